/-
  Of layer 8 of sorrel: whatever arguments come in, the law HeapMarks returns true, and what was handed in reads as it did: marks in marks: what is done behind the second one is undone by it alone, and what was done between by the first one. No condition.
-/
import Derived.Test.YtefnmjoapmnkbaaZr8
import Derived.OrdersHeld
import Derived.Deep.RegionHeld3
set_option linter.unusedVariables false
namespace Go.Proofs.Ytefnmjoapmnkbaa
open Go.RowKit

/-! ### HeapMarks -/
set_option maxRecDepth 100000 in
set_option maxHeartbeats 16000000 in
theorem lawMarks_any (HD : ∀ w : World, Calls Try.prog 12 #[] w fun e w' => e = .returned (.bool true) ∧ Below w.heap.size w w')
    (a : Option Addr) (cap : Nat) (a' : Option Addr) (cap' : Nat) (r : Int) (b : Option Addr) (cb : Nat) (c : Option Addr) (cc : Nat) (x1 y1 x2 y2 : Int) (w : World) (l : List Cel) (ts : List Int) (T1 T2 : List Cel)
    (hr : Row w a cap l) (ht : Row w a' cap' ts) (h1 : Row w b cb T1) (h2 : Row w c cc T2) (f1 : pfit (x1, y1)) (f2 : pfit (x2, y2)) :
    Calls Try.prog 10 #[hv a l.length cap a' ts.length cap' r, opV b T1.length cb x1 y1, opV c T2.length cc x2 y2] w fun e w' => e = .returned (.bool true) ∧ Below w.heap.size w w' := by
  have hm := hr.max
  have hle := hr.le
  have hm2 := ht.max
  have hle2 := ht.le
  have hm3 := h2.max
  have hle3 := h2.le
  have HR := mkHid hr
  have HT := mkHid ht
  have H2 := mkHid h2
  have F1 := mkHid f1
  have F2 := mkHid f2
  clear hr ht h1 h2 f1 f2
  unfold opV
  go_enter Try.func10, Try.ntmps10
  have HB := mkHid (Below.refl w.heap.size w)
  go_wp2_with fail
  obtain ⟨W, hW⟩ : ∃ V, ((w.alloc (.cells #[(.slice a l.length cap), (.slice a' ts.length cap'), (.int .i64 r)] 25)).alloc (.cells #[(.slice b T1.length cb), (.int .i64 x1), (.int .i64 y1)] 28)).alloc (.cells #[(.slice c T2.length cc), (.int .i64 x2), (.int .i64 y2)] 28) = V := ⟨_, rfl⟩
  have hb0 : Below w.heap.size w W := by rw [← hW]; exact (((Below.refl _ _).new _).new _).new _
  have q0 : C38 W w.heap.size (.slice a l.length cap) (.slice a' ts.length cap') (.int .i64 r) := by rw [← hW]; exact ((C38.new w _ _ _ _).below ((Below.refl _ _).new _)).below ((Below.refl _ _).new _)
  have q1 : C38 W (w.heap.size + 1) (.slice b T1.length cb) (.int .i64 x1) (.int .i64 y1) := by
    have h := C38.new (w.alloc (.cells #[(.slice a l.length cap), (.slice a' ts.length cap'), (.int .i64 r)] 25)) (.slice b T1.length cb) (.int .i64 x1) (.int .i64 y1) 28
    rw [World.size_alloc] at h
    rw [← hW]; exact h.below ((Below.refl _ _).new _)
  have q2 : C38 W (w.heap.size + 1 + 1) (.slice c T2.length cc) (.int .i64 x2) (.int .i64 y2) := by
    have h := C38.new ((w.alloc (.cells #[(.slice a l.length cap), (.slice a' ts.length cap'), (.int .i64 r)] 25)).alloc (.cells #[(.slice b T1.length cb), (.int .i64 x1), (.int .i64 y1)] 28)) (.slice c T2.length cc) (.int .i64 x2) (.int .i64 y2) 28
    rw [World.size_alloc, World.size_alloc] at h
    rw [← hW]; exact h
  rw [hW]
  clear hW
  obtain ⟨B0, hB0⟩ : ∃ V, w.heap.size = V := ⟨_, rfl⟩
  rw [hB0] at q0 q1 q2 ⊢
  have HB00 := mkHid hB0
  clear hB0
  replace HR := mkHid (HR.out.below hb0)
  replace HT := mkHid (HT.out.below hb0)
  replace H2 := mkHid (H2.out.below hb0)
  replace HB := mkHid (HB.out.then hb0)
  have X0 := mkHid q0
  have X1 := mkHid q1
  have X2 := mkHid q2
  clear q0 q1 q2 hb0
  refine (HD _).mono ?_
  rintro e w1 ⟨rfl, hw1⟩
  replace HR := mkHid (HR.out.below hw1)
  replace HT := mkHid (HT.out.below hw1)
  replace H2 := mkHid (H2.out.below hw1)
  replace X0 := mkHid (X0.out.below hw1)
  replace X1 := mkHid (X1.out.below hw1)
  replace X2 := mkHid (X2.out.below hw1)
  replace HB := mkHid (HB.out.then hw1)
  clear hw1
  have k0 := X0.out.lt
  obtain ⟨j00, j01, j02⟩ := X0.out
  go_wp2_with fail
  clear j00 j01 j02 k0
  refine (may8_any a cap a' cap' r _ l ts HR.out HT.out).mono ?_
  rintro e w2 ⟨⟨t, rfl, hMay⟩, hw2⟩
  replace HR := mkHid (HR.out.below hw2)
  replace HT := mkHid (HT.out.below hw2)
  replace H2 := mkHid (H2.out.below hw2)
  replace X0 := mkHid (X0.out.below hw2)
  replace X1 := mkHid (X1.out.below hw2)
  replace X2 := mkHid (X2.out.below hw2)
  replace HB := mkHid (HB.out.then hw2)
  clear hw2
  have HM := mkHid hMay
  clear hMay
  cases t with
  | false =>
    go_wp2_with fail
    go_ret
    exact ⟨ret_bool rfl, HB.out⟩
  | true =>
    have HMP := mkHid (HM.out.1 (by first | rfl | trivial))
    have hl1 := HMP.out.1
    have hl2 := HMP.out.2.1
    have k0 := X0.out.lt
    obtain ⟨j00, j01, j02⟩ := X0.out
    go_wp2_with fail
    clear j00 j01 j02 k0
    refine (markK _ rfl rfl).mono ?_
    rintro e w3 ⟨a3, c3, rfl, hw3⟩
    replace HR := mkHid (HR.out.below hw3)
    replace HT := mkHid (HT.out.below hw3)
    replace H2 := mkHid (H2.out.below hw3)
    replace X0 := mkHid (X0.out.below hw3)
    replace X1 := mkHid (X1.out.below hw3)
    replace X2 := mkHid (X2.out.below hw3)
    replace HB := mkHid (HB.out.then hw3)
    clear hw3
    have k0 := X0.out.lt
    obtain ⟨j00, j01, j02⟩ := X0.out
    have k1 := X1.out.lt
    obtain ⟨j10, j11, j12⟩ := X1.out
    have k2 := X2.out.lt
    obtain ⟨j20, j21, j22⟩ := X2.out
    go_wp2_with fail
    clear j00 j01 j02 j10 j11 j12 j20 j21 j22 k0 k1 k2
    have q0 := C38.new w3 (.int .i64 (l.length : Int)) (.int .i64 (ts.length : Int)) (.slice a3 0 c3) 43
    have hw4 := (Below.refl w3.heap.size w3).new (.cells #[.int .i64 (l.length : Int), .int .i64 (ts.length : Int), .slice a3 0 c3] 43)
    replace HR := mkHid (HR.out.below hw4)
    replace HT := mkHid (HT.out.below hw4)
    replace H2 := mkHid (H2.out.below hw4)
    replace X0 := mkHid (X0.out.below hw4)
    replace X1 := mkHid (X1.out.below hw4)
    replace X2 := mkHid (X2.out.below hw4)
    replace HB := mkHid (HB.out.then hw4)
    obtain ⟨w4, hV⟩ : ∃ V, w3.alloc (.cells #[.int .i64 (l.length : Int), .int .i64 (ts.length : Int), .slice a3 0 c3] 43) = V := ⟨_, rfl⟩
    obtain ⟨G3, hG⟩ : ∃ V, w3.heap.size = V := ⟨_, rfl⟩
    rw [hV] at HR HT H2 X0 X1 X2 HB q0 ⊢
    rw [hG] at q0 ⊢
    have X3 := mkHid q0
    clear hV hG q0 hw4
    refine (hunify a cap a' cap' r x1 y1 _ l ts HR.out HT.out (by omega) (by omega) F1.out (few_of_slots HMP.out.2.2.slots)).mono ?_
    rintro e w5 ⟨xs1, ts1, t1, a4, c4, a5, c5, rfl, hU, r4, s4, hw5⟩
    obtain ⟨L1, hL1⟩ := uout_bnd hU
    have HL1 := mkHid hL1
    clear hU hL1
    replace HR := mkHid (HR.out.below hw5)
    replace HT := mkHid (HT.out.below hw5)
    replace H2 := mkHid (H2.out.below hw5)
    replace X0 := mkHid (X0.out.below hw5)
    replace X1 := mkHid (X1.out.below hw5)
    replace X2 := mkHid (X2.out.below hw5)
    replace X3 := mkHid (X3.out.below hw5)
    replace HB := mkHid (HB.out.then hw5)
    clear hw5
    have R4 := mkHid (r4.row)
    have S4 := mkHid (s4.row)
    clear r4 s4
    have k0 := X0.out.lt
    obtain ⟨j00, j01, j02⟩ := X0.out
    have k1 := X1.out.lt
    obtain ⟨j10, j11, j12⟩ := X1.out
    have k2 := X2.out.lt
    obtain ⟨j20, j21, j22⟩ := X2.out
    have k3 := X3.out.lt
    obtain ⟨j30, j31, j32⟩ := X3.out
    go_wp2_with fail
    clear j00 j01 j02 j10 j11 j12 j20 j21 j22 j30 j31 j32 k0 k1 k2 k3
    have hx1 : xs1.length ≤ 120 := by have := HL1.out.len; omega
    have ht1 : ts1.length ≤ 240 := by have := HL1.out.trail; omega
    have q0 := C38.new w5 (.slice a4 xs1.length c4) (.slice a5 ts1.length c5) (.int .i64 r) 25
    have hw6 := (Below.refl w5.heap.size w5).new (.cells #[.slice a4 xs1.length c4, .slice a5 ts1.length c5, .int .i64 r] 25)
    replace HR := mkHid (HR.out.below hw6)
    replace HT := mkHid (HT.out.below hw6)
    replace H2 := mkHid (H2.out.below hw6)
    replace X0 := mkHid (X0.out.below hw6)
    replace X1 := mkHid (X1.out.below hw6)
    replace X2 := mkHid (X2.out.below hw6)
    replace X3 := mkHid (X3.out.below hw6)
    replace R4 := mkHid (R4.out.below hw6)
    replace S4 := mkHid (S4.out.below hw6)
    replace HB := mkHid (HB.out.then hw6)
    obtain ⟨w6, hV⟩ : ∃ V, w5.alloc (.cells #[.slice a4 xs1.length c4, .slice a5 ts1.length c5, .int .i64 r] 25) = V := ⟨_, rfl⟩
    obtain ⟨G9, hG⟩ : ∃ V, w5.heap.size = V := ⟨_, rfl⟩
    rw [hV] at HR HT H2 X0 X1 X2 X3 R4 S4 HB q0 ⊢
    rw [hG] at q0 ⊢
    have X9 := mkHid q0
    clear hV hG q0 hw6
    refine (markK _ rfl rfl).mono ?_
    rintro e w7 ⟨a6, c6, rfl, hw7⟩
    replace HR := mkHid (HR.out.below hw7)
    replace HT := mkHid (HT.out.below hw7)
    replace H2 := mkHid (H2.out.below hw7)
    replace X0 := mkHid (X0.out.below hw7)
    replace X1 := mkHid (X1.out.below hw7)
    replace X2 := mkHid (X2.out.below hw7)
    replace X3 := mkHid (X3.out.below hw7)
    replace R4 := mkHid (R4.out.below hw7)
    replace S4 := mkHid (S4.out.below hw7)
    replace X9 := mkHid (X9.out.below hw7)
    replace HB := mkHid (HB.out.then hw7)
    clear hw7
    have k0 := X0.out.lt
    obtain ⟨j00, j01, j02⟩ := X0.out
    have k1 := X1.out.lt
    obtain ⟨j10, j11, j12⟩ := X1.out
    have k2 := X2.out.lt
    obtain ⟨j20, j21, j22⟩ := X2.out
    have k3 := X3.out.lt
    obtain ⟨j30, j31, j32⟩ := X3.out
    have k9 := X9.out.lt
    obtain ⟨j90, j91, j92⟩ := X9.out
    go_wp2_with fail
    clear j00 j01 j02 j10 j11 j12 j20 j21 j22 j30 j31 j32 j90 j91 j92 k0 k1 k2 k3 k9
    have q0 := C38.new w7 (.int .i64 (xs1.length : Int)) (.int .i64 (ts1.length : Int)) (.slice a6 0 c6) 43
    have hw8 := (Below.refl w7.heap.size w7).new (.cells #[.int .i64 (xs1.length : Int), .int .i64 (ts1.length : Int), .slice a6 0 c6] 43)
    replace HR := mkHid (HR.out.below hw8)
    replace HT := mkHid (HT.out.below hw8)
    replace H2 := mkHid (H2.out.below hw8)
    replace X0 := mkHid (X0.out.below hw8)
    replace X1 := mkHid (X1.out.below hw8)
    replace X2 := mkHid (X2.out.below hw8)
    replace X3 := mkHid (X3.out.below hw8)
    replace R4 := mkHid (R4.out.below hw8)
    replace S4 := mkHid (S4.out.below hw8)
    replace X9 := mkHid (X9.out.below hw8)
    replace HB := mkHid (HB.out.then hw8)
    obtain ⟨w8, hV⟩ : ∃ V, w7.alloc (.cells #[.int .i64 (xs1.length : Int), .int .i64 (ts1.length : Int), .slice a6 0 c6] 43) = V := ⟨_, rfl⟩
    obtain ⟨GB, hG⟩ : ∃ V, w7.heap.size = V := ⟨_, rfl⟩
    rw [hV] at HR HT H2 X0 X1 X2 X3 R4 S4 X9 HB q0 ⊢
    rw [hG] at q0 ⊢
    have XB := mkHid q0
    clear hV hG q0 hw8
    refine (hunify a4 c4 a5 c5 r x2 y2 _ xs1 ts1 R4.out S4.out (by omega) (by omega) F2.out (HL1.out.few (few_of_slots HMP.out.2.2.slots))).mono ?_
    rintro e w9 ⟨xs2, ts2, t2, a7, c7, a8, c8, rfl, hU, r7, s7, hw9⟩
    obtain ⟨L2, hL2⟩ := uout_bnd hU
    have HL2 := mkHid hL2
    clear hU hL2
    replace HR := mkHid (HR.out.below hw9)
    replace HT := mkHid (HT.out.below hw9)
    replace H2 := mkHid (H2.out.below hw9)
    replace X0 := mkHid (X0.out.below hw9)
    replace X1 := mkHid (X1.out.below hw9)
    replace X2 := mkHid (X2.out.below hw9)
    replace X3 := mkHid (X3.out.below hw9)
    replace R4 := mkHid (R4.out.below hw9)
    replace S4 := mkHid (S4.out.below hw9)
    replace X9 := mkHid (X9.out.below hw9)
    replace XB := mkHid (XB.out.below hw9)
    replace HB := mkHid (HB.out.then hw9)
    clear hw9
    have R7 := mkHid (r7.row)
    have S7 := mkHid (s7.row)
    clear r7 s7
    have hx2 : xs2.length ≤ 120 := by have := HL2.out.len; omega
    have ht2 : ts2.length ≤ 360 := by have := HL2.out.trail; omega
    have HL12 := mkHid (HL1.out.trans HL2.out)
    by_cases h210 : (T2.length : Int) ≤ 210
    rotate_left
    · skip
      have k0 := X0.out.lt
      obtain ⟨j00, j01, j02⟩ := X0.out
      have k1 := X1.out.lt
      obtain ⟨j10, j11, j12⟩ := X1.out
      have k2 := X2.out.lt
      obtain ⟨j20, j21, j22⟩ := X2.out
      have k3 := X3.out.lt
      obtain ⟨j30, j31, j32⟩ := X3.out
      have k9 := X9.out.lt
      obtain ⟨j90, j91, j92⟩ := X9.out
      have kB := XB.out.lt
      obtain ⟨jB0, jB1, jB2⟩ := XB.out
      go_wp2_with fail
      clear j00 j01 j02 j10 j11 j12 j20 j21 j22 j30 j31 j32 j90 j91 j92 jB0 jB1 jB2 k0 k1 k2 k3 k9 kB
      have q0 := C38.new w9 (.slice a7 xs2.length c7) (.slice a8 ts2.length c8) (.int .i64 r) 25
      have hw10 := (Below.refl w9.heap.size w9).new (.cells #[.slice a7 xs2.length c7, .slice a8 ts2.length c8, .int .i64 r] 25)
      replace HR := mkHid (HR.out.below hw10)
      replace HT := mkHid (HT.out.below hw10)
      replace H2 := mkHid (H2.out.below hw10)
      replace X0 := mkHid (X0.out.below hw10)
      replace X1 := mkHid (X1.out.below hw10)
      replace X2 := mkHid (X2.out.below hw10)
      replace X3 := mkHid (X3.out.below hw10)
      replace R4 := mkHid (R4.out.below hw10)
      replace S4 := mkHid (S4.out.below hw10)
      replace X9 := mkHid (X9.out.below hw10)
      replace XB := mkHid (XB.out.below hw10)
      replace R7 := mkHid (R7.out.below hw10)
      replace S7 := mkHid (S7.out.below hw10)
      replace HB := mkHid (HB.out.then hw10)
      obtain ⟨w10, hV⟩ : ∃ V, w9.alloc (.cells #[.slice a7 xs2.length c7, .slice a8 ts2.length c8, .int .i64 r] 25) = V := ⟨_, rfl⟩
      obtain ⟨GC, hG⟩ : ∃ V, w9.heap.size = V := ⟨_, rfl⟩
      rw [hV] at HR HT H2 X0 X1 X2 X3 R4 S4 X9 XB R7 S7 HB q0 ⊢
      rw [hG] at q0 ⊢
      have XC := mkHid q0
      clear hV hG q0 hw10
      refine (undoB HL2.out (by rw [← HL2.out.len]; exact List.take_length) R7.out S7.out (by omega) (by omega)).mono ?_
      rintro e w11 ⟨a9, c9, a10, c10, rfl, r9, s9, hw11⟩
      replace HR := mkHid (HR.out.below hw11)
      replace HT := mkHid (HT.out.below hw11)
      replace H2 := mkHid (H2.out.below hw11)
      replace X0 := mkHid (X0.out.below hw11)
      replace X1 := mkHid (X1.out.below hw11)
      replace X2 := mkHid (X2.out.below hw11)
      replace X3 := mkHid (X3.out.below hw11)
      replace R4 := mkHid (R4.out.below hw11)
      replace S4 := mkHid (S4.out.below hw11)
      replace X9 := mkHid (X9.out.below hw11)
      replace XB := mkHid (XB.out.below hw11)
      replace R7 := mkHid (R7.out.below hw11)
      replace S7 := mkHid (S7.out.below hw11)
      replace XC := mkHid (XC.out.below hw11)
      replace HB := mkHid (HB.out.then hw11)
      clear hw11
      have R9 := mkHid (r9)
      have S9 := mkHid (s9)
      clear r9 s9
      have k0 := X0.out.lt
      obtain ⟨j00, j01, j02⟩ := X0.out
      have k1 := X1.out.lt
      obtain ⟨j10, j11, j12⟩ := X1.out
      have k2 := X2.out.lt
      obtain ⟨j20, j21, j22⟩ := X2.out
      have k3 := X3.out.lt
      obtain ⟨j30, j31, j32⟩ := X3.out
      have k9 := X9.out.lt
      obtain ⟨j90, j91, j92⟩ := X9.out
      have kB := XB.out.lt
      obtain ⟨jB0, jB1, jB2⟩ := XB.out
      have kC := XC.out.lt
      obtain ⟨jC0, jC1, jC2⟩ := XC.out
      go_wp2_with fail
      clear j00 j01 j02 j10 j11 j12 j20 j21 j22 j30 j31 j32 j90 j91 j92 jB0 jB1 jB2 jC0 jC1 jC2 k0 k1 k2 k3 k9 kB kC
      have q0 := C38.new w11 (.slice a9 xs1.length c9) (.slice a10 ts1.length c10) (.int .i64 r) 25
      have hw12 := (Below.refl w11.heap.size w11).new (.cells #[.slice a9 xs1.length c9, .slice a10 ts1.length c10, .int .i64 r] 25)
      replace HR := mkHid (HR.out.below hw12)
      replace HT := mkHid (HT.out.below hw12)
      replace H2 := mkHid (H2.out.below hw12)
      replace X0 := mkHid (X0.out.below hw12)
      replace X1 := mkHid (X1.out.below hw12)
      replace X2 := mkHid (X2.out.below hw12)
      replace X3 := mkHid (X3.out.below hw12)
      replace R4 := mkHid (R4.out.below hw12)
      replace S4 := mkHid (S4.out.below hw12)
      replace X9 := mkHid (X9.out.below hw12)
      replace XB := mkHid (XB.out.below hw12)
      replace R7 := mkHid (R7.out.below hw12)
      replace S7 := mkHid (S7.out.below hw12)
      replace XC := mkHid (XC.out.below hw12)
      replace R9 := mkHid (R9.out.below hw12)
      replace S9 := mkHid (S9.out.below hw12)
      replace HB := mkHid (HB.out.then hw12)
      obtain ⟨w12, hV⟩ : ∃ V, w11.alloc (.cells #[.slice a9 xs1.length c9, .slice a10 ts1.length c10, .int .i64 r] 25) = V := ⟨_, rfl⟩
      obtain ⟨GD, hG⟩ : ∃ V, w11.heap.size = V := ⟨_, rfl⟩
      rw [hV] at HR HT H2 X0 X1 X2 X3 R4 S4 X9 XB R7 S7 XC R9 S9 HB q0 ⊢
      rw [hG] at q0 ⊢
      have XD := mkHid q0
      clear hV hG q0 hw12
      have HS : Hid (∀ X, Below w12.heap.size w12 X → (fun X => C38 X GD (.slice a9 xs1.length c9) (.slice a10 ts1.length c10) (.int .i64 r) ∧ C38 X G9 (.slice a4 xs1.length c4) (.slice a5 ts1.length c5) (.int .i64 r) ∧ C38 X GC (.slice a7 xs2.length c7) (.slice a8 ts2.length c8) (.int .i64 r) ∧ C38 X G3 (.int .i64 (l.length : Int)) (.int .i64 (ts.length : Int)) (.slice a3 0 c3) ∧ C38 X B0 (.slice a l.length cap) (.slice a' ts.length cap') (.int .i64 r)) X) := fun X h => ⟨XD.out.below h, X9.out.below h, XC.out.below h, X3.out.below h, X0.out.below h⟩
      have hd0 : Below w12.heap.size w12 w12.drew := (Below.refl _ _).drew
      refine wp_region_noPanic ?_
      refine wp_region_held_drew (S := fun X => C38 X GD (.slice a9 xs1.length c9) (.slice a10 ts1.length c10) (.int .i64 r) ∧ C38 X G9 (.slice a4 xs1.length c4) (.slice a5 ts1.length c5) (.int .i64 r) ∧ C38 X GC (.slice a7 xs2.length c7) (.slice a8 ts2.length c8) (.int .i64 r) ∧ C38 X G3 (.int .i64 (l.length : Int)) (.int .i64 (ts.length : Int)) (.slice a3 0 c3) ∧ C38 X B0 (.slice a l.length cap) (.slice a' ts.length cap') (.int .i64 r)) (by kernel_rfl) (HS.out _ hd0) (fun hSd => ?_)
      obtain ⟨v0, hx0⟩ : ∃ X, w12.drew = X := ⟨_, rfl⟩
      rw [hx0] at hd0 hSd ⊢
      clear hx0
      refine wpAnyH_take (i := 0) (oi := _) (v := ?_) rfl (by kernel_rfl) (by kernel_rfl) (by kernel_rfl) (fun _ _ _ h => h) (Or.inl ⟨by rfl, ?_⟩) (by assumption) ?_
      rotate_left
      · (intro w' hSw; obtain ⟨⟨q0, q1, q2⟩, ⟨q3, q4, q5⟩, ⟨q6, q7, q8⟩, ⟨q9, q10, q11⟩, ⟨q12, q13, q14⟩⟩ := hSw; go_simp; try with_reducible rfl)
      (try simp only [List.getElem_toArray, List.getElem_cons_succ, List.getElem_cons_zero, Act.put, List.setIfInBounds_toArray, List.set_cons_zero, List.set_cons_succ])
      refine wpAnyH_take (i := 1) (oi := _) (v := ?_) rfl (by kernel_rfl) (by kernel_rfl) (by kernel_rfl) (fun _ _ _ h => h) (Or.inl ⟨by rfl, ?_⟩) (by assumption) ?_
      rotate_left
      · (intro w' hSw; obtain ⟨⟨q0, q1, q2⟩, ⟨q3, q4, q5⟩, ⟨q6, q7, q8⟩, ⟨q9, q10, q11⟩, ⟨q12, q13, q14⟩⟩ := hSw; go_simp; try with_reducible rfl)
      (try simp only [List.getElem_toArray, List.getElem_cons_succ, List.getElem_cons_zero, Act.put, List.setIfInBounds_toArray, List.set_cons_zero, List.set_cons_succ])
      refine wpAnyH_ready (rs := [2]) (by kernel_rfl) (by simp) ?_
      refine AllReadyH.cons (o := _) rfl (fun K hK => ?_) AllReadyH.nil
      go_simp
      refine (sameK (R9.out.below hd0) (R4.out.below hd0) (S9.out.below hd0) (S4.out.below hd0) rfl rfl).mono ?_
      rintro e v1 ⟨rfl, hbv1⟩
      have hd1 := hd0.then hbv1
      try dsimp only
      refine hK.out _ _ (HS.out _ hd1) (fun hS1 => ?_)
      clear hK K hbv1
      (try simp only [List.getElem_toArray, List.getElem_cons_succ, List.getElem_cons_zero, Act.put, List.setIfInBounds_toArray, List.set_cons_zero, List.set_cons_succ])
      refine wpAnyH_take (i := 3) (oi := _) (v := ?_) rfl (by kernel_rfl) (by kernel_rfl) (by kernel_rfl) (fun _ _ _ h => h) (Or.inl ⟨by rfl, ?_⟩) (by assumption) ?_
      rotate_left
      · (intro w' hSw; obtain ⟨⟨q0, q1, q2⟩, ⟨q3, q4, q5⟩, ⟨q6, q7, q8⟩, ⟨q9, q10, q11⟩, ⟨q12, q13, q14⟩⟩ := hSw; go_simp; try with_reducible rfl)
      (try simp only [List.getElem_toArray, List.getElem_cons_succ, List.getElem_cons_zero, Act.put, List.setIfInBounds_toArray, List.set_cons_zero, List.set_cons_succ])
      refine wpAnyH_take (i := 4) (oi := _) (v := ?_) rfl (by kernel_rfl) (by kernel_rfl) (by kernel_rfl) (fun _ _ _ h => h) (Or.inl ⟨by rfl, ?_⟩) (by assumption) ?_
      rotate_left
      · (intro w' hSw; obtain ⟨⟨q0, q1, q2⟩, ⟨q3, q4, q5⟩, ⟨q6, q7, q8⟩, ⟨q9, q10, q11⟩, ⟨q12, q13, q14⟩⟩ := hSw; go_simp; try with_reducible rfl)
      (try simp only [List.getElem_toArray, List.getElem_cons_succ, List.getElem_cons_zero, Act.put, List.setIfInBounds_toArray, List.set_cons_zero, List.set_cons_succ])
      refine wpAnyH_take (i := 5) (oi := _) (v := ?_) rfl (by kernel_rfl) (by kernel_rfl) (by kernel_rfl) (fun _ _ _ h => h) (Or.inl ⟨by rfl, ?_⟩) (by assumption) ?_
      rotate_left
      · (intro w' hSw; obtain ⟨⟨q0, q1, q2⟩, ⟨q3, q4, q5⟩, ⟨q6, q7, q8⟩, ⟨q9, q10, q11⟩, ⟨q12, q13, q14⟩⟩ := hSw; go_simp; try with_reducible rfl)
      (try simp only [List.getElem_toArray, List.getElem_cons_succ, List.getElem_cons_zero, Act.put, List.setIfInBounds_toArray, List.set_cons_zero, List.set_cons_succ])
      refine wpAnyH_take (i := 7) (oi := _) (v := ?_) rfl (by kernel_rfl) (by kernel_rfl) (by kernel_rfl) (fun _ _ _ h => h) (Or.inl ⟨by rfl, ?_⟩) (by assumption) ?_
      rotate_left
      · (intro w' hSw; obtain ⟨⟨q0, q1, q2⟩, ⟨q3, q4, q5⟩, ⟨q6, q7, q8⟩, ⟨q9, q10, q11⟩, ⟨q12, q13, q14⟩⟩ := hSw; go_simp; try with_reducible rfl)
      (try simp only [List.getElem_toArray, List.getElem_cons_succ, List.getElem_cons_zero, Act.put, List.setIfInBounds_toArray, List.set_cons_zero, List.set_cons_succ])
      refine wpAnyH_ready (rs := [6]) (by kernel_rfl) (by simp) ?_
      refine AllReadyH.cons (o := _) rfl (fun K hK => ?_) AllReadyH.nil
      go_simp
      refine (undoB HL12.out (by rw [← HL12.out.len]; exact List.take_length) (R7.out.below hd1) (S7.out.below hd1) (by omega) (by omega)).mono ?_
      rintro e v2 ⟨u1, u2, u3, u4, rfl, zr, zs, hbv2⟩
      have hd2 := hd1.then hbv2
      have ZR := mkHid zr
      clear zr
      have ZS := mkHid zs
      clear zs
      try dsimp only
      refine hK.out _ _ (HS.out _ hd2) (fun hS2 => ?_)
      clear hK K hbv2
      (try simp only [List.getElem_toArray, List.getElem_cons_succ, List.getElem_cons_zero, Act.put, List.setIfInBounds_toArray, List.set_cons_zero, List.set_cons_succ])
      refine wpAnyH_ready (rs := [8]) (by kernel_rfl) (by simp) ?_
      refine AllReadyH.cons (o := _) rfl (fun K hK => ?_) AllReadyH.nil
      go_simp
      refine (sameK ZR.out (HR.out.below hd2) ZS.out (HT.out.below hd2) rfl rfl).mono ?_
      rintro e v3 ⟨rfl, hbv3⟩
      have hd3 := hd2.then hbv3
      try dsimp only
      refine hK.out _ _ (HS.out _ hd3) (fun hS3 => ?_)
      clear hK K hbv3
      (try simp only [List.getElem_toArray, List.getElem_cons_succ, List.getElem_cons_zero, Act.put, List.setIfInBounds_toArray, List.set_cons_zero, List.set_cons_succ])
      refine wpAnyH_take (i := 9) (oi := _) (v := ?_) rfl (by kernel_rfl) (by kernel_rfl) (by kernel_rfl) (fun _ _ _ h => h) (Or.inl ⟨by rfl, ?_⟩) (by assumption) ?_
      rotate_left
      · (intro w' hSw; obtain ⟨⟨q0, q1, q2⟩, ⟨q3, q4, q5⟩, ⟨q6, q7, q8⟩, ⟨q9, q10, q11⟩, ⟨q12, q13, q14⟩⟩ := hSw; go_simp; try with_reducible rfl)
      (try simp only [List.getElem_toArray, List.getElem_cons_succ, List.getElem_cons_zero, Act.put, List.setIfInBounds_toArray, List.set_cons_zero, List.set_cons_succ])
      refine wpAnyH_take (i := 10) (oi := _) (v := ?_) rfl (by kernel_rfl) (by kernel_rfl) (by kernel_rfl) (fun _ _ _ h => h) (Or.inl ⟨by rfl, ?_⟩) (by assumption) ?_
      rotate_left
      · (intro w' hSw; obtain ⟨⟨q0, q1, q2⟩, ⟨q3, q4, q5⟩, ⟨q6, q7, q8⟩, ⟨q9, q10, q11⟩, ⟨q12, q13, q14⟩⟩ := hSw; go_simp; try with_reducible rfl)
      (try simp only [List.getElem_toArray, List.getElem_cons_succ, List.getElem_cons_zero, Act.put, List.setIfInBounds_toArray, List.set_cons_zero, List.set_cons_succ])
      refine wpAnyH_take (i := 11) (oi := _) (v := ?_) rfl (by kernel_rfl) (by kernel_rfl) (by kernel_rfl) (fun _ _ _ h => h) (Or.inl ⟨by rfl, ?_⟩) (by assumption) ?_
      rotate_left
      · (intro w' hSw; obtain ⟨⟨q0, q1, q2⟩, ⟨q3, q4, q5⟩, ⟨q6, q7, q8⟩, ⟨q9, q10, q11⟩, ⟨q12, q13, q14⟩⟩ := hSw; go_simp; try with_reducible rfl)
      (try simp only [List.getElem_toArray, List.getElem_cons_succ, List.getElem_cons_zero, Act.put, List.setIfInBounds_toArray, List.set_cons_zero, List.set_cons_succ])
      refine wpAnyH_take (i := 12) (oi := _) (v := ?_) rfl (by kernel_rfl) (by kernel_rfl) (by kernel_rfl) (fun _ _ _ h => h) (Or.inl ⟨by rfl, ?_⟩) (by assumption) ?_
      rotate_left
      · (intro w' hSw; obtain ⟨⟨q0, q1, q2⟩, ⟨q3, q4, q5⟩, ⟨q6, q7, q8⟩, ⟨q9, q10, q11⟩, ⟨q12, q13, q14⟩⟩ := hSw; go_simp; try with_reducible rfl)
      (try simp only [List.getElem_toArray, List.getElem_cons_succ, List.getElem_cons_zero, Act.put, List.setIfInBounds_toArray, List.set_cons_zero, List.set_cons_succ])
      refine wpAnyH_take (i := 14) (oi := _) (v := ?_) rfl (by kernel_rfl) (by kernel_rfl) (by kernel_rfl) (fun _ _ _ h => h) (Or.inl ⟨by rfl, ?_⟩) (by assumption) ?_
      rotate_left
      · (intro w' hSw; obtain ⟨⟨q0, q1, q2⟩, ⟨q3, q4, q5⟩, ⟨q6, q7, q8⟩, ⟨q9, q10, q11⟩, ⟨q12, q13, q14⟩⟩ := hSw; go_simp; try with_reducible rfl)
      (try simp only [List.getElem_toArray, List.getElem_cons_succ, List.getElem_cons_zero, Act.put, List.setIfInBounds_toArray, List.set_cons_zero, List.set_cons_succ])
      refine wpAnyH_ready (rs := [13]) (by kernel_rfl) (by simp) ?_
      refine AllReadyH.cons (o := _) rfl (fun K hK => ?_) AllReadyH.nil
      go_simp
      refine (undoB HL1.out (by rw [← HL1.out.len]; exact List.take_length) (R9.out.below hd3) (S9.out.below hd3) (by omega) (by omega)).mono ?_
      rintro e v4 ⟨u5, u6, u7, u8, rfl, zr, zs, hbv4⟩
      have hd4 := hd3.then hbv4
      have ZR2 := mkHid zr
      clear zr
      have ZS2 := mkHid zs
      clear zs
      try dsimp only
      refine hK.out _ _ (HS.out _ hd4) (fun hS4 => ?_)
      clear hK K hbv4
      (try simp only [List.getElem_toArray, List.getElem_cons_succ, List.getElem_cons_zero, Act.put, List.setIfInBounds_toArray, List.set_cons_zero, List.set_cons_succ])
      refine wpAnyH_ready (rs := [15]) (by kernel_rfl) (by simp) ?_
      refine AllReadyH.cons (o := _) rfl (fun K hK => ?_) AllReadyH.nil
      go_simp
      refine (sameK ZR2.out (HR.out.below hd4) ZS2.out (HT.out.below hd4) rfl rfl).mono ?_
      rintro e v5 ⟨rfl, hbv5⟩
      have hd5 := hd4.then hbv5
      try dsimp only
      refine hK.out _ _ (HS.out _ hd5) (fun hS5 => ?_)
      clear hK K hbv5
      (try simp only [List.getElem_toArray, List.getElem_cons_succ, List.getElem_cons_zero, Act.put, List.setIfInBounds_toArray, List.set_cons_zero, List.set_cons_succ])
      refine wpAnyH_take (i := 16) (oi := _) (v := ?_) rfl (by kernel_rfl) (by kernel_rfl) (by kernel_rfl) (fun _ _ _ h => h) (Or.inl ⟨by rfl, ?_⟩) (by assumption) ?_
      rotate_left
      · (intro w' hSw; obtain ⟨⟨q0, q1, q2⟩, ⟨q3, q4, q5⟩, ⟨q6, q7, q8⟩, ⟨q9, q10, q11⟩, ⟨q12, q13, q14⟩⟩ := hSw; go_simp; try with_reducible rfl)
      (try simp only [List.getElem_toArray, List.getElem_cons_succ, List.getElem_cons_zero, Act.put, List.setIfInBounds_toArray, List.set_cons_zero, List.set_cons_succ])
      refine wpAnyH_take (i := 17) (oi := _) (v := ?_) rfl (by kernel_rfl) (by kernel_rfl) (by kernel_rfl) (fun _ _ _ h => h) (Or.inl ⟨by rfl, ?_⟩) (by assumption) ?_
      rotate_left
      · (intro w' hSw; obtain ⟨⟨q0, q1, q2⟩, ⟨q3, q4, q5⟩, ⟨q6, q7, q8⟩, ⟨q9, q10, q11⟩, ⟨q12, q13, q14⟩⟩ := hSw; go_simp; try with_reducible rfl)
      (try simp only [List.getElem_toArray, List.getElem_cons_succ, List.getElem_cons_zero, Act.put, List.setIfInBounds_toArray, List.set_cons_zero, List.set_cons_succ])
      refine wpAnyH_take (i := 18) (oi := _) (v := ?_) rfl (by kernel_rfl) (by kernel_rfl) (by kernel_rfl) (fun _ _ _ h => h) (Or.inl ⟨by rfl, ?_⟩) (by assumption) ?_
      rotate_left
      · (intro w' hSw; obtain ⟨⟨q0, q1, q2⟩, ⟨q3, q4, q5⟩, ⟨q6, q7, q8⟩, ⟨q9, q10, q11⟩, ⟨q12, q13, q14⟩⟩ := hSw; go_simp; try with_reducible rfl)
      (try simp only [List.getElem_toArray, List.getElem_cons_succ, List.getElem_cons_zero, Act.put, List.setIfInBounds_toArray, List.set_cons_zero, List.set_cons_succ])
      refine wpAnyH_take (i := 19) (oi := _) (v := ?_) rfl (by kernel_rfl) (by kernel_rfl) (by kernel_rfl) (fun _ _ _ h => h) (Or.inl ⟨by rfl, ?_⟩) (by assumption) ?_
      rotate_left
      · (intro w' hSw; obtain ⟨⟨q0, q1, q2⟩, ⟨q3, q4, q5⟩, ⟨q6, q7, q8⟩, ⟨q9, q10, q11⟩, ⟨q12, q13, q14⟩⟩ := hSw; go_simp; try with_reducible rfl)
      (try simp only [List.getElem_toArray, List.getElem_cons_succ, List.getElem_cons_zero, Act.put, List.setIfInBounds_toArray, List.set_cons_zero, List.set_cons_succ])
      refine wpAnyH_take (i := 20) (oi := _) (v := ?_) rfl (by kernel_rfl) (by kernel_rfl) (by kernel_rfl) (fun _ _ _ h => h) (Or.inl ⟨by rfl, ?_⟩) (by assumption) ?_
      rotate_left
      · (intro w' hSw; obtain ⟨⟨q0, q1, q2⟩, ⟨q3, q4, q5⟩, ⟨q6, q7, q8⟩, ⟨q9, q10, q11⟩, ⟨q12, q13, q14⟩⟩ := hSw; go_simp; try with_reducible rfl)
      (try simp only [List.getElem_toArray, List.getElem_cons_succ, List.getElem_cons_zero, Act.put, List.setIfInBounds_toArray, List.set_cons_zero, List.set_cons_succ])
      refine wpAnyH_done (by kernel_rfl) (NoPanic.normal ?_) _
      have HZ := mkHid (HB.out.then hd5)
      go_wp2_with fail
      go_ret
      exact ⟨ret_bool rfl, HZ.out⟩
    · skip
      have k0 := X0.out.lt
      obtain ⟨j00, j01, j02⟩ := X0.out
      have k1 := X1.out.lt
      obtain ⟨j10, j11, j12⟩ := X1.out
      have k2 := X2.out.lt
      obtain ⟨j20, j21, j22⟩ := X2.out
      have k3 := X3.out.lt
      obtain ⟨j30, j31, j32⟩ := X3.out
      have k9 := X9.out.lt
      obtain ⟨j90, j91, j92⟩ := X9.out
      have kB := XB.out.lt
      obtain ⟨jB0, jB1, jB2⟩ := XB.out
      go_wp2_with fail
      clear j00 j01 j02 j10 j11 j12 j20 j21 j22 j30 j31 j32 j90 j91 j92 jB0 jB1 jB2 k0 k1 k2 k3 k9 kB
      have q0 := C38.new w9 (.slice a7 xs2.length c7) (.slice a8 ts2.length c8) (.int .i64 r) 25
      have hw13 := (Below.refl w9.heap.size w9).new (.cells #[.slice a7 xs2.length c7, .slice a8 ts2.length c8, .int .i64 r] 25)
      have q1 := ZH.new w9 a7 xs2.length c7 a8 ts2.length c8 r
      have q2 := And.intro X0.out.lt (And.intro X3.out.lt (And.intro X9.out.lt (And.intro XB.out.lt HB.out.size)))
      replace HR := mkHid (HR.out.below hw13)
      replace HT := mkHid (HT.out.below hw13)
      replace H2 := mkHid (H2.out.below hw13)
      replace X0 := mkHid (X0.out.below hw13)
      replace X1 := mkHid (X1.out.below hw13)
      replace X2 := mkHid (X2.out.below hw13)
      replace X3 := mkHid (X3.out.below hw13)
      replace R4 := mkHid (R4.out.below hw13)
      replace S4 := mkHid (S4.out.below hw13)
      replace X9 := mkHid (X9.out.below hw13)
      replace XB := mkHid (XB.out.below hw13)
      replace R7 := mkHid (R7.out.below hw13)
      replace S7 := mkHid (S7.out.below hw13)
      replace HB := mkHid (HB.out.then hw13)
      obtain ⟨w13, hV⟩ : ∃ V, w9.alloc (.cells #[.slice a7 xs2.length c7, .slice a8 ts2.length c8, .int .i64 r] 25) = V := ⟨_, rfl⟩
      obtain ⟨GC, hG⟩ : ∃ V, w9.heap.size = V := ⟨_, rfl⟩
      rw [hV] at HR HT H2 X0 X1 X2 X3 R4 S4 X9 XB R7 S7 HB q0 q1 ⊢
      rw [hG] at q0 q1 q2 ⊢
      have XC := mkHid q0
      clear hV hG q0 hw13
      have ZC := mkHid q1
      have NC := mkHid q2
      clear q1 q2
      cases hRi : rightB T2 with
      | false =>
        have HRI := mkHid hRi
        clear hRi
        refine (refright_any c cc _ T2 H2.out).mono ?_
        rintro e w14 ⟨rfl, hw14⟩
        rw [HRI.out]
        replace HR := mkHid (HR.out.below hw14)
        replace HT := mkHid (HT.out.below hw14)
        replace H2 := mkHid (H2.out.below hw14)
        replace X0 := mkHid (X0.out.below hw14)
        replace X1 := mkHid (X1.out.below hw14)
        replace X2 := mkHid (X2.out.below hw14)
        replace X3 := mkHid (X3.out.below hw14)
        replace R4 := mkHid (R4.out.below hw14)
        replace S4 := mkHid (S4.out.below hw14)
        replace X9 := mkHid (X9.out.below hw14)
        replace XB := mkHid (XB.out.below hw14)
        replace R7 := mkHid (R7.out.below hw14)
        replace S7 := mkHid (S7.out.below hw14)
        replace ZC := mkHid (ZC.out.below hw14)
        replace XC := mkHid (XC.out.below hw14)
        replace HB := mkHid (HB.out.then hw14)
        clear hw14
        have k0 := X0.out.lt
        obtain ⟨j00, j01, j02⟩ := X0.out
        have k1 := X1.out.lt
        obtain ⟨j10, j11, j12⟩ := X1.out
        have k2 := X2.out.lt
        obtain ⟨j20, j21, j22⟩ := X2.out
        have k3 := X3.out.lt
        obtain ⟨j30, j31, j32⟩ := X3.out
        have k9 := X9.out.lt
        obtain ⟨j90, j91, j92⟩ := X9.out
        have kB := XB.out.lt
        obtain ⟨jB0, jB1, jB2⟩ := XB.out
        have kC := XC.out.lt
        obtain ⟨jC0, jC1, jC2⟩ := XC.out
        go_wp2_with fail
        clear j00 j01 j02 j10 j11 j12 j20 j21 j22 j30 j31 j32 j90 j91 j92 jB0 jB1 jB2 jC0 jC1 jC2 k0 k1 k2 k3 k9 kB kC
        refine (undoB HL2.out (by rw [← HL2.out.len]; exact List.take_length) R7.out S7.out (by omega) (by omega)).mono ?_
        rintro e w15 ⟨a9, c9, a10, c10, rfl, r9, s9, hw15⟩
        replace HR := mkHid (HR.out.below hw15)
        replace HT := mkHid (HT.out.below hw15)
        replace H2 := mkHid (H2.out.below hw15)
        replace X0 := mkHid (X0.out.below hw15)
        replace X1 := mkHid (X1.out.below hw15)
        replace X2 := mkHid (X2.out.below hw15)
        replace X3 := mkHid (X3.out.below hw15)
        replace R4 := mkHid (R4.out.below hw15)
        replace S4 := mkHid (S4.out.below hw15)
        replace X9 := mkHid (X9.out.below hw15)
        replace XB := mkHid (XB.out.below hw15)
        replace R7 := mkHid (R7.out.below hw15)
        replace S7 := mkHid (S7.out.below hw15)
        replace ZC := mkHid (ZC.out.below hw15)
        replace XC := mkHid (XC.out.below hw15)
        replace HB := mkHid (HB.out.then hw15)
        clear hw15
        have R9 := mkHid (r9)
        have S9 := mkHid (s9)
        clear r9 s9
        have k0 := X0.out.lt
        obtain ⟨j00, j01, j02⟩ := X0.out
        have k1 := X1.out.lt
        obtain ⟨j10, j11, j12⟩ := X1.out
        have k2 := X2.out.lt
        obtain ⟨j20, j21, j22⟩ := X2.out
        have k3 := X3.out.lt
        obtain ⟨j30, j31, j32⟩ := X3.out
        have k9 := X9.out.lt
        obtain ⟨j90, j91, j92⟩ := X9.out
        have kB := XB.out.lt
        obtain ⟨jB0, jB1, jB2⟩ := XB.out
        have kC := XC.out.lt
        obtain ⟨jC0, jC1, jC2⟩ := XC.out
        go_wp2_with fail
        clear j00 j01 j02 j10 j11 j12 j20 j21 j22 j30 j31 j32 j90 j91 j92 jB0 jB1 jB2 jC0 jC1 jC2 k0 k1 k2 k3 k9 kB kC
        have q0 := C38.new w15 (.slice a9 xs1.length c9) (.slice a10 ts1.length c10) (.int .i64 r) 25
        have hw16 := (Below.refl w15.heap.size w15).new (.cells #[.slice a9 xs1.length c9, .slice a10 ts1.length c10, .int .i64 r] 25)
        replace HR := mkHid (HR.out.below hw16)
        replace HT := mkHid (HT.out.below hw16)
        replace H2 := mkHid (H2.out.below hw16)
        replace X0 := mkHid (X0.out.below hw16)
        replace X1 := mkHid (X1.out.below hw16)
        replace X2 := mkHid (X2.out.below hw16)
        replace X3 := mkHid (X3.out.below hw16)
        replace R4 := mkHid (R4.out.below hw16)
        replace S4 := mkHid (S4.out.below hw16)
        replace X9 := mkHid (X9.out.below hw16)
        replace XB := mkHid (XB.out.below hw16)
        replace R7 := mkHid (R7.out.below hw16)
        replace S7 := mkHid (S7.out.below hw16)
        replace ZC := mkHid (ZC.out.below hw16)
        replace XC := mkHid (XC.out.below hw16)
        replace R9 := mkHid (R9.out.below hw16)
        replace S9 := mkHid (S9.out.below hw16)
        replace HB := mkHid (HB.out.then hw16)
        obtain ⟨w16, hV⟩ : ∃ V, w15.alloc (.cells #[.slice a9 xs1.length c9, .slice a10 ts1.length c10, .int .i64 r] 25) = V := ⟨_, rfl⟩
        obtain ⟨GD, hG⟩ : ∃ V, w15.heap.size = V := ⟨_, rfl⟩
        rw [hV] at HR HT H2 X0 X1 X2 X3 R4 S4 X9 XB R7 S7 ZC XC R9 S9 HB q0 ⊢
        rw [hG] at q0 ⊢
        have XD := mkHid q0
        clear hV hG q0 hw16
        have HS : Hid (∀ X, Below w16.heap.size w16 X → (fun X => C38 X GD (.slice a9 xs1.length c9) (.slice a10 ts1.length c10) (.int .i64 r) ∧ C38 X G9 (.slice a4 xs1.length c4) (.slice a5 ts1.length c5) (.int .i64 r) ∧ C38 X GC (.slice a7 xs2.length c7) (.slice a8 ts2.length c8) (.int .i64 r) ∧ C38 X G3 (.int .i64 (l.length : Int)) (.int .i64 (ts.length : Int)) (.slice a3 0 c3) ∧ C38 X B0 (.slice a l.length cap) (.slice a' ts.length cap') (.int .i64 r)) X) := fun X h => ⟨XD.out.below h, X9.out.below h, XC.out.below h, X3.out.below h, X0.out.below h⟩
        have hd0 : Below w16.heap.size w16 w16.drew := (Below.refl _ _).drew
        refine wp_region_noPanic ?_
        refine wp_region_held_drew (S := fun X => C38 X GD (.slice a9 xs1.length c9) (.slice a10 ts1.length c10) (.int .i64 r) ∧ C38 X G9 (.slice a4 xs1.length c4) (.slice a5 ts1.length c5) (.int .i64 r) ∧ C38 X GC (.slice a7 xs2.length c7) (.slice a8 ts2.length c8) (.int .i64 r) ∧ C38 X G3 (.int .i64 (l.length : Int)) (.int .i64 (ts.length : Int)) (.slice a3 0 c3) ∧ C38 X B0 (.slice a l.length cap) (.slice a' ts.length cap') (.int .i64 r)) (by kernel_rfl) (HS.out _ hd0) (fun hSd => ?_)
        obtain ⟨v0, hx0⟩ : ∃ X, w16.drew = X := ⟨_, rfl⟩
        rw [hx0] at hd0 hSd ⊢
        clear hx0
        refine wpAnyH_take (i := 0) (oi := _) (v := ?_) rfl (by kernel_rfl) (by kernel_rfl) (by kernel_rfl) (fun _ _ _ h => h) (Or.inl ⟨by rfl, ?_⟩) (by assumption) ?_
        rotate_left
        · (intro w' hSw; obtain ⟨⟨q0, q1, q2⟩, ⟨q3, q4, q5⟩, ⟨q6, q7, q8⟩, ⟨q9, q10, q11⟩, ⟨q12, q13, q14⟩⟩ := hSw; go_simp; try with_reducible rfl)
        (try simp only [List.getElem_toArray, List.getElem_cons_succ, List.getElem_cons_zero, Act.put, List.setIfInBounds_toArray, List.set_cons_zero, List.set_cons_succ])
        refine wpAnyH_take (i := 1) (oi := _) (v := ?_) rfl (by kernel_rfl) (by kernel_rfl) (by kernel_rfl) (fun _ _ _ h => h) (Or.inl ⟨by rfl, ?_⟩) (by assumption) ?_
        rotate_left
        · (intro w' hSw; obtain ⟨⟨q0, q1, q2⟩, ⟨q3, q4, q5⟩, ⟨q6, q7, q8⟩, ⟨q9, q10, q11⟩, ⟨q12, q13, q14⟩⟩ := hSw; go_simp; try with_reducible rfl)
        (try simp only [List.getElem_toArray, List.getElem_cons_succ, List.getElem_cons_zero, Act.put, List.setIfInBounds_toArray, List.set_cons_zero, List.set_cons_succ])
        refine wpAnyH_ready (rs := [2]) (by kernel_rfl) (by simp) ?_
        refine AllReadyH.cons (o := _) rfl (fun K hK => ?_) AllReadyH.nil
        go_simp
        refine (sameK (R9.out.below hd0) (R4.out.below hd0) (S9.out.below hd0) (S4.out.below hd0) rfl rfl).mono ?_
        rintro e v1 ⟨rfl, hbv1⟩
        have hd1 := hd0.then hbv1
        try dsimp only
        refine hK.out _ _ (HS.out _ hd1) (fun hS1 => ?_)
        clear hK K hbv1
        (try simp only [List.getElem_toArray, List.getElem_cons_succ, List.getElem_cons_zero, Act.put, List.setIfInBounds_toArray, List.set_cons_zero, List.set_cons_succ])
        refine wpAnyH_take (i := 3) (oi := _) (v := ?_) rfl (by kernel_rfl) (by kernel_rfl) (by kernel_rfl) (fun _ _ _ h => h) (Or.inl ⟨by rfl, ?_⟩) (by assumption) ?_
        rotate_left
        · (intro w' hSw; obtain ⟨⟨q0, q1, q2⟩, ⟨q3, q4, q5⟩, ⟨q6, q7, q8⟩, ⟨q9, q10, q11⟩, ⟨q12, q13, q14⟩⟩ := hSw; go_simp; try with_reducible rfl)
        (try simp only [List.getElem_toArray, List.getElem_cons_succ, List.getElem_cons_zero, Act.put, List.setIfInBounds_toArray, List.set_cons_zero, List.set_cons_succ])
        refine wpAnyH_take (i := 4) (oi := _) (v := ?_) rfl (by kernel_rfl) (by kernel_rfl) (by kernel_rfl) (fun _ _ _ h => h) (Or.inl ⟨by rfl, ?_⟩) (by assumption) ?_
        rotate_left
        · (intro w' hSw; obtain ⟨⟨q0, q1, q2⟩, ⟨q3, q4, q5⟩, ⟨q6, q7, q8⟩, ⟨q9, q10, q11⟩, ⟨q12, q13, q14⟩⟩ := hSw; go_simp; try with_reducible rfl)
        (try simp only [List.getElem_toArray, List.getElem_cons_succ, List.getElem_cons_zero, Act.put, List.setIfInBounds_toArray, List.set_cons_zero, List.set_cons_succ])
        refine wpAnyH_take (i := 5) (oi := _) (v := ?_) rfl (by kernel_rfl) (by kernel_rfl) (by kernel_rfl) (fun _ _ _ h => h) (Or.inl ⟨by rfl, ?_⟩) (by assumption) ?_
        rotate_left
        · (intro w' hSw; obtain ⟨⟨q0, q1, q2⟩, ⟨q3, q4, q5⟩, ⟨q6, q7, q8⟩, ⟨q9, q10, q11⟩, ⟨q12, q13, q14⟩⟩ := hSw; go_simp; try with_reducible rfl)
        (try simp only [List.getElem_toArray, List.getElem_cons_succ, List.getElem_cons_zero, Act.put, List.setIfInBounds_toArray, List.set_cons_zero, List.set_cons_succ])
        refine wpAnyH_take (i := 7) (oi := _) (v := ?_) rfl (by kernel_rfl) (by kernel_rfl) (by kernel_rfl) (fun _ _ _ h => h) (Or.inl ⟨by rfl, ?_⟩) (by assumption) ?_
        rotate_left
        · (intro w' hSw; obtain ⟨⟨q0, q1, q2⟩, ⟨q3, q4, q5⟩, ⟨q6, q7, q8⟩, ⟨q9, q10, q11⟩, ⟨q12, q13, q14⟩⟩ := hSw; go_simp; try with_reducible rfl)
        (try simp only [List.getElem_toArray, List.getElem_cons_succ, List.getElem_cons_zero, Act.put, List.setIfInBounds_toArray, List.set_cons_zero, List.set_cons_succ])
        refine wpAnyH_ready (rs := [6]) (by kernel_rfl) (by simp) ?_
        refine AllReadyH.cons (o := _) rfl (fun K hK => ?_) AllReadyH.nil
        go_simp
        refine (undoB HL12.out (by rw [← HL12.out.len]; exact List.take_length) (R7.out.below hd1) (S7.out.below hd1) (by omega) (by omega)).mono ?_
        rintro e v2 ⟨u1, u2, u3, u4, rfl, zr, zs, hbv2⟩
        have hd2 := hd1.then hbv2
        have ZR := mkHid zr
        clear zr
        have ZS := mkHid zs
        clear zs
        try dsimp only
        refine hK.out _ _ (HS.out _ hd2) (fun hS2 => ?_)
        clear hK K hbv2
        (try simp only [List.getElem_toArray, List.getElem_cons_succ, List.getElem_cons_zero, Act.put, List.setIfInBounds_toArray, List.set_cons_zero, List.set_cons_succ])
        refine wpAnyH_ready (rs := [8]) (by kernel_rfl) (by simp) ?_
        refine AllReadyH.cons (o := _) rfl (fun K hK => ?_) AllReadyH.nil
        go_simp
        refine (sameK ZR.out (HR.out.below hd2) ZS.out (HT.out.below hd2) rfl rfl).mono ?_
        rintro e v3 ⟨rfl, hbv3⟩
        have hd3 := hd2.then hbv3
        try dsimp only
        refine hK.out _ _ (HS.out _ hd3) (fun hS3 => ?_)
        clear hK K hbv3
        (try simp only [List.getElem_toArray, List.getElem_cons_succ, List.getElem_cons_zero, Act.put, List.setIfInBounds_toArray, List.set_cons_zero, List.set_cons_succ])
        refine wpAnyH_take (i := 9) (oi := _) (v := ?_) rfl (by kernel_rfl) (by kernel_rfl) (by kernel_rfl) (fun _ _ _ h => h) (Or.inl ⟨by rfl, ?_⟩) (by assumption) ?_
        rotate_left
        · (intro w' hSw; obtain ⟨⟨q0, q1, q2⟩, ⟨q3, q4, q5⟩, ⟨q6, q7, q8⟩, ⟨q9, q10, q11⟩, ⟨q12, q13, q14⟩⟩ := hSw; go_simp; try with_reducible rfl)
        (try simp only [List.getElem_toArray, List.getElem_cons_succ, List.getElem_cons_zero, Act.put, List.setIfInBounds_toArray, List.set_cons_zero, List.set_cons_succ])
        refine wpAnyH_take (i := 10) (oi := _) (v := ?_) rfl (by kernel_rfl) (by kernel_rfl) (by kernel_rfl) (fun _ _ _ h => h) (Or.inl ⟨by rfl, ?_⟩) (by assumption) ?_
        rotate_left
        · (intro w' hSw; obtain ⟨⟨q0, q1, q2⟩, ⟨q3, q4, q5⟩, ⟨q6, q7, q8⟩, ⟨q9, q10, q11⟩, ⟨q12, q13, q14⟩⟩ := hSw; go_simp; try with_reducible rfl)
        (try simp only [List.getElem_toArray, List.getElem_cons_succ, List.getElem_cons_zero, Act.put, List.setIfInBounds_toArray, List.set_cons_zero, List.set_cons_succ])
        refine wpAnyH_take (i := 11) (oi := _) (v := ?_) rfl (by kernel_rfl) (by kernel_rfl) (by kernel_rfl) (fun _ _ _ h => h) (Or.inl ⟨by rfl, ?_⟩) (by assumption) ?_
        rotate_left
        · (intro w' hSw; obtain ⟨⟨q0, q1, q2⟩, ⟨q3, q4, q5⟩, ⟨q6, q7, q8⟩, ⟨q9, q10, q11⟩, ⟨q12, q13, q14⟩⟩ := hSw; go_simp; try with_reducible rfl)
        (try simp only [List.getElem_toArray, List.getElem_cons_succ, List.getElem_cons_zero, Act.put, List.setIfInBounds_toArray, List.set_cons_zero, List.set_cons_succ])
        refine wpAnyH_take (i := 12) (oi := _) (v := ?_) rfl (by kernel_rfl) (by kernel_rfl) (by kernel_rfl) (fun _ _ _ h => h) (Or.inl ⟨by rfl, ?_⟩) (by assumption) ?_
        rotate_left
        · (intro w' hSw; obtain ⟨⟨q0, q1, q2⟩, ⟨q3, q4, q5⟩, ⟨q6, q7, q8⟩, ⟨q9, q10, q11⟩, ⟨q12, q13, q14⟩⟩ := hSw; go_simp; try with_reducible rfl)
        (try simp only [List.getElem_toArray, List.getElem_cons_succ, List.getElem_cons_zero, Act.put, List.setIfInBounds_toArray, List.set_cons_zero, List.set_cons_succ])
        refine wpAnyH_take (i := 14) (oi := _) (v := ?_) rfl (by kernel_rfl) (by kernel_rfl) (by kernel_rfl) (fun _ _ _ h => h) (Or.inl ⟨by rfl, ?_⟩) (by assumption) ?_
        rotate_left
        · (intro w' hSw; obtain ⟨⟨q0, q1, q2⟩, ⟨q3, q4, q5⟩, ⟨q6, q7, q8⟩, ⟨q9, q10, q11⟩, ⟨q12, q13, q14⟩⟩ := hSw; go_simp; try with_reducible rfl)
        (try simp only [List.getElem_toArray, List.getElem_cons_succ, List.getElem_cons_zero, Act.put, List.setIfInBounds_toArray, List.set_cons_zero, List.set_cons_succ])
        refine wpAnyH_ready (rs := [13]) (by kernel_rfl) (by simp) ?_
        refine AllReadyH.cons (o := _) rfl (fun K hK => ?_) AllReadyH.nil
        go_simp
        refine (undoB HL1.out (by rw [← HL1.out.len]; exact List.take_length) (R9.out.below hd3) (S9.out.below hd3) (by omega) (by omega)).mono ?_
        rintro e v4 ⟨u5, u6, u7, u8, rfl, zr, zs, hbv4⟩
        have hd4 := hd3.then hbv4
        have ZR2 := mkHid zr
        clear zr
        have ZS2 := mkHid zs
        clear zs
        try dsimp only
        refine hK.out _ _ (HS.out _ hd4) (fun hS4 => ?_)
        clear hK K hbv4
        (try simp only [List.getElem_toArray, List.getElem_cons_succ, List.getElem_cons_zero, Act.put, List.setIfInBounds_toArray, List.set_cons_zero, List.set_cons_succ])
        refine wpAnyH_ready (rs := [15]) (by kernel_rfl) (by simp) ?_
        refine AllReadyH.cons (o := _) rfl (fun K hK => ?_) AllReadyH.nil
        go_simp
        refine (sameK ZR2.out (HR.out.below hd4) ZS2.out (HT.out.below hd4) rfl rfl).mono ?_
        rintro e v5 ⟨rfl, hbv5⟩
        have hd5 := hd4.then hbv5
        try dsimp only
        refine hK.out _ _ (HS.out _ hd5) (fun hS5 => ?_)
        clear hK K hbv5
        (try simp only [List.getElem_toArray, List.getElem_cons_succ, List.getElem_cons_zero, Act.put, List.setIfInBounds_toArray, List.set_cons_zero, List.set_cons_succ])
        refine wpAnyH_take (i := 16) (oi := _) (v := ?_) rfl (by kernel_rfl) (by kernel_rfl) (by kernel_rfl) (fun _ _ _ h => h) (Or.inl ⟨by rfl, ?_⟩) (by assumption) ?_
        rotate_left
        · (intro w' hSw; obtain ⟨⟨q0, q1, q2⟩, ⟨q3, q4, q5⟩, ⟨q6, q7, q8⟩, ⟨q9, q10, q11⟩, ⟨q12, q13, q14⟩⟩ := hSw; go_simp; try with_reducible rfl)
        (try simp only [List.getElem_toArray, List.getElem_cons_succ, List.getElem_cons_zero, Act.put, List.setIfInBounds_toArray, List.set_cons_zero, List.set_cons_succ])
        refine wpAnyH_take (i := 17) (oi := _) (v := ?_) rfl (by kernel_rfl) (by kernel_rfl) (by kernel_rfl) (fun _ _ _ h => h) (Or.inl ⟨by rfl, ?_⟩) (by assumption) ?_
        rotate_left
        · (intro w' hSw; obtain ⟨⟨q0, q1, q2⟩, ⟨q3, q4, q5⟩, ⟨q6, q7, q8⟩, ⟨q9, q10, q11⟩, ⟨q12, q13, q14⟩⟩ := hSw; go_simp; try with_reducible rfl)
        (try simp only [List.getElem_toArray, List.getElem_cons_succ, List.getElem_cons_zero, Act.put, List.setIfInBounds_toArray, List.set_cons_zero, List.set_cons_succ])
        refine wpAnyH_take (i := 18) (oi := _) (v := ?_) rfl (by kernel_rfl) (by kernel_rfl) (by kernel_rfl) (fun _ _ _ h => h) (Or.inl ⟨by rfl, ?_⟩) (by assumption) ?_
        rotate_left
        · (intro w' hSw; obtain ⟨⟨q0, q1, q2⟩, ⟨q3, q4, q5⟩, ⟨q6, q7, q8⟩, ⟨q9, q10, q11⟩, ⟨q12, q13, q14⟩⟩ := hSw; go_simp; try with_reducible rfl)
        (try simp only [List.getElem_toArray, List.getElem_cons_succ, List.getElem_cons_zero, Act.put, List.setIfInBounds_toArray, List.set_cons_zero, List.set_cons_succ])
        refine wpAnyH_take (i := 19) (oi := _) (v := ?_) rfl (by kernel_rfl) (by kernel_rfl) (by kernel_rfl) (fun _ _ _ h => h) (Or.inl ⟨by rfl, ?_⟩) (by assumption) ?_
        rotate_left
        · (intro w' hSw; obtain ⟨⟨q0, q1, q2⟩, ⟨q3, q4, q5⟩, ⟨q6, q7, q8⟩, ⟨q9, q10, q11⟩, ⟨q12, q13, q14⟩⟩ := hSw; go_simp; try with_reducible rfl)
        (try simp only [List.getElem_toArray, List.getElem_cons_succ, List.getElem_cons_zero, Act.put, List.setIfInBounds_toArray, List.set_cons_zero, List.set_cons_succ])
        refine wpAnyH_take (i := 20) (oi := _) (v := ?_) rfl (by kernel_rfl) (by kernel_rfl) (by kernel_rfl) (fun _ _ _ h => h) (Or.inl ⟨by rfl, ?_⟩) (by assumption) ?_
        rotate_left
        · (intro w' hSw; obtain ⟨⟨q0, q1, q2⟩, ⟨q3, q4, q5⟩, ⟨q6, q7, q8⟩, ⟨q9, q10, q11⟩, ⟨q12, q13, q14⟩⟩ := hSw; go_simp; try with_reducible rfl)
        (try simp only [List.getElem_toArray, List.getElem_cons_succ, List.getElem_cons_zero, Act.put, List.setIfInBounds_toArray, List.set_cons_zero, List.set_cons_succ])
        refine wpAnyH_done (by kernel_rfl) (NoPanic.normal ?_) _
        have HZ := mkHid (HB.out.then hd5)
        go_wp2_with fail
        go_ret
        exact ⟨ret_bool rfl, HZ.out⟩
      | true =>
        obtain ⟨tm, hok, rfl, h200⟩ := right_tm hRi
        have HRI := mkHid hRi
        have HOK := mkHid hok
        clear hRi hok
        refine (refright_any c cc _ _ H2.out).mono ?_
        rintro e w17 ⟨rfl, hw17⟩
        rw [HRI.out]
        replace HR := mkHid (HR.out.below hw17)
        replace HT := mkHid (HT.out.below hw17)
        replace H2 := mkHid (H2.out.below hw17)
        replace X0 := mkHid (X0.out.below hw17)
        replace X1 := mkHid (X1.out.below hw17)
        replace X2 := mkHid (X2.out.below hw17)
        replace X3 := mkHid (X3.out.below hw17)
        replace R4 := mkHid (R4.out.below hw17)
        replace S4 := mkHid (S4.out.below hw17)
        replace X9 := mkHid (X9.out.below hw17)
        replace XB := mkHid (XB.out.below hw17)
        replace R7 := mkHid (R7.out.below hw17)
        replace S7 := mkHid (S7.out.below hw17)
        replace ZC := mkHid (ZC.out.below hw17)
        replace XC := mkHid (XC.out.below hw17)
        replace HB := mkHid (HB.out.then hw17)
        clear hw17
        have k0 := X0.out.lt
        obtain ⟨j00, j01, j02⟩ := X0.out
        have k1 := X1.out.lt
        obtain ⟨j10, j11, j12⟩ := X1.out
        have k2 := X2.out.lt
        obtain ⟨j20, j21, j22⟩ := X2.out
        have k3 := X3.out.lt
        obtain ⟨j30, j31, j32⟩ := X3.out
        have k9 := X9.out.lt
        obtain ⟨j90, j91, j92⟩ := X9.out
        have kB := XB.out.lt
        obtain ⟨jB0, jB1, jB2⟩ := XB.out
        have kC := XC.out.lt
        obtain ⟨jC0, jC1, jC2⟩ := XC.out
        go_wp2_with fail
        clear j00 j01 j02 j10 j11 j12 j20 j21 j22 j30 j31 j32 j90 j91 j92 jB0 jB1 jB2 jC0 jC1 jC2 k0 k1 k2 k3 k9 kB kC
        refine (hput_any a7 c7 a8 c8 r c cc none 0 _ xs2 ts2 [] tm R7.out S7.out H2.out (nil_row _) HOK.out h200 (by omega) (by omega) (by simp) (known_nil _ _)).mono ?_
        rintro e w18 ⟨xs3, pl, at3, er, a11, c11, a12, c12, a13, c13, rfl, hP, r11, s11, _, hw18⟩
        obtain ⟨hp1, hp2⟩ := pout_pre hP
        have HP1 := mkHid hp1
        have HP2 := mkHid hp2
        clear hP hp1 hp2
        replace HR := mkHid (HR.out.below hw18)
        replace HT := mkHid (HT.out.below hw18)
        replace H2 := mkHid (H2.out.below hw18)
        replace X0 := mkHid (X0.out.below hw18)
        replace X1 := mkHid (X1.out.below hw18)
        replace X2 := mkHid (X2.out.below hw18)
        replace X3 := mkHid (X3.out.below hw18)
        replace R4 := mkHid (R4.out.below hw18)
        replace S4 := mkHid (S4.out.below hw18)
        replace X9 := mkHid (X9.out.below hw18)
        replace XB := mkHid (XB.out.below hw18)
        replace R7 := mkHid (R7.out.below hw18)
        replace S7 := mkHid (S7.out.below hw18)
        replace ZC := mkHid (ZC.out.below hw18)
        replace XC := mkHid (XC.out.below hw18)
        replace HB := mkHid (HB.out.then hw18)
        clear hw18
        have R11 := mkHid (r11.row)
        have S11 := mkHid (s11.row)
        clear r11 s11
        have f0 := ZC.out.froz 0
        have f1 := ZC.out.froz 1
        have f2 := ZC.out.froz 2
        have kC := XC.out.lt
        obtain ⟨jC0, jC1, jC2⟩ := XC.out
        have ho := Oth.set3 w18 GC (.slice a11 xs3.length c11) (.slice a12 ts2.length c12) (.int .i64 r)
        have hbF : Below (((w18.setCell ⟨GC, 0, none⟩ (.slice a11 xs3.length c11)).setCell ⟨GC, 1, none⟩ (.slice a12 ts2.length c12)).setCell ⟨GC, 2, none⟩ (.int .i64 r)).heap.size (((w18.setCell ⟨GC, 0, none⟩ (.slice a11 xs3.length c11)).setCell ⟨GC, 1, none⟩ (.slice a12 ts2.length c12)).setCell ⟨GC, 2, none⟩ (.int .i64 r)) ((((w18.setCell ⟨GC, 0, none⟩ (.slice a11 xs3.length c11)).setCell ⟨GC, 1, none⟩ (.slice a12 ts2.length c12)).setCell ⟨GC, 2, none⟩ (.int .i64 r)).alloc (.cells #[.slice a11 xs3.length c11, .slice a12 ts2.length c12, .int .i64 r] 25)) := (Below.refl _ _).new _
        have hb3 : Below w.heap.size w ((((w18.setCell ⟨GC, 0, none⟩ (.slice a11 xs3.length c11)).setCell ⟨GC, 1, none⟩ (.slice a12 ts2.length c12)).setCell ⟨GC, 2, none⟩ (.int .i64 r)).alloc (.cells #[.slice a11 xs3.length c11, .slice a12 ts2.length c12, .int .i64 r] 25)) := (HB.out.trans ((set3 GC w18 _ _ _).mono NC.out.2.2.2.2)).then hbF
        have q0 := (ZC.out.set3 (.slice a11 xs3.length c11) (.slice a12 ts2.length c12) (.int .i64 r)).below hbF
        have qB := (XB.out.oth ho NC.out.2.2.2.1).below hbF
        have hw0 := trail_ne HMP.out.2.2
        have hw1 := HL1.out.ne HMP.out.2.2.few hw0
        have hw2 := HL2.out.ne (by rw [HL1.out.len]; exact HMP.out.2.2.few) hw1
        replace HR := mkHid ((ZC.out.cels ho HR.out).below hbF)
        replace R4 := mkHid ((ZC.out.cels ho R4.out).below hbF)
        replace R11 := mkHid ((ZC.out.cels ho R11.out).below hbF)
        replace HT := mkHid ((ZC.out.ints ho HT.out hw0).below hbF)
        replace S4 := mkHid ((ZC.out.ints ho S4.out hw1).below hbF)
        replace S11 := mkHid ((ZC.out.ints ho S11.out hw2).below hbF)
        replace X0 := mkHid ((X0.out.oth ho NC.out.1).below hbF)
        replace X3 := mkHid ((X3.out.oth ho NC.out.2.1).below hbF)
        replace X9 := mkHid ((X9.out.oth ho NC.out.2.2.1).below hbF)
        replace XC := mkHid q0
        replace XB := mkHid qB
        replace HB := mkHid hb3
        clear ho q0 qB hb3 hbF hw0 hw1 hw2 ZC R7 S7 H2 X1 X2
        have kB := XB.out.lt
        obtain ⟨jB0, jB1, jB2⟩ := XB.out
        have lC := XC.out.lt
        obtain ⟨iC0, iC1, iC2⟩ := XC.out
        go_wp2_with fail
        clear jB0 jB1 jB2 iC0 iC1 iC2 jC0 jC1 jC2 kB kC lC f0 f1 f2
        obtain ⟨w19, hV⟩ : ∃ V, ((((w18.setCell ⟨GC, 0, none⟩ (.slice a11 xs3.length c11)).setCell ⟨GC, 1, none⟩ (.slice a12 ts2.length c12)).setCell ⟨GC, 2, none⟩ (.int .i64 r)).alloc (.cells #[.slice a11 xs3.length c11, .slice a12 ts2.length c12, .int .i64 r] 25)) = V := ⟨_, rfl⟩
        rw [hV] at HR HT X0 X3 R4 S4 X9 XB XC R11 S11 HB ⊢
        clear hV
        have hx3 : xs3.length ≤ 5000 := HP2.out.elim (fun h => by have := HMP.out.2.2.r2; omega) (fun h => by rw [h]; omega)
        refine (undoB HL2.out (by rw [← HL2.out.len]; exact HP1.out) R11.out S11.out (by omega) (by omega)).mono ?_
        rintro e w20 ⟨a9, c9, a10, c10, rfl, r9, s9, hw20⟩
        replace HR := mkHid (HR.out.below hw20)
        replace HT := mkHid (HT.out.below hw20)
        replace X0 := mkHid (X0.out.below hw20)
        replace X3 := mkHid (X3.out.below hw20)
        replace R4 := mkHid (R4.out.below hw20)
        replace S4 := mkHid (S4.out.below hw20)
        replace X9 := mkHid (X9.out.below hw20)
        replace XB := mkHid (XB.out.below hw20)
        replace XC := mkHid (XC.out.below hw20)
        replace R11 := mkHid (R11.out.below hw20)
        replace S11 := mkHid (S11.out.below hw20)
        replace HB := mkHid (HB.out.then hw20)
        clear hw20
        have R9 := mkHid (r9)
        have S9 := mkHid (s9)
        clear r9 s9
        have k0 := X0.out.lt
        obtain ⟨j00, j01, j02⟩ := X0.out
        have k3 := X3.out.lt
        obtain ⟨j30, j31, j32⟩ := X3.out
        have k9 := X9.out.lt
        obtain ⟨j90, j91, j92⟩ := X9.out
        have kB := XB.out.lt
        obtain ⟨jB0, jB1, jB2⟩ := XB.out
        have kC := XC.out.lt
        obtain ⟨jC0, jC1, jC2⟩ := XC.out
        go_wp2_with fail
        clear j00 j01 j02 j30 j31 j32 j90 j91 j92 jB0 jB1 jB2 jC0 jC1 jC2 k0 k3 k9 kB kC
        have q0 := C38.new w20 (.slice a9 xs1.length c9) (.slice a10 ts1.length c10) (.int .i64 r) 25
        have hw21 := (Below.refl w20.heap.size w20).new (.cells #[.slice a9 xs1.length c9, .slice a10 ts1.length c10, .int .i64 r] 25)
        replace HR := mkHid (HR.out.below hw21)
        replace HT := mkHid (HT.out.below hw21)
        replace X0 := mkHid (X0.out.below hw21)
        replace X3 := mkHid (X3.out.below hw21)
        replace R4 := mkHid (R4.out.below hw21)
        replace S4 := mkHid (S4.out.below hw21)
        replace X9 := mkHid (X9.out.below hw21)
        replace XB := mkHid (XB.out.below hw21)
        replace XC := mkHid (XC.out.below hw21)
        replace R11 := mkHid (R11.out.below hw21)
        replace S11 := mkHid (S11.out.below hw21)
        replace R9 := mkHid (R9.out.below hw21)
        replace S9 := mkHid (S9.out.below hw21)
        replace HB := mkHid (HB.out.then hw21)
        obtain ⟨w21, hV⟩ : ∃ V, w20.alloc (.cells #[.slice a9 xs1.length c9, .slice a10 ts1.length c10, .int .i64 r] 25) = V := ⟨_, rfl⟩
        obtain ⟨GD, hG⟩ : ∃ V, w20.heap.size = V := ⟨_, rfl⟩
        rw [hV] at HR HT X0 X3 R4 S4 X9 XB XC R11 S11 R9 S9 HB q0 ⊢
        rw [hG] at q0 ⊢
        have XD := mkHid q0
        clear hV hG q0 hw21
        have HS : Hid (∀ X, Below w21.heap.size w21 X → (fun X => C38 X GD (.slice a9 xs1.length c9) (.slice a10 ts1.length c10) (.int .i64 r) ∧ C38 X G9 (.slice a4 xs1.length c4) (.slice a5 ts1.length c5) (.int .i64 r) ∧ C38 X GC (.slice a11 xs3.length c11) (.slice a12 ts2.length c12) (.int .i64 r) ∧ C38 X G3 (.int .i64 (l.length : Int)) (.int .i64 (ts.length : Int)) (.slice a3 0 c3) ∧ C38 X B0 (.slice a l.length cap) (.slice a' ts.length cap') (.int .i64 r)) X) := fun X h => ⟨XD.out.below h, X9.out.below h, XC.out.below h, X3.out.below h, X0.out.below h⟩
        have hd0 : Below w21.heap.size w21 w21.drew := (Below.refl _ _).drew
        refine wp_region_noPanic ?_
        refine wp_region_held_drew (S := fun X => C38 X GD (.slice a9 xs1.length c9) (.slice a10 ts1.length c10) (.int .i64 r) ∧ C38 X G9 (.slice a4 xs1.length c4) (.slice a5 ts1.length c5) (.int .i64 r) ∧ C38 X GC (.slice a11 xs3.length c11) (.slice a12 ts2.length c12) (.int .i64 r) ∧ C38 X G3 (.int .i64 (l.length : Int)) (.int .i64 (ts.length : Int)) (.slice a3 0 c3) ∧ C38 X B0 (.slice a l.length cap) (.slice a' ts.length cap') (.int .i64 r)) (by kernel_rfl) (HS.out _ hd0) (fun hSd => ?_)
        obtain ⟨v0, hx0⟩ : ∃ X, w21.drew = X := ⟨_, rfl⟩
        rw [hx0] at hd0 hSd ⊢
        clear hx0
        refine wpAnyH_take (i := 0) (oi := _) (v := ?_) rfl (by kernel_rfl) (by kernel_rfl) (by kernel_rfl) (fun _ _ _ h => h) (Or.inl ⟨by rfl, ?_⟩) (by assumption) ?_
        rotate_left
        · (intro w' hSw; obtain ⟨⟨q0, q1, q2⟩, ⟨q3, q4, q5⟩, ⟨q6, q7, q8⟩, ⟨q9, q10, q11⟩, ⟨q12, q13, q14⟩⟩ := hSw; go_simp; try with_reducible rfl)
        (try simp only [List.getElem_toArray, List.getElem_cons_succ, List.getElem_cons_zero, Act.put, List.setIfInBounds_toArray, List.set_cons_zero, List.set_cons_succ])
        refine wpAnyH_take (i := 1) (oi := _) (v := ?_) rfl (by kernel_rfl) (by kernel_rfl) (by kernel_rfl) (fun _ _ _ h => h) (Or.inl ⟨by rfl, ?_⟩) (by assumption) ?_
        rotate_left
        · (intro w' hSw; obtain ⟨⟨q0, q1, q2⟩, ⟨q3, q4, q5⟩, ⟨q6, q7, q8⟩, ⟨q9, q10, q11⟩, ⟨q12, q13, q14⟩⟩ := hSw; go_simp; try with_reducible rfl)
        (try simp only [List.getElem_toArray, List.getElem_cons_succ, List.getElem_cons_zero, Act.put, List.setIfInBounds_toArray, List.set_cons_zero, List.set_cons_succ])
        refine wpAnyH_ready (rs := [2]) (by kernel_rfl) (by simp) ?_
        refine AllReadyH.cons (o := _) rfl (fun K hK => ?_) AllReadyH.nil
        go_simp
        refine (sameK (R9.out.below hd0) (R4.out.below hd0) (S9.out.below hd0) (S4.out.below hd0) rfl rfl).mono ?_
        rintro e v1 ⟨rfl, hbv1⟩
        have hd1 := hd0.then hbv1
        try dsimp only
        refine hK.out _ _ (HS.out _ hd1) (fun hS1 => ?_)
        clear hK K hbv1
        (try simp only [List.getElem_toArray, List.getElem_cons_succ, List.getElem_cons_zero, Act.put, List.setIfInBounds_toArray, List.set_cons_zero, List.set_cons_succ])
        refine wpAnyH_take (i := 3) (oi := _) (v := ?_) rfl (by kernel_rfl) (by kernel_rfl) (by kernel_rfl) (fun _ _ _ h => h) (Or.inl ⟨by rfl, ?_⟩) (by assumption) ?_
        rotate_left
        · (intro w' hSw; obtain ⟨⟨q0, q1, q2⟩, ⟨q3, q4, q5⟩, ⟨q6, q7, q8⟩, ⟨q9, q10, q11⟩, ⟨q12, q13, q14⟩⟩ := hSw; go_simp; try with_reducible rfl)
        (try simp only [List.getElem_toArray, List.getElem_cons_succ, List.getElem_cons_zero, Act.put, List.setIfInBounds_toArray, List.set_cons_zero, List.set_cons_succ])
        refine wpAnyH_take (i := 4) (oi := _) (v := ?_) rfl (by kernel_rfl) (by kernel_rfl) (by kernel_rfl) (fun _ _ _ h => h) (Or.inl ⟨by rfl, ?_⟩) (by assumption) ?_
        rotate_left
        · (intro w' hSw; obtain ⟨⟨q0, q1, q2⟩, ⟨q3, q4, q5⟩, ⟨q6, q7, q8⟩, ⟨q9, q10, q11⟩, ⟨q12, q13, q14⟩⟩ := hSw; go_simp; try with_reducible rfl)
        (try simp only [List.getElem_toArray, List.getElem_cons_succ, List.getElem_cons_zero, Act.put, List.setIfInBounds_toArray, List.set_cons_zero, List.set_cons_succ])
        refine wpAnyH_take (i := 5) (oi := _) (v := ?_) rfl (by kernel_rfl) (by kernel_rfl) (by kernel_rfl) (fun _ _ _ h => h) (Or.inl ⟨by rfl, ?_⟩) (by assumption) ?_
        rotate_left
        · (intro w' hSw; obtain ⟨⟨q0, q1, q2⟩, ⟨q3, q4, q5⟩, ⟨q6, q7, q8⟩, ⟨q9, q10, q11⟩, ⟨q12, q13, q14⟩⟩ := hSw; go_simp; try with_reducible rfl)
        (try simp only [List.getElem_toArray, List.getElem_cons_succ, List.getElem_cons_zero, Act.put, List.setIfInBounds_toArray, List.set_cons_zero, List.set_cons_succ])
        refine wpAnyH_take (i := 7) (oi := _) (v := ?_) rfl (by kernel_rfl) (by kernel_rfl) (by kernel_rfl) (fun _ _ _ h => h) (Or.inl ⟨by rfl, ?_⟩) (by assumption) ?_
        rotate_left
        · (intro w' hSw; obtain ⟨⟨q0, q1, q2⟩, ⟨q3, q4, q5⟩, ⟨q6, q7, q8⟩, ⟨q9, q10, q11⟩, ⟨q12, q13, q14⟩⟩ := hSw; go_simp; try with_reducible rfl)
        (try simp only [List.getElem_toArray, List.getElem_cons_succ, List.getElem_cons_zero, Act.put, List.setIfInBounds_toArray, List.set_cons_zero, List.set_cons_succ])
        refine wpAnyH_ready (rs := [6]) (by kernel_rfl) (by simp) ?_
        refine AllReadyH.cons (o := _) rfl (fun K hK => ?_) AllReadyH.nil
        go_simp
        refine (undoB HL12.out (by rw [← HL12.out.len]; exact HP1.out) (R11.out.below hd1) (S11.out.below hd1) (by omega) (by omega)).mono ?_
        rintro e v2 ⟨u1, u2, u3, u4, rfl, zr, zs, hbv2⟩
        have hd2 := hd1.then hbv2
        have ZR := mkHid zr
        clear zr
        have ZS := mkHid zs
        clear zs
        try dsimp only
        refine hK.out _ _ (HS.out _ hd2) (fun hS2 => ?_)
        clear hK K hbv2
        (try simp only [List.getElem_toArray, List.getElem_cons_succ, List.getElem_cons_zero, Act.put, List.setIfInBounds_toArray, List.set_cons_zero, List.set_cons_succ])
        refine wpAnyH_ready (rs := [8]) (by kernel_rfl) (by simp) ?_
        refine AllReadyH.cons (o := _) rfl (fun K hK => ?_) AllReadyH.nil
        go_simp
        refine (sameK ZR.out (HR.out.below hd2) ZS.out (HT.out.below hd2) rfl rfl).mono ?_
        rintro e v3 ⟨rfl, hbv3⟩
        have hd3 := hd2.then hbv3
        try dsimp only
        refine hK.out _ _ (HS.out _ hd3) (fun hS3 => ?_)
        clear hK K hbv3
        (try simp only [List.getElem_toArray, List.getElem_cons_succ, List.getElem_cons_zero, Act.put, List.setIfInBounds_toArray, List.set_cons_zero, List.set_cons_succ])
        refine wpAnyH_take (i := 9) (oi := _) (v := ?_) rfl (by kernel_rfl) (by kernel_rfl) (by kernel_rfl) (fun _ _ _ h => h) (Or.inl ⟨by rfl, ?_⟩) (by assumption) ?_
        rotate_left
        · (intro w' hSw; obtain ⟨⟨q0, q1, q2⟩, ⟨q3, q4, q5⟩, ⟨q6, q7, q8⟩, ⟨q9, q10, q11⟩, ⟨q12, q13, q14⟩⟩ := hSw; go_simp; try with_reducible rfl)
        (try simp only [List.getElem_toArray, List.getElem_cons_succ, List.getElem_cons_zero, Act.put, List.setIfInBounds_toArray, List.set_cons_zero, List.set_cons_succ])
        refine wpAnyH_take (i := 10) (oi := _) (v := ?_) rfl (by kernel_rfl) (by kernel_rfl) (by kernel_rfl) (fun _ _ _ h => h) (Or.inl ⟨by rfl, ?_⟩) (by assumption) ?_
        rotate_left
        · (intro w' hSw; obtain ⟨⟨q0, q1, q2⟩, ⟨q3, q4, q5⟩, ⟨q6, q7, q8⟩, ⟨q9, q10, q11⟩, ⟨q12, q13, q14⟩⟩ := hSw; go_simp; try with_reducible rfl)
        (try simp only [List.getElem_toArray, List.getElem_cons_succ, List.getElem_cons_zero, Act.put, List.setIfInBounds_toArray, List.set_cons_zero, List.set_cons_succ])
        refine wpAnyH_take (i := 11) (oi := _) (v := ?_) rfl (by kernel_rfl) (by kernel_rfl) (by kernel_rfl) (fun _ _ _ h => h) (Or.inl ⟨by rfl, ?_⟩) (by assumption) ?_
        rotate_left
        · (intro w' hSw; obtain ⟨⟨q0, q1, q2⟩, ⟨q3, q4, q5⟩, ⟨q6, q7, q8⟩, ⟨q9, q10, q11⟩, ⟨q12, q13, q14⟩⟩ := hSw; go_simp; try with_reducible rfl)
        (try simp only [List.getElem_toArray, List.getElem_cons_succ, List.getElem_cons_zero, Act.put, List.setIfInBounds_toArray, List.set_cons_zero, List.set_cons_succ])
        refine wpAnyH_take (i := 12) (oi := _) (v := ?_) rfl (by kernel_rfl) (by kernel_rfl) (by kernel_rfl) (fun _ _ _ h => h) (Or.inl ⟨by rfl, ?_⟩) (by assumption) ?_
        rotate_left
        · (intro w' hSw; obtain ⟨⟨q0, q1, q2⟩, ⟨q3, q4, q5⟩, ⟨q6, q7, q8⟩, ⟨q9, q10, q11⟩, ⟨q12, q13, q14⟩⟩ := hSw; go_simp; try with_reducible rfl)
        (try simp only [List.getElem_toArray, List.getElem_cons_succ, List.getElem_cons_zero, Act.put, List.setIfInBounds_toArray, List.set_cons_zero, List.set_cons_succ])
        refine wpAnyH_take (i := 14) (oi := _) (v := ?_) rfl (by kernel_rfl) (by kernel_rfl) (by kernel_rfl) (fun _ _ _ h => h) (Or.inl ⟨by rfl, ?_⟩) (by assumption) ?_
        rotate_left
        · (intro w' hSw; obtain ⟨⟨q0, q1, q2⟩, ⟨q3, q4, q5⟩, ⟨q6, q7, q8⟩, ⟨q9, q10, q11⟩, ⟨q12, q13, q14⟩⟩ := hSw; go_simp; try with_reducible rfl)
        (try simp only [List.getElem_toArray, List.getElem_cons_succ, List.getElem_cons_zero, Act.put, List.setIfInBounds_toArray, List.set_cons_zero, List.set_cons_succ])
        refine wpAnyH_ready (rs := [13]) (by kernel_rfl) (by simp) ?_
        refine AllReadyH.cons (o := _) rfl (fun K hK => ?_) AllReadyH.nil
        go_simp
        refine (undoB HL1.out (by rw [← HL1.out.len]; exact List.take_length) (R9.out.below hd3) (S9.out.below hd3) (by omega) (by omega)).mono ?_
        rintro e v4 ⟨u5, u6, u7, u8, rfl, zr, zs, hbv4⟩
        have hd4 := hd3.then hbv4
        have ZR2 := mkHid zr
        clear zr
        have ZS2 := mkHid zs
        clear zs
        try dsimp only
        refine hK.out _ _ (HS.out _ hd4) (fun hS4 => ?_)
        clear hK K hbv4
        (try simp only [List.getElem_toArray, List.getElem_cons_succ, List.getElem_cons_zero, Act.put, List.setIfInBounds_toArray, List.set_cons_zero, List.set_cons_succ])
        refine wpAnyH_ready (rs := [15]) (by kernel_rfl) (by simp) ?_
        refine AllReadyH.cons (o := _) rfl (fun K hK => ?_) AllReadyH.nil
        go_simp
        refine (sameK ZR2.out (HR.out.below hd4) ZS2.out (HT.out.below hd4) rfl rfl).mono ?_
        rintro e v5 ⟨rfl, hbv5⟩
        have hd5 := hd4.then hbv5
        try dsimp only
        refine hK.out _ _ (HS.out _ hd5) (fun hS5 => ?_)
        clear hK K hbv5
        (try simp only [List.getElem_toArray, List.getElem_cons_succ, List.getElem_cons_zero, Act.put, List.setIfInBounds_toArray, List.set_cons_zero, List.set_cons_succ])
        refine wpAnyH_take (i := 16) (oi := _) (v := ?_) rfl (by kernel_rfl) (by kernel_rfl) (by kernel_rfl) (fun _ _ _ h => h) (Or.inl ⟨by rfl, ?_⟩) (by assumption) ?_
        rotate_left
        · (intro w' hSw; obtain ⟨⟨q0, q1, q2⟩, ⟨q3, q4, q5⟩, ⟨q6, q7, q8⟩, ⟨q9, q10, q11⟩, ⟨q12, q13, q14⟩⟩ := hSw; go_simp; try with_reducible rfl)
        (try simp only [List.getElem_toArray, List.getElem_cons_succ, List.getElem_cons_zero, Act.put, List.setIfInBounds_toArray, List.set_cons_zero, List.set_cons_succ])
        refine wpAnyH_take (i := 17) (oi := _) (v := ?_) rfl (by kernel_rfl) (by kernel_rfl) (by kernel_rfl) (fun _ _ _ h => h) (Or.inl ⟨by rfl, ?_⟩) (by assumption) ?_
        rotate_left
        · (intro w' hSw; obtain ⟨⟨q0, q1, q2⟩, ⟨q3, q4, q5⟩, ⟨q6, q7, q8⟩, ⟨q9, q10, q11⟩, ⟨q12, q13, q14⟩⟩ := hSw; go_simp; try with_reducible rfl)
        (try simp only [List.getElem_toArray, List.getElem_cons_succ, List.getElem_cons_zero, Act.put, List.setIfInBounds_toArray, List.set_cons_zero, List.set_cons_succ])
        refine wpAnyH_take (i := 18) (oi := _) (v := ?_) rfl (by kernel_rfl) (by kernel_rfl) (by kernel_rfl) (fun _ _ _ h => h) (Or.inl ⟨by rfl, ?_⟩) (by assumption) ?_
        rotate_left
        · (intro w' hSw; obtain ⟨⟨q0, q1, q2⟩, ⟨q3, q4, q5⟩, ⟨q6, q7, q8⟩, ⟨q9, q10, q11⟩, ⟨q12, q13, q14⟩⟩ := hSw; go_simp; try with_reducible rfl)
        (try simp only [List.getElem_toArray, List.getElem_cons_succ, List.getElem_cons_zero, Act.put, List.setIfInBounds_toArray, List.set_cons_zero, List.set_cons_succ])
        refine wpAnyH_take (i := 19) (oi := _) (v := ?_) rfl (by kernel_rfl) (by kernel_rfl) (by kernel_rfl) (fun _ _ _ h => h) (Or.inl ⟨by rfl, ?_⟩) (by assumption) ?_
        rotate_left
        · (intro w' hSw; obtain ⟨⟨q0, q1, q2⟩, ⟨q3, q4, q5⟩, ⟨q6, q7, q8⟩, ⟨q9, q10, q11⟩, ⟨q12, q13, q14⟩⟩ := hSw; go_simp; try with_reducible rfl)
        (try simp only [List.getElem_toArray, List.getElem_cons_succ, List.getElem_cons_zero, Act.put, List.setIfInBounds_toArray, List.set_cons_zero, List.set_cons_succ])
        refine wpAnyH_take (i := 20) (oi := _) (v := ?_) rfl (by kernel_rfl) (by kernel_rfl) (by kernel_rfl) (fun _ _ _ h => h) (Or.inl ⟨by rfl, ?_⟩) (by assumption) ?_
        rotate_left
        · (intro w' hSw; obtain ⟨⟨q0, q1, q2⟩, ⟨q3, q4, q5⟩, ⟨q6, q7, q8⟩, ⟨q9, q10, q11⟩, ⟨q12, q13, q14⟩⟩ := hSw; go_simp; try with_reducible rfl)
        (try simp only [List.getElem_toArray, List.getElem_cons_succ, List.getElem_cons_zero, Act.put, List.setIfInBounds_toArray, List.set_cons_zero, List.set_cons_succ])
        refine wpAnyH_done (by kernel_rfl) (NoPanic.normal ?_) _
        have HZ := mkHid (HB.out.then hd5)
        go_wp2_with fail
        go_ret
        exact ⟨ret_bool rfl, HZ.out⟩
end Go.Proofs.Ytefnmjoapmnkbaa
namespace Go.Proofs.Ytefnmjoapmnkbaa
open Go.RowKit Go.ChangeShapes Go.WideShapes Go.ChangeAt
open Go.ChangeMaps (open_string)

set_option maxRecDepth 100000 in
set_option maxHeartbeats 1000000 in
theorem HeapMarks_lifted (os : Os) (started : os.Started) (H : Type) (enc : TypeId × Value → H) :
    ReturnsInHanded {} Try.checked os 10 .any (Rows.heapMarksSpec.pre6 enc Try.prog Try.f10 Rows.heapMarksRow.domain false) (Rows.heapMarksSpec.post enc Try.prog Try.f10 false true false false) := by
  refine returnsInHanded_of_change (C := Try.checked) Try.own started (by kernel_rfl) Try.func10
    (ChangeSpec.witness6 (enc := enc) (C := Try.checked) false ⟨#[], #[.agg #[.slice none 0 0, .slice none 0 0, .int .i64 0], .agg #[.slice none 0 0, .int .i64 0, .int .i64 0], .agg #[.slice none 0 0, .int .i64 0, .int .i64 0]], []⟩ 8 (by kernel_rfl) (by kernel_rfl) (by kernel_rfl) (by kernel_rfl)) ?_
  intro W base args ds gs before hval0 hW hcnd _
  have hval : ∀ (j : Nat) t v, Try.f10.params[j]? = some t → args[j]? = some v → Value.okWide Try.prog W .any base t v := hval0
  have hW' := hW
  obtain ⟨p, q, hA0, hV, rfl, hfz, hnd⟩ := hW
  have hA : DataW.TrodAll enc Try.prog W 0 (fun _ => true) true Try.f10.params.toList args.toList ds p := hA0
  rw [Try.params10] at hA hval
  obtain ⟨v0, vs0, d0, ds0, p0, q0, hargs, rfl, rfl, h0, r0⟩ := trodAll_cons hA
  obtain ⟨v1, vs1, d1, ds1, p1, q1, rfl, rfl, rfl, h1, r1⟩ := trodAll_cons r0
  obtain ⟨v2, vs2, d2, ds2, p2, q2, rfl, rfl, rfl, h2, r2⟩ := trodAll_cons r1
  obtain ⟨rfl, rfl, rfl⟩ := trodAll_nil r2
  obtain rfl : args = #[v0, v1, v2] := by cases args; simp_all
  obtain ⟨rfl, rfl⟩ := trodVars_none hV
  have k0 := h0
  have lt0 : ∀ x ∈ p0, x.block < W.heap.size := by obtain ⟨m, hm⟩ := k0; exact DataW.trod_lt m _ _ _ hm
  obtain ⟨l0, ts0, r00, a0, b0, e0, c0, rfl, hr0, ht0⟩ : ∃ (l : List Cel) (ts : List Int) (r : Int) (a : Option Addr) (b : Nat) (e : Option Addr) (c : Nat), v0 = .agg #[.slice a l.length b, .slice e ts.length c, .int .i64 r] ∧ Row W a b l ∧ Row W e c ts := by
    obtain ⟨⟨l⟩, rfl⟩ := agg_heap (hval 0 25 v0 rfl rfl)
    obtain ⟨fuel, hf⟩ := h0
    obtain ⟨xs, us, r, a, b, e, c, hc, g0, g1⟩ := open_heap8 hf
    have hc' : l = [.slice a xs.length b, .slice e us.length c, .int .i64 r] := hc
    exact ⟨xs, us, r, a, b, e, c, by rw [hc'], g0, g1⟩
  have k1 := h1
  have lt1 : ∀ x ∈ p1, x.block < W.heap.size := by obtain ⟨m, hm⟩ := k1; exact DataW.trod_lt m _ _ _ hm
  obtain ⟨y1, a1, b1, rfl, hr1, hf1⟩ : ∃ (y : OpH) (a : Option Addr) (b : Nat), v1 = .agg #[.slice a y.t.length b, .int .i64 y.a, .int .i64 y.b] ∧ Row W a b y.t ∧ pfit (y.a, y.b) := by
    obtain ⟨⟨l⟩, rfl⟩ := agg_op (hval 1 28 v1 rfl rfl)
    obtain ⟨fuel, hf⟩ := h1
    obtain ⟨y, a, b, hc, g0, g1⟩ := open_op8 hf
    have hc' : l = [.slice a y.t.length b, .int .i64 y.a, .int .i64 y.b] := hc
    exact ⟨y, a, b, by rw [hc'], g0, g1⟩
  have k2 := h2
  have lt2 : ∀ x ∈ p2, x.block < W.heap.size := by obtain ⟨m, hm⟩ := k2; exact DataW.trod_lt m _ _ _ hm
  obtain ⟨y2, a2, b2, rfl, hr2, hf2⟩ : ∃ (y : OpH) (a : Option Addr) (b : Nat), v2 = .agg #[.slice a y.t.length b, .int .i64 y.a, .int .i64 y.b] ∧ Row W a b y.t ∧ pfit (y.a, y.b) := by
    obtain ⟨⟨l⟩, rfl⟩ := agg_op (hval 2 28 v2 rfl rfl)
    obtain ⟨fuel, hf⟩ := h2
    obtain ⟨y, a, b, hc, g0, g1⟩ := open_op8 hf
    have hc' : l = [.slice a y.t.length b, .int .i64 y.a, .int .i64 y.b] := hc
    exact ⟨y, a, b, by rw [hc'], g0, g1⟩
  clear hA0 hval0
  refine (lawMarks_any head8_any a0 b0 e0 c0 r00 a1 b1 a2 b2 y1.a y1.b y2.a y2.b W l0 ts0 y1.t y2.t hr0 ht0 hr1 hr2 hf1 hf2).mono fun e W' ⟨he, bel⟩ => ?_
  subst he
  exact ⟨_, rfl, _, _, _, [], _, [], hW', trodAll_mk1 (shut_bool Try.underlying4 _), (trodAll_cons_mk (Below.trod Try.laidOut (by kernel_rfl) (of_decide_eq_true (by kernel_rfl)) k0 bel lt0) (trodAll_cons_mk (Below.trod Try.laidOut (by kernel_rfl) (of_decide_eq_true (by kernel_rfl)) k1 bel lt1) (trodAll_cons_mk (Below.trod Try.laidOut (by kernel_rfl) (of_decide_eq_true (by kernel_rfl)) k2 bel lt2) trodAll_mk0))), rfl, bel.frame _, fun h => by cases h⟩

theorem HeapMarks_over : Rows.heapMarksRow.holds Try.pinned (OpenSpec.ofChange Rows.heapMarksSpec) :=
  OpenClaim.holds_of_wide 10 Try.f10 rfl rfl rfl rfl rfl rfl rfl ⟨rfl, rfl, rfl, rfl, rfl⟩ rfl rfl rfl rfl rfl (by kernel_rfl) Try.func10 (by kernel_rfl)
    (of_decide_eq_true (by kernel_rfl)) (by unfold Func.isWrapper; first | (rw [if_pos (by decide +kernel)]; kernel_rfl) | (rw [if_neg (by decide +kernel)]; exact ⟨rfl, rfl⟩))
    (fun os started H enc _ => HeapMarks_lifted os started H enc)

theorem HeapMarks_holds : Rows.HeapMarksSaid := HeapMarks_over
end Go.Proofs.Ytefnmjoapmnkbaa
