/-
  Of layer 8 of sorrel: whatever arguments come in, the law HeapOrder returns true, and what was handed in reads as it did: whichever of two places comes first: both can be made alike, or neither; then each slot's term is the same; and done again nothing changes. No condition.
-/
import Derived.Test.YtefnmjoapmnkbaaZr8
set_option linter.unusedVariables false
namespace Go.Proofs.Ytefnmjoapmnkbaa
open Go.RowKit

/-! ### HeapOrder -/
def opV2 (a : Option Addr) (n cap : Nat) (x y : Int) : Value := .agg #[.slice a n cap, .int .i64 x, .int .i64 y]
set_option maxRecDepth 100000 in
set_option maxHeartbeats 16000000 in
theorem lawOrder_any (HD : ∀ w : World, Calls Try.prog 12 #[] w fun e w' => e = .returned (.bool true) ∧ Below w.heap.size w w')
    (a : Option Addr) (cap : Nat) (a' : Option Addr) (cap' : Nat) (r : Int) (b : Option Addr) (cb : Nat) (p q : Int) (w : World) (l : List Cel) (ts : List Int) (T1 : List Cel)
    (hr : Row w a cap l) (ht : Row w a' cap' ts) (h1 : Row w b cb T1) (f1 : pfit (p, q)) :
    Calls Try.prog 7 #[hv a l.length cap a' ts.length cap' r, opV2 b T1.length cb p q] w fun e w' => e = .returned (.bool true) ∧ Below w.heap.size w w' := by
  have hm := hr.max
  have hle := hr.le
  have hm2 := ht.max
  have hle2 := ht.le
  have HR := mkHid hr
  have HT := mkHid ht
  have F1 := mkHid f1
  have hp1 : -9223372036854775808 ≤ p := f1.1.1
  have hp2 : p ≤ 9223372036854775807 := f1.1.2
  have hq1 : -9223372036854775808 ≤ q := f1.2.1
  have hq2 : q ≤ 9223372036854775807 := f1.2.2
  have F2 : Hid (pfit (q, p)) := ⟨⟨hq1, hq2⟩, ⟨hp1, hp2⟩⟩
  clear hr ht h1 f1
  unfold opV2
  go_enter Try.func7, Try.ntmps7
  have HB := mkHid (Below.refl w.heap.size w)
  go_wp2_with fail
  obtain ⟨W, hW⟩ : ∃ V, ((w.alloc (.cells #[(.slice a l.length cap), (.slice a' ts.length cap'), (.int .i64 r)] 25)).alloc (.cells #[(.slice b T1.length cb), (.int .i64 p), (.int .i64 q)] 28)) = V := ⟨_, rfl⟩
  have hb0 : Below w.heap.size w W := by rw [← hW]; exact ((Below.refl _ _).new _).new _
  have q0 : C38 W w.heap.size (.slice a l.length cap) (.slice a' ts.length cap') (.int .i64 r) := by rw [← hW]; exact (C38.new w _ _ _ _).below ((Below.refl _ _).new _)
  have q1 : C38 W (w.heap.size + 1) (.slice b T1.length cb) (.int .i64 p) (.int .i64 q) := by
    have h := C38.new (w.alloc (.cells #[(.slice a l.length cap), (.slice a' ts.length cap'), (.int .i64 r)] 25)) (.slice b T1.length cb) (.int .i64 p) (.int .i64 q) 28
    rw [World.size_alloc] at h
    rw [← hW]; exact h
  rw [hW]
  clear hW
  obtain ⟨B0, hB0⟩ : ∃ V, w.heap.size = V := ⟨_, rfl⟩
  rw [hB0] at q0 q1 ⊢
  have HB00 := mkHid hB0
  clear hB0
  replace HR := mkHid (HR.out.below hb0)
  replace HT := mkHid (HT.out.below hb0)
  replace HB := mkHid (HB.out.then hb0)
  have X0 := mkHid q0
  have X1 := mkHid q1
  clear q0 q1 hb0
  refine (HD _).mono ?_
  rintro e w1 ⟨rfl, hw1⟩
  replace HR := mkHid (HR.out.below hw1)
  replace HT := mkHid (HT.out.below hw1)
  replace X0 := mkHid (X0.out.below hw1)
  replace X1 := mkHid (X1.out.below hw1)
  replace HB := mkHid (HB.out.then hw1)
  clear hw1
  have k0 := X0.out.lt
  obtain ⟨j00, j01, j02⟩ := X0.out
  go_wp2_with fail
  clear j00 j01 j02 k0
  refine (may8_any a cap a' cap' r _ l ts HR.out HT.out).mono ?_
  rintro e w2 ⟨⟨t, rfl, hMay⟩, hw2⟩
  replace HR := mkHid (HR.out.below hw2)
  replace HT := mkHid (HT.out.below hw2)
  replace X0 := mkHid (X0.out.below hw2)
  replace X1 := mkHid (X1.out.below hw2)
  replace HB := mkHid (HB.out.then hw2)
  clear hw2
  have HM := mkHid hMay
  clear hMay
  cases t with
  | false =>
    go_wp2_with fail
    go_ret
    exact ⟨ret_bool rfl, HB.out⟩
  | true =>
    have HMP := mkHid (HM.out.1 (by first | rfl | trivial))
    clear HM
    have hl1 := HMP.out.1
    have hl2 := HMP.out.2.1
    have k0 := X0.out.lt
    obtain ⟨j00, j01, j02⟩ := X0.out
    have k1 := X1.out.lt
    obtain ⟨j10, j11, j12⟩ := X1.out
    go_wp2_with fail
    clear j00 j01 j02 j10 j11 j12 k0 k1
    refine (hunify a cap a' cap' r p q _ l ts HR.out HT.out (by omega) (by omega) F1.out (few_of_slots HMP.out.2.2.slots)).mono ?_
    rintro e w3 ⟨xs1, ts1, t1, a4, c4, a5, c5, rfl, hU, r9, s9, hw3⟩
    replace HR := mkHid (HR.out.below hw3)
    replace HT := mkHid (HT.out.below hw3)
    replace X0 := mkHid (X0.out.below hw3)
    replace X1 := mkHid (X1.out.below hw3)
    replace HB := mkHid (HB.out.then hw3)
    clear hw3
    have HU1 := mkHid hU
    clear hU
    have R4 := mkHid (r9.row)
    have S4 := mkHid (s9.row)
    clear r9 s9
    obtain ⟨L1, hL1⟩ := uout_bnd HU1.out
    have HL1 := mkHid hL1
    clear hL1
    have hx1 : xs1.length ≤ 120 := by have := HL1.out.len; omega
    have ht1 : ts1.length ≤ 240 := by have := HL1.out.trail; omega
    have k0 := X0.out.lt
    obtain ⟨j00, j01, j02⟩ := X0.out
    have k1 := X1.out.lt
    obtain ⟨j10, j11, j12⟩ := X1.out
    go_wp2_with fail
    clear j00 j01 j02 j10 j11 j12 k0 k1
    have q0 := C38.new w3 (.slice a4 xs1.length c4) (.slice a5 ts1.length c5) (.int .i64 r) 25
    have hw4 := (Below.refl w3.heap.size w3).new (.cells #[.slice a4 xs1.length c4, .slice a5 ts1.length c5, .int .i64 r] 25)
    replace HR := mkHid (HR.out.below hw4)
    replace HT := mkHid (HT.out.below hw4)
    replace X0 := mkHid (X0.out.below hw4)
    replace X1 := mkHid (X1.out.below hw4)
    replace R4 := mkHid (R4.out.below hw4)
    replace S4 := mkHid (S4.out.below hw4)
    replace HB := mkHid (HB.out.then hw4)
    obtain ⟨w4, hV⟩ : ∃ V, w3.alloc (.cells #[.slice a4 xs1.length c4, .slice a5 ts1.length c5, .int .i64 r] 25) = V := ⟨_, rfl⟩
    obtain ⟨G6, hG⟩ : ∃ V, w3.heap.size = V := ⟨_, rfl⟩
    rw [hV] at HR HT X0 X1 R4 S4 HB q0 ⊢
    rw [hG] at q0 ⊢
    have X6 := mkHid q0
    clear hV hG q0 hw4
    refine (hunify a cap a' cap' r q p _ l ts HR.out HT.out (by omega) (by omega) F2.out (few_of_slots HMP.out.2.2.slots)).mono ?_
    rintro e w5 ⟨xs2, ts2, t2, a7, c7, a8, c8, rfl, hU, r9, s9, hw5⟩
    replace HR := mkHid (HR.out.below hw5)
    replace HT := mkHid (HT.out.below hw5)
    replace X0 := mkHid (X0.out.below hw5)
    replace X1 := mkHid (X1.out.below hw5)
    replace R4 := mkHid (R4.out.below hw5)
    replace S4 := mkHid (S4.out.below hw5)
    replace X6 := mkHid (X6.out.below hw5)
    replace HB := mkHid (HB.out.then hw5)
    clear hw5
    obtain ⟨rfl, rfl, rfl⟩ := uout_det (uout_swap HU1.out) hU
    clear hU
    have R7 := mkHid (r9.row)
    have S7 := mkHid (s9.row)
    clear r9 s9
    cases t1 with
    | false =>
      have k0 := X0.out.lt
      obtain ⟨j00, j01, j02⟩ := X0.out
      have k1 := X1.out.lt
      obtain ⟨j10, j11, j12⟩ := X1.out
      have k6 := X6.out.lt
      obtain ⟨j60, j61, j62⟩ := X6.out
      go_wp2_with fail
      clear j00 j01 j02 j10 j11 j12 j60 j61 j62 k0 k1 k6
      have q0 := C38.new w5 (.slice a7 xs1.length c7) (.slice a8 ts1.length c8) (.int .i64 r) 25
      have hw6 := (Below.refl w5.heap.size w5).new (.cells #[.slice a7 xs1.length c7, .slice a8 ts1.length c8, .int .i64 r] 25)
      replace HR := mkHid (HR.out.below hw6)
      replace HT := mkHid (HT.out.below hw6)
      replace X0 := mkHid (X0.out.below hw6)
      replace X1 := mkHid (X1.out.below hw6)
      replace R4 := mkHid (R4.out.below hw6)
      replace S4 := mkHid (S4.out.below hw6)
      replace X6 := mkHid (X6.out.below hw6)
      replace R7 := mkHid (R7.out.below hw6)
      replace S7 := mkHid (S7.out.below hw6)
      replace HB := mkHid (HB.out.then hw6)
      obtain ⟨w6, hV⟩ : ∃ V, w5.alloc (.cells #[.slice a7 xs1.length c7, .slice a8 ts1.length c8, .int .i64 r] 25) = V := ⟨_, rfl⟩
      obtain ⟨G8, hG⟩ : ∃ V, w5.heap.size = V := ⟨_, rfl⟩
      rw [hV] at HR HT X0 X1 R4 S4 X6 R7 S7 HB q0 ⊢
      rw [hG] at q0 ⊢
      have X8 := mkHid q0
      clear hV hG q0 hw6
      have HE : Hid (xs1 = l ∧ ts1 = ts) := by rcases HU1.out with ⟨_, _, e1, e2⟩ | ⟨e, _⟩; exact ⟨e1, e2⟩; cases e
      have HLN1 : Hid (xs1.length = l.length) := by rw [Hid, HE.out.1]
      have HLN2 : Hid (ts1.length = ts.length) := by rw [Hid, HE.out.2]
      replace R4 := mkHid (HE.out.1 ▸ R4.out)
      replace S4 := mkHid (HE.out.2 ▸ S4.out)
      replace R7 := mkHid (HE.out.1 ▸ R7.out)
      replace S7 := mkHid (HE.out.2 ▸ S7.out)
      have k0 := X0.out.lt
      obtain ⟨j00, j01, j02⟩ := X0.out
      have k6 := X6.out.lt
      obtain ⟨j60, j61, j62⟩ := X6.out
      have k8 := X8.out.lt
      obtain ⟨j80, j81, j82⟩ := X8.out
      go_wp2_with fail
      clear j00 j01 j02 j60 j61 j62 j80 j81 j82 k0 k6 k8
      rw [HLN1.out, HLN2.out]
      refine (sameK R4.out HR.out S4.out HT.out rfl rfl).mono ?_
      rintro e w7 ⟨rfl, hw7⟩
      replace HR := mkHid (HR.out.below hw7)
      replace HT := mkHid (HT.out.below hw7)
      replace X0 := mkHid (X0.out.below hw7)
      replace X1 := mkHid (X1.out.below hw7)
      replace R4 := mkHid (R4.out.below hw7)
      replace S4 := mkHid (S4.out.below hw7)
      replace X6 := mkHid (X6.out.below hw7)
      replace R7 := mkHid (R7.out.below hw7)
      replace S7 := mkHid (S7.out.below hw7)
      replace X8 := mkHid (X8.out.below hw7)
      replace HB := mkHid (HB.out.then hw7)
      clear hw7
      have k0 := X0.out.lt
      obtain ⟨j00, j01, j02⟩ := X0.out
      have k6 := X6.out.lt
      obtain ⟨j60, j61, j62⟩ := X6.out
      have k8 := X8.out.lt
      obtain ⟨j80, j81, j82⟩ := X8.out
      go_wp2_with fail
      clear j00 j01 j02 j60 j61 j62 j80 j81 j82 k0 k6 k8
      try rw [HLN1.out, HLN2.out]
      refine (sameK R7.out HR.out S7.out HT.out rfl rfl).mono ?_
      rintro e w8 ⟨rfl, hw8⟩
      replace HR := mkHid (HR.out.below hw8)
      replace HT := mkHid (HT.out.below hw8)
      replace X0 := mkHid (X0.out.below hw8)
      replace X1 := mkHid (X1.out.below hw8)
      replace R4 := mkHid (R4.out.below hw8)
      replace S4 := mkHid (S4.out.below hw8)
      replace X6 := mkHid (X6.out.below hw8)
      replace R7 := mkHid (R7.out.below hw8)
      replace S7 := mkHid (S7.out.below hw8)
      replace X8 := mkHid (X8.out.below hw8)
      replace HB := mkHid (HB.out.then hw8)
      clear hw8
      have k0 := X0.out.lt
      obtain ⟨j00, j01, j02⟩ := X0.out
      have k6 := X6.out.lt
      obtain ⟨j60, j61, j62⟩ := X6.out
      have k8 := X8.out.lt
      obtain ⟨j80, j81, j82⟩ := X8.out
      go_wp2_with fail
      clear j00 j01 j02 j60 j61 j62 j80 j81 j82 k0 k6 k8
      go_ret
      exact ⟨ret_bool rfl, HB.out⟩
    | true =>
      have HRT := mkHid (uout_right HU1.out HMP.out.2.2)
      have k0 := X0.out.lt
      obtain ⟨j00, j01, j02⟩ := X0.out
      have k1 := X1.out.lt
      obtain ⟨j10, j11, j12⟩ := X1.out
      have k6 := X6.out.lt
      obtain ⟨j60, j61, j62⟩ := X6.out
      go_wp2_with fail
      clear j00 j01 j02 j10 j11 j12 j60 j61 j62 k0 k1 k6
      have q0 := C38.new w5 (.slice a7 xs1.length c7) (.slice a8 ts1.length c8) (.int .i64 r) 25
      have hw9 := (Below.refl w5.heap.size w5).new (.cells #[.slice a7 xs1.length c7, .slice a8 ts1.length c8, .int .i64 r] 25)
      replace HR := mkHid (HR.out.below hw9)
      replace HT := mkHid (HT.out.below hw9)
      replace X0 := mkHid (X0.out.below hw9)
      replace X1 := mkHid (X1.out.below hw9)
      replace R4 := mkHid (R4.out.below hw9)
      replace S4 := mkHid (S4.out.below hw9)
      replace X6 := mkHid (X6.out.below hw9)
      replace R7 := mkHid (R7.out.below hw9)
      replace S7 := mkHid (S7.out.below hw9)
      replace HB := mkHid (HB.out.then hw9)
      obtain ⟨w9, hV⟩ : ∃ V, w5.alloc (.cells #[.slice a7 xs1.length c7, .slice a8 ts1.length c8, .int .i64 r] 25) = V := ⟨_, rfl⟩
      obtain ⟨G8, hG⟩ : ∃ V, w5.heap.size = V := ⟨_, rfl⟩
      rw [hV] at HR HT X0 X1 R4 S4 X6 R7 S7 HB q0 ⊢
      rw [hG] at q0 ⊢
      have X8 := mkHid q0
      clear hV hG q0 hw9
      refine (hunify a4 c4 a5 c5 r q p _ xs1 ts1 R4.out S4.out (by omega) (by omega) F2.out (few_of_slots HRT.out.slots)).mono ?_
      rintro e w10 ⟨xs3, ts3, t3, a11, c11, a12, c12, rfl, hU, r9, s9, hw10⟩
      replace HR := mkHid (HR.out.below hw10)
      replace HT := mkHid (HT.out.below hw10)
      replace X0 := mkHid (X0.out.below hw10)
      replace X1 := mkHid (X1.out.below hw10)
      replace R4 := mkHid (R4.out.below hw10)
      replace S4 := mkHid (S4.out.below hw10)
      replace X6 := mkHid (X6.out.below hw10)
      replace R7 := mkHid (R7.out.below hw10)
      replace S7 := mkHid (S7.out.below hw10)
      replace X8 := mkHid (X8.out.below hw10)
      replace HB := mkHid (HB.out.then hw10)
      clear hw10
      have hE := uout_again HMP.out.2.2 HU1.out hU
      obtain rfl : xs1 = xs3 := hE.1.symm
      obtain rfl : ts1 = ts3 := hE.2.1.symm
      obtain rfl : true = t3 := hE.2.2.symm
      clear hU hE
      have R11 := mkHid (r9.row)
      have S11 := mkHid (s9.row)
      clear r9 s9
      have k0 := X0.out.lt
      obtain ⟨j00, j01, j02⟩ := X0.out
      have k1 := X1.out.lt
      obtain ⟨j10, j11, j12⟩ := X1.out
      have k6 := X6.out.lt
      obtain ⟨j60, j61, j62⟩ := X6.out
      have k8 := X8.out.lt
      obtain ⟨j80, j81, j82⟩ := X8.out
      go_wp2_with fail
      clear j00 j01 j02 j10 j11 j12 j60 j61 j62 j80 j81 j82 k0 k1 k6 k8
      have HG := mkHid (uout_get HMP.out.2.2 HU1.out)
      have q0 := C38.new w10 (.slice a11 xs1.length c11) (.slice a12 ts1.length c12) (.int .i64 r) 25
      have hw11 := (Below.refl w10.heap.size w10).new (.cells #[.slice a11 xs1.length c11, .slice a12 ts1.length c12, .int .i64 r] 25)
      replace HR := mkHid (HR.out.below hw11)
      replace HT := mkHid (HT.out.below hw11)
      replace X0 := mkHid (X0.out.below hw11)
      replace X1 := mkHid (X1.out.below hw11)
      replace R4 := mkHid (R4.out.below hw11)
      replace S4 := mkHid (S4.out.below hw11)
      replace X6 := mkHid (X6.out.below hw11)
      replace R7 := mkHid (R7.out.below hw11)
      replace S7 := mkHid (S7.out.below hw11)
      replace X8 := mkHid (X8.out.below hw11)
      replace R11 := mkHid (R11.out.below hw11)
      replace S11 := mkHid (S11.out.below hw11)
      replace HB := mkHid (HB.out.then hw11)
      obtain ⟨w11, hV⟩ : ∃ V, w10.alloc (.cells #[.slice a11 xs1.length c11, .slice a12 ts1.length c12, .int .i64 r] 25) = V := ⟨_, rfl⟩
      obtain ⟨G3, hG⟩ : ∃ V, w10.heap.size = V := ⟨_, rfl⟩
      rw [hV] at HR HT X0 X1 R4 S4 X6 R7 S7 X8 R11 S11 HB q0 ⊢
      rw [hG] at q0 ⊢
      have X3 := mkHid q0
      clear hV hG q0 hw11
      have k0 := X0.out.lt
      obtain ⟨j00, j01, j02⟩ := X0.out
      have k1 := X1.out.lt
      obtain ⟨j10, j11, j12⟩ := X1.out
      have k6 := X6.out.lt
      obtain ⟨j60, j61, j62⟩ := X6.out
      have k8 := X8.out.lt
      obtain ⟨j80, j81, j82⟩ := X8.out
      have k3 := X3.out.lt
      obtain ⟨j30, j31, j32⟩ := X3.out
      go_wp2_with fail
      clear j00 j01 j02 j10 j11 j12 j60 j61 j62 j80 j81 j82 j30 j31 j32 k0 k1 k6 k8 k3
      go_loopw [12] (fun i wr => ∃ m : Nat, m ≤ l.length ∧ i = .int .i64 m ∧ Hid (Below w11.heap.size w11 wr)) (fun i wr => l.length - (intOf i).toNat)
      case atStart => exact ⟨0, Nat.zero_le _, rfl, Below.refl _ _⟩
      case round =>
        obtain ⟨m, hm5, rfl, HBr⟩ := hrel
        replace HR := mkHid (HR.out.below HBr.out)
        replace HT := mkHid (HT.out.below HBr.out)
        replace X0 := mkHid (X0.out.below HBr.out)
        replace X1 := mkHid (X1.out.below HBr.out)
        replace R4 := mkHid (R4.out.below HBr.out)
        replace S4 := mkHid (S4.out.below HBr.out)
        replace X6 := mkHid (X6.out.below HBr.out)
        replace R7 := mkHid (R7.out.below HBr.out)
        replace S7 := mkHid (S7.out.below HBr.out)
        replace X8 := mkHid (X8.out.below HBr.out)
        replace R11 := mkHid (R11.out.below HBr.out)
        replace S11 := mkHid (S11.out.below HBr.out)
        replace X3 := mkHid (X3.out.below HBr.out)
        replace HB := mkHid (HB.out.then HBr.out)
        have HBV := mkHid HBr.out
        clear HBr
        by_cases hlt : (m : Int) < l.length
        rotate_left
        · skip
          have k0 := X0.out.lt
          obtain ⟨j00, j01, j02⟩ := X0.out
          have k1 := X1.out.lt
          obtain ⟨j10, j11, j12⟩ := X1.out
          have k6 := X6.out.lt
          obtain ⟨j60, j61, j62⟩ := X6.out
          have k8 := X8.out.lt
          obtain ⟨j80, j81, j82⟩ := X8.out
          have k3 := X3.out.lt
          obtain ⟨j30, j31, j32⟩ := X3.out
          go_wp2_with fail
          clear j00 j01 j02 j10 j11 j12 j60 j61 j62 j80 j81 j82 j30 j31 j32 k0 k1 k6 k8 k3
          refine (hget_any a4 c4 a5 ts1.length c5 r p _ xs1 R4.out (by omega) (by omega) (by omega)).mono ?_
          rintro e w12 ⟨g1, k1, rfl, rr, hw12⟩
          replace HR := mkHid (HR.out.below hw12)
          replace HT := mkHid (HT.out.below hw12)
          replace X0 := mkHid (X0.out.below hw12)
          replace X1 := mkHid (X1.out.below hw12)
          replace R4 := mkHid (R4.out.below hw12)
          replace S4 := mkHid (S4.out.below hw12)
          replace X6 := mkHid (X6.out.below hw12)
          replace R7 := mkHid (R7.out.below hw12)
          replace S7 := mkHid (S7.out.below hw12)
          replace X8 := mkHid (X8.out.below hw12)
          replace R11 := mkHid (R11.out.below hw12)
          replace S11 := mkHid (S11.out.below hw12)
          replace X3 := mkHid (X3.out.below hw12)
          replace HB := mkHid (HB.out.then hw12)
          replace HBV := mkHid (HBV.out.then hw12)
          clear hw12
          have Q1 := mkHid (rr)
          clear rr
          have HQL : Hid (getL xs1 p = getL xs1 q) := HG.out.2
          have HQB : Hid (getB xs1 p = getB xs1 q) := HG.out.1
          rw [HQB.out]
          replace Q1 := mkHid (HQL.out ▸ Q1.out)
          rw [HQL.out]
          obtain ⟨gl, hgl⟩ : ∃ x, getL xs1 q = x := ⟨_, rfl⟩
          rw [hgl] at Q1 ⊢
          have HGL := mkHid hgl
          clear hgl
          obtain ⟨gb, hgb⟩ : ∃ x, getB xs1 q = x := ⟨_, rfl⟩
          rw [hgb]
          have HGB := mkHid hgb
          clear hgb
          have k0 := X0.out.lt
          obtain ⟨j00, j01, j02⟩ := X0.out
          have k1 := X1.out.lt
          obtain ⟨j10, j11, j12⟩ := X1.out
          have k6 := X6.out.lt
          obtain ⟨j60, j61, j62⟩ := X6.out
          have k8 := X8.out.lt
          obtain ⟨j80, j81, j82⟩ := X8.out
          have k3 := X3.out.lt
          obtain ⟨j30, j31, j32⟩ := X3.out
          go_wp2_with fail
          clear j00 j01 j02 j10 j11 j12 j60 j61 j62 j80 j81 j82 j30 j31 j32 k0 k1 k6 k8 k3
          refine (hget_any a4 c4 a5 ts1.length c5 r q _ xs1 R4.out (by omega) (by omega) (by omega)).mono ?_
          rintro e w13 ⟨g2, k2, rfl, rr, hw13⟩
          replace HR := mkHid (HR.out.below hw13)
          replace HT := mkHid (HT.out.below hw13)
          replace X0 := mkHid (X0.out.below hw13)
          replace X1 := mkHid (X1.out.below hw13)
          replace R4 := mkHid (R4.out.below hw13)
          replace S4 := mkHid (S4.out.below hw13)
          replace X6 := mkHid (X6.out.below hw13)
          replace R7 := mkHid (R7.out.below hw13)
          replace S7 := mkHid (S7.out.below hw13)
          replace X8 := mkHid (X8.out.below hw13)
          replace R11 := mkHid (R11.out.below hw13)
          replace S11 := mkHid (S11.out.below hw13)
          replace X3 := mkHid (X3.out.below hw13)
          replace Q1 := mkHid (Q1.out.below hw13)
          replace HB := mkHid (HB.out.then hw13)
          replace HBV := mkHid (HBV.out.then hw13)
          clear hw13
          have Q2 := mkHid (rr)
          clear rr
          rw [HGL.out, HGB.out]
          rw [HGL.out] at Q2
          have k0 := X0.out.lt
          obtain ⟨j00, j01, j02⟩ := X0.out
          have k1 := X1.out.lt
          obtain ⟨j10, j11, j12⟩ := X1.out
          have k6 := X6.out.lt
          obtain ⟨j60, j61, j62⟩ := X6.out
          have k8 := X8.out.lt
          obtain ⟨j80, j81, j82⟩ := X8.out
          have k3 := X3.out.lt
          obtain ⟨j30, j31, j32⟩ := X3.out
          go_wp2_with fail
          clear j00 j01 j02 j10 j11 j12 j60 j61 j62 j80 j81 j82 j30 j31 j32 k0 k1 k6 k8 k3
          refine (sameK R11.out R4.out S11.out S4.out rfl rfl).mono ?_
          rintro e w14 ⟨rfl, hw14⟩
          replace HR := mkHid (HR.out.below hw14)
          replace HT := mkHid (HT.out.below hw14)
          replace X0 := mkHid (X0.out.below hw14)
          replace X1 := mkHid (X1.out.below hw14)
          replace R4 := mkHid (R4.out.below hw14)
          replace S4 := mkHid (S4.out.below hw14)
          replace X6 := mkHid (X6.out.below hw14)
          replace R7 := mkHid (R7.out.below hw14)
          replace S7 := mkHid (S7.out.below hw14)
          replace X8 := mkHid (X8.out.below hw14)
          replace R11 := mkHid (R11.out.below hw14)
          replace S11 := mkHid (S11.out.below hw14)
          replace X3 := mkHid (X3.out.below hw14)
          replace Q1 := mkHid (Q1.out.below hw14)
          replace Q2 := mkHid (Q2.out.below hw14)
          replace HB := mkHid (HB.out.then hw14)
          replace HBV := mkHid (HBV.out.then hw14)
          clear hw14
          cases gb with
          | false =>
            have k0 := X0.out.lt
            obtain ⟨j00, j01, j02⟩ := X0.out
            have k1 := X1.out.lt
            obtain ⟨j10, j11, j12⟩ := X1.out
            have k6 := X6.out.lt
            obtain ⟨j60, j61, j62⟩ := X6.out
            have k8 := X8.out.lt
            obtain ⟨j80, j81, j82⟩ := X8.out
            have k3 := X3.out.lt
            obtain ⟨j30, j31, j32⟩ := X3.out
            go_wp2_with fail
            clear j00 j01 j02 j10 j11 j12 j60 j61 j62 j80 j81 j82 j30 j31 j32 k0 k1 k6 k8 k3
            refine (sameTK Q1.out Q2.out rfl).mono ?_
            rintro e w15 ⟨rfl, hw15⟩
            replace HR := mkHid (HR.out.below hw15)
            replace HT := mkHid (HT.out.below hw15)
            replace X0 := mkHid (X0.out.below hw15)
            replace X1 := mkHid (X1.out.below hw15)
            replace R4 := mkHid (R4.out.below hw15)
            replace S4 := mkHid (S4.out.below hw15)
            replace X6 := mkHid (X6.out.below hw15)
            replace R7 := mkHid (R7.out.below hw15)
            replace S7 := mkHid (S7.out.below hw15)
            replace X8 := mkHid (X8.out.below hw15)
            replace R11 := mkHid (R11.out.below hw15)
            replace S11 := mkHid (S11.out.below hw15)
            replace X3 := mkHid (X3.out.below hw15)
            replace Q1 := mkHid (Q1.out.below hw15)
            replace Q2 := mkHid (Q2.out.below hw15)
            replace HB := mkHid (HB.out.then hw15)
            replace HBV := mkHid (HBV.out.then hw15)
            clear hw15
            go_wp2_with fail
            go_ret
            exact ⟨ret_bool rfl, HB.out⟩
          | true =>
            have k0 := X0.out.lt
            obtain ⟨j00, j01, j02⟩ := X0.out
            have k1 := X1.out.lt
            obtain ⟨j10, j11, j12⟩ := X1.out
            have k6 := X6.out.lt
            obtain ⟨j60, j61, j62⟩ := X6.out
            have k8 := X8.out.lt
            obtain ⟨j80, j81, j82⟩ := X8.out
            have k3 := X3.out.lt
            obtain ⟨j30, j31, j32⟩ := X3.out
            go_wp2_with fail
            clear j00 j01 j02 j10 j11 j12 j60 j61 j62 j80 j81 j82 j30 j31 j32 k0 k1 k6 k8 k3
            refine (sameTK Q1.out Q2.out rfl).mono ?_
            rintro e w16 ⟨rfl, hw16⟩
            replace HR := mkHid (HR.out.below hw16)
            replace HT := mkHid (HT.out.below hw16)
            replace X0 := mkHid (X0.out.below hw16)
            replace X1 := mkHid (X1.out.below hw16)
            replace R4 := mkHid (R4.out.below hw16)
            replace S4 := mkHid (S4.out.below hw16)
            replace X6 := mkHid (X6.out.below hw16)
            replace R7 := mkHid (R7.out.below hw16)
            replace S7 := mkHid (S7.out.below hw16)
            replace X8 := mkHid (X8.out.below hw16)
            replace R11 := mkHid (R11.out.below hw16)
            replace S11 := mkHid (S11.out.below hw16)
            replace X3 := mkHid (X3.out.below hw16)
            replace Q1 := mkHid (Q1.out.below hw16)
            replace Q2 := mkHid (Q2.out.below hw16)
            replace HB := mkHid (HB.out.then hw16)
            replace HBV := mkHid (HBV.out.then hw16)
            clear hw16
            go_wp2_with fail
            go_ret
            exact ⟨ret_bool rfl, HB.out⟩
        · skip
          have hmi : (m : Int) ≤ 9223372036854775807 := by omega
          have k0 := X0.out.lt
          obtain ⟨j00, j01, j02⟩ := X0.out
          have k1 := X1.out.lt
          obtain ⟨j10, j11, j12⟩ := X1.out
          have k6 := X6.out.lt
          obtain ⟨j60, j61, j62⟩ := X6.out
          have k8 := X8.out.lt
          obtain ⟨j80, j81, j82⟩ := X8.out
          have k3 := X3.out.lt
          obtain ⟨j30, j31, j32⟩ := X3.out
          go_wp2_with fail
          clear j00 j01 j02 j10 j11 j12 j60 j61 j62 j80 j81 j82 j30 j31 j32 k0 k1 k6 k8 k3
          refine (hget_any a4 c4 a5 ts1.length c5 r m _ xs1 R4.out (by omega) (by omega) (by omega)).mono ?_
          rintro e w17 ⟨g3, k3, rfl, rr, hw17⟩
          replace HR := mkHid (HR.out.below hw17)
          replace HT := mkHid (HT.out.below hw17)
          replace X0 := mkHid (X0.out.below hw17)
          replace X1 := mkHid (X1.out.below hw17)
          replace R4 := mkHid (R4.out.below hw17)
          replace S4 := mkHid (S4.out.below hw17)
          replace X6 := mkHid (X6.out.below hw17)
          replace R7 := mkHid (R7.out.below hw17)
          replace S7 := mkHid (S7.out.below hw17)
          replace X8 := mkHid (X8.out.below hw17)
          replace R11 := mkHid (R11.out.below hw17)
          replace S11 := mkHid (S11.out.below hw17)
          replace X3 := mkHid (X3.out.below hw17)
          replace HB := mkHid (HB.out.then hw17)
          replace HBV := mkHid (HBV.out.then hw17)
          clear hw17
          have Q3 := mkHid (rr)
          clear rr
          obtain ⟨gl, hgl⟩ : ∃ x, getL xs1 m = x := ⟨_, rfl⟩
          rw [hgl] at Q3 ⊢
          have HGL := mkHid hgl
          clear hgl
          obtain ⟨gb, hgb⟩ : ∃ x, getB xs1 m = x := ⟨_, rfl⟩
          rw [hgb]
          have HGB := mkHid hgb
          clear hgb
          have k0 := X0.out.lt
          obtain ⟨j00, j01, j02⟩ := X0.out
          have k1 := X1.out.lt
          obtain ⟨j10, j11, j12⟩ := X1.out
          have k6 := X6.out.lt
          obtain ⟨j60, j61, j62⟩ := X6.out
          have k8 := X8.out.lt
          obtain ⟨j80, j81, j82⟩ := X8.out
          have k3 := X3.out.lt
          obtain ⟨j30, j31, j32⟩ := X3.out
          go_wp2_with fail
          clear j00 j01 j02 j10 j11 j12 j60 j61 j62 j80 j81 j82 j30 j31 j32 k0 k1 k6 k8 k3
          refine (hget_any a7 c7 a8 ts1.length c8 r m _ xs1 R7.out (by omega) (by omega) (by omega)).mono ?_
          rintro e w18 ⟨g4, k4, rfl, rr, hw18⟩
          replace HR := mkHid (HR.out.below hw18)
          replace HT := mkHid (HT.out.below hw18)
          replace X0 := mkHid (X0.out.below hw18)
          replace X1 := mkHid (X1.out.below hw18)
          replace R4 := mkHid (R4.out.below hw18)
          replace S4 := mkHid (S4.out.below hw18)
          replace X6 := mkHid (X6.out.below hw18)
          replace R7 := mkHid (R7.out.below hw18)
          replace S7 := mkHid (S7.out.below hw18)
          replace X8 := mkHid (X8.out.below hw18)
          replace R11 := mkHid (R11.out.below hw18)
          replace S11 := mkHid (S11.out.below hw18)
          replace X3 := mkHid (X3.out.below hw18)
          replace Q3 := mkHid (Q3.out.below hw18)
          replace HB := mkHid (HB.out.then hw18)
          replace HBV := mkHid (HBV.out.then hw18)
          clear hw18
          have Q4 := mkHid (rr)
          clear rr
          rw [HGL.out, HGB.out]
          rw [HGL.out] at Q4
          cases gb with
          | false =>
            have k0 := X0.out.lt
            obtain ⟨j00, j01, j02⟩ := X0.out
            have k1 := X1.out.lt
            obtain ⟨j10, j11, j12⟩ := X1.out
            have k6 := X6.out.lt
            obtain ⟨j60, j61, j62⟩ := X6.out
            have k8 := X8.out.lt
            obtain ⟨j80, j81, j82⟩ := X8.out
            have k3 := X3.out.lt
            obtain ⟨j30, j31, j32⟩ := X3.out
            go_wp2_with fail
            clear j00 j01 j02 j10 j11 j12 j60 j61 j62 j80 j81 j82 j30 j31 j32 k0 k1 k6 k8 k3
            refine (sameTK Q3.out Q4.out rfl).mono ?_
            rintro e w19 ⟨rfl, hw19⟩
            replace HR := mkHid (HR.out.below hw19)
            replace HT := mkHid (HT.out.below hw19)
            replace X0 := mkHid (X0.out.below hw19)
            replace X1 := mkHid (X1.out.below hw19)
            replace R4 := mkHid (R4.out.below hw19)
            replace S4 := mkHid (S4.out.below hw19)
            replace X6 := mkHid (X6.out.below hw19)
            replace R7 := mkHid (R7.out.below hw19)
            replace S7 := mkHid (S7.out.below hw19)
            replace X8 := mkHid (X8.out.below hw19)
            replace R11 := mkHid (R11.out.below hw19)
            replace S11 := mkHid (S11.out.below hw19)
            replace X3 := mkHid (X3.out.below hw19)
            replace Q3 := mkHid (Q3.out.below hw19)
            replace Q4 := mkHid (Q4.out.below hw19)
            replace HB := mkHid (HB.out.then hw19)
            replace HBV := mkHid (HBV.out.then hw19)
            clear hw19
            go_wp2_with fail
            go_round
            case rel => exact ⟨m + 1, by omega, by go_num, HBV.out⟩
            case measure => simp [intOf]; omega
          | true =>
            have k0 := X0.out.lt
            obtain ⟨j00, j01, j02⟩ := X0.out
            have k1 := X1.out.lt
            obtain ⟨j10, j11, j12⟩ := X1.out
            have k6 := X6.out.lt
            obtain ⟨j60, j61, j62⟩ := X6.out
            have k8 := X8.out.lt
            obtain ⟨j80, j81, j82⟩ := X8.out
            have k3 := X3.out.lt
            obtain ⟨j30, j31, j32⟩ := X3.out
            go_wp2_with fail
            clear j00 j01 j02 j10 j11 j12 j60 j61 j62 j80 j81 j82 j30 j31 j32 k0 k1 k6 k8 k3
            refine (sameTK Q3.out Q4.out rfl).mono ?_
            rintro e w20 ⟨rfl, hw20⟩
            replace HR := mkHid (HR.out.below hw20)
            replace HT := mkHid (HT.out.below hw20)
            replace X0 := mkHid (X0.out.below hw20)
            replace X1 := mkHid (X1.out.below hw20)
            replace R4 := mkHid (R4.out.below hw20)
            replace S4 := mkHid (S4.out.below hw20)
            replace X6 := mkHid (X6.out.below hw20)
            replace R7 := mkHid (R7.out.below hw20)
            replace S7 := mkHid (S7.out.below hw20)
            replace X8 := mkHid (X8.out.below hw20)
            replace R11 := mkHid (R11.out.below hw20)
            replace S11 := mkHid (S11.out.below hw20)
            replace X3 := mkHid (X3.out.below hw20)
            replace Q3 := mkHid (Q3.out.below hw20)
            replace Q4 := mkHid (Q4.out.below hw20)
            replace HB := mkHid (HB.out.then hw20)
            replace HBV := mkHid (HBV.out.then hw20)
            clear hw20
            go_wp2_with fail
            go_round
            case rel => exact ⟨m + 1, by omega, by go_num, HBV.out⟩
            case measure => simp [intOf]; omega
end Go.Proofs.Ytefnmjoapmnkbaa
namespace Go.Proofs.Ytefnmjoapmnkbaa
open Go.RowKit Go.ChangeShapes Go.WideShapes Go.ChangeAt
open Go.ChangeMaps (open_string)

set_option maxRecDepth 100000 in
set_option maxHeartbeats 1000000 in
theorem HeapOrder_lifted (os : Os) (started : os.Started) (H : Type) (enc : TypeId × Value → H) :
    ReturnsInHanded {} Try.checked os 7 .any (Rows.heapOrderSpec.pre6 enc Try.prog Try.f7 Rows.heapOrderRow.domain false) (Rows.heapOrderSpec.post enc Try.prog Try.f7 false true false false) := by
  refine returnsInHanded_of_change (C := Try.checked) Try.own started (by kernel_rfl) Try.func7
    (ChangeSpec.witness6 (enc := enc) (C := Try.checked) false ⟨#[], #[.agg #[.slice none 0 0, .slice none 0 0, .int .i64 0], .agg #[.slice none 0 0, .int .i64 0, .int .i64 0]], []⟩ 8 (by kernel_rfl) (by kernel_rfl) (by kernel_rfl) (by kernel_rfl)) ?_
  intro W base args ds gs before hval0 hW hcnd _
  have hval : ∀ (j : Nat) t v, Try.f7.params[j]? = some t → args[j]? = some v → Value.okWide Try.prog W .any base t v := hval0
  have hW' := hW
  obtain ⟨p, q, hA0, hV, rfl, hfz, hnd⟩ := hW
  have hA : DataW.TrodAll enc Try.prog W 0 (fun _ => true) true Try.f7.params.toList args.toList ds p := hA0
  rw [Try.params7] at hA hval
  obtain ⟨v0, vs0, d0, ds0, p0, q0, hargs, rfl, rfl, h0, r0⟩ := trodAll_cons hA
  obtain ⟨v1, vs1, d1, ds1, p1, q1, rfl, rfl, rfl, h1, r1⟩ := trodAll_cons r0
  obtain ⟨rfl, rfl, rfl⟩ := trodAll_nil r1
  obtain rfl : args = #[v0, v1] := by cases args; simp_all
  obtain ⟨rfl, rfl⟩ := trodVars_none hV
  have k0 := h0
  have lt0 : ∀ x ∈ p0, x.block < W.heap.size := by obtain ⟨m, hm⟩ := k0; exact DataW.trod_lt m _ _ _ hm
  obtain ⟨l0, ts0, r00, a0, b0, e0, c0, rfl, hr0, ht0⟩ : ∃ (l : List Cel) (ts : List Int) (r : Int) (a : Option Addr) (b : Nat) (e : Option Addr) (c : Nat), v0 = .agg #[.slice a l.length b, .slice e ts.length c, .int .i64 r] ∧ Row W a b l ∧ Row W e c ts := by
    obtain ⟨⟨l⟩, rfl⟩ := agg_heap (hval 0 25 v0 rfl rfl)
    obtain ⟨fuel, hf⟩ := h0
    obtain ⟨xs, us, r, a, b, e, c, hc, g0, g1⟩ := open_heap8 hf
    have hc' : l = [.slice a xs.length b, .slice e us.length c, .int .i64 r] := hc
    exact ⟨xs, us, r, a, b, e, c, by rw [hc'], g0, g1⟩
  have k1 := h1
  have lt1 : ∀ x ∈ p1, x.block < W.heap.size := by obtain ⟨m, hm⟩ := k1; exact DataW.trod_lt m _ _ _ hm
  obtain ⟨y1, a1, b1, rfl, hr1, hf1⟩ : ∃ (y : OpH) (a : Option Addr) (b : Nat), v1 = .agg #[.slice a y.t.length b, .int .i64 y.a, .int .i64 y.b] ∧ Row W a b y.t ∧ pfit (y.a, y.b) := by
    obtain ⟨⟨l⟩, rfl⟩ := agg_op (hval 1 28 v1 rfl rfl)
    obtain ⟨fuel, hf⟩ := h1
    obtain ⟨y, a, b, hc, g0, g1⟩ := open_op8 hf
    have hc' : l = [.slice a y.t.length b, .int .i64 y.a, .int .i64 y.b] := hc
    exact ⟨y, a, b, by rw [hc'], g0, g1⟩
  clear hA0 hval0
  refine (lawOrder_any head8_any a0 b0 e0 c0 r00 a1 b1 y1.a y1.b W l0 ts0 y1.t hr0 ht0 hr1 hf1).mono fun e W' ⟨he, bel⟩ => ?_
  subst he
  exact ⟨_, rfl, _, _, _, [], _, [], hW', trodAll_mk1 (shut_bool Try.underlying4 _), (trodAll_cons_mk (Below.trod Try.laidOut (by kernel_rfl) (of_decide_eq_true (by kernel_rfl)) k0 bel lt0) (trodAll_cons_mk (Below.trod Try.laidOut (by kernel_rfl) (of_decide_eq_true (by kernel_rfl)) k1 bel lt1) trodAll_mk0)), rfl, bel.frame _, fun h => by cases h⟩

theorem HeapOrder_over : Rows.heapOrderRow.holds Try.pinned (OpenSpec.ofChange Rows.heapOrderSpec) :=
  OpenClaim.holds_of_wide 7 Try.f7 rfl rfl rfl rfl rfl rfl rfl ⟨rfl, rfl, rfl, rfl, rfl⟩ rfl rfl rfl rfl rfl (by kernel_rfl) Try.func7 (by kernel_rfl)
    (of_decide_eq_true (by kernel_rfl)) (by unfold Func.isWrapper; first | (rw [if_pos (by decide +kernel)]; kernel_rfl) | (rw [if_neg (by decide +kernel)]; exact ⟨rfl, rfl⟩))
    (fun os started H enc _ => HeapOrder_lifted os started H enc)

theorem HeapOrder_holds : Rows.HeapOrderSaid := HeapOrder_over
end Go.Proofs.Ytefnmjoapmnkbaa
