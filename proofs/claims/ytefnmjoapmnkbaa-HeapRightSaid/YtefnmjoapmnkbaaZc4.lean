/-
  Of layer 8 of sorrel: whatever arguments come in, the law HeapRight returns true, and what was handed in reads as it did: right heaps stay right, whatever is put, and made alike; their room stays, and their trail grows by what was bound. No condition.
-/
import Derived.Test.YtefnmjoapmnkbaaZr8
import Derived.OrdersHeld
import Derived.Deep.RegionHeld3
set_option linter.unusedVariables false
namespace Go.Proofs.Ytefnmjoapmnkbaa
open Go.RowKit

/-! ### HeapRight -/
structure HLoop (w wr : World) (G : Nat) (r : Int) (xs : List Cel) (us ps : List Int) (ag : Option Addr) (cg : Nat) (tg : Option Addr) (ct : Nat) (pa : Option Addr) (pc : Nat) : Prop where
  z : ZH wr G ag xs.length cg tg us.length ct r
  rx : Row wr ag cg xs
  ru : Row wr tg ct us
  rp : Row wr pa pc ps
  right : RightP xs us r
  pl : PlOk xs.length ps
  few : ps.length ≤ 1000
  below : Below w.heap.size w wr
theorem RightP.short {xs : List Cel} {us : List Int} {r : Int} (h : RightP xs us r) : xs.length ≤ 4096 ∧ us.length ≤ 4096 := by
  have h1 := h.few
  have h2 := h.r2
  have h3 : us.length ≤ xs.length := by
    have e := nat_few xs.length (us.map Int.toNat) (by
      have hn := h.trail.2
      rw [List.nodup_iff_pairwise_ne] at hn ⊢
      rw [List.pairwise_map]
      refine hn.imp_of_mem fun {x y} hx hy hne e => hne ?_
      obtain ⟨i, rfl, _⟩ := h.trail.1 x hx
      obtain ⟨j, rfl, _⟩ := h.trail.1 y hy
      have e' : i = j := by simpa using e
      rw [e']) (fun v hv => by
      obtain ⟨x, hx, rfl⟩ := List.mem_map.1 hv
      obtain ⟨i, rfl, hi, _⟩ := h.trail.1 x hx
      simpa using hi)
    simpa using e
  omega
theorem PlOk.ne {m : Nat} {ps : List Int} {r : Int} (h : PlOk m ps) (h1 : 1 ≤ r) (h2 : (m : Int) ≤ r) : ∀ p ∈ ps, p ≠ r := fun p hp => by
  rcases h p hp with e | ⟨e1, e2⟩ <;> omega
theorem uout_tell {xs xs' : List Cel} {ts ts' : List Int} {p q : Int} {t : Bool} (h : UOut xs ts p q xs' ts' t) : xs'.length = xs.length ∧ ts.length ≤ ts'.length ∧ ts'.take ts.length = ts ∧ (t = false → ts'.length = ts.length) := by
  obtain ⟨L, hL⟩ := uout_bnd h
  refine ⟨hL.len, by rw [hL.tr, List.length_append]; omega, by rw [hL.tr]; simp, fun e => ?_⟩
  rcases h with ⟨_, _, _, rfl⟩ | ⟨e2, _⟩
  · rfl
  · rw [e] at e2; cases e2
set_option maxRecDepth 100000 in
set_option maxHeartbeats 64000000 in
theorem lawRight_any (HD : ∀ w : World, Calls Try.prog 12 #[] w fun e w' => e = .returned (.bool true) ∧ Below w.heap.size w w')
    (a : Option Addr) (cap : Nat) (a' : Option Addr) (cap' : Nat) (r : Int) (d : Option Addr) (cd : Nat) (w : World) (l : List Cel) (ts : List Int) (ops : List OpH)
    (hr : Row w a cap l) (ht : Row w a' cap' ts) (ho : Row w d cd ops) :
    Calls Try.prog 9 #[hv a l.length cap a' ts.length cap' r, .slice d ops.length cd] w fun e w' => e = .returned (.bool true) ∧ Below w.heap.size w w' := by
  have hm := hr.max
  have hle := hr.le
  have hm2 := ht.max
  have hle2 := ht.le
  have hm3 := ho.max
  have hle3 := ho.le
  have HR := mkHid hr
  have HT := mkHid ht
  have HO := mkHid ho
  clear hr ht ho
  go_enter Try.func9, Try.ntmps9
  have HB := mkHid (Below.refl w.heap.size w)
  go_wp2_with fail
  obtain ⟨W, hW⟩ : ∃ V, w.alloc (.cells #[.slice a l.length cap, .slice a' ts.length cap', .int .i64 r] 25) = V := ⟨_, rfl⟩
  have hb0 : Below w.heap.size w W := by rw [← hW]; exact (Below.refl _ _).new _
  have q0 : C38 W w.heap.size (.slice a l.length cap) (.slice a' ts.length cap') (.int .i64 r) := by rw [← hW]; exact C38.new w _ _ _ _
  rw [hW]
  clear hW
  obtain ⟨B0, hB0⟩ : ∃ V, w.heap.size = V := ⟨_, rfl⟩
  rw [hB0] at q0 ⊢
  have HB00 := mkHid hB0
  clear hB0
  replace HR := mkHid (HR.out.below hb0)
  replace HT := mkHid (HT.out.below hb0)
  replace HB := mkHid (HB.out.then hb0)
  have X0 := mkHid q0
  clear q0 hb0
  refine (HD _).mono ?_
  rintro e w1 ⟨rfl, hw1⟩
  replace HR := mkHid (HR.out.below hw1)
  replace HT := mkHid (HT.out.below hw1)
  replace X0 := mkHid (X0.out.below hw1)
  replace HB := mkHid (HB.out.then hw1)
  clear hw1
  have k0 := X0.out.lt
  obtain ⟨j00, j01, j02⟩ := X0.out
  go_wp2_with fail
  clear j00 j01 j02 k0
  refine (may8_any a cap a' cap' r _ l ts HR.out HT.out).mono ?_
  rintro e w2 ⟨⟨t, rfl, hMay⟩, hw2⟩
  replace HR := mkHid (HR.out.below hw2)
  replace HT := mkHid (HT.out.below hw2)
  replace X0 := mkHid (X0.out.below hw2)
  replace HB := mkHid (HB.out.then hw2)
  clear hw2
  have HM := mkHid hMay
  clear hMay
  cases t with
  | false =>
    go_wp2_with fail
    go_ret
    exact ⟨ret_bool rfl, HB.out⟩
  | true =>
    have HMP := mkHid (HM.out.1 (by first | rfl | trivial))
    clear HM
    have k0 := X0.out.lt
    obtain ⟨j00, j01, j02⟩ := X0.out
    go_wp2_with fail
    clear j00 j01 j02 k0
    have q1 := ZH.new (w2.alloc (.cells #[] 3)) a l.length cap a' ts.length cap' r
    rw [World.size_alloc] at q1
    have q2 : B0 < w2.heap.size + 1 ∧ w.heap.size ≤ w2.heap.size + 1 := ⟨by have := X0.out.lt; omega, by have := HB.out.size; omega⟩
    have hb : Below w2.heap.size w2 ((w2.alloc (.cells #[] 3)).alloc (.cells #[.slice a l.length cap, .slice a' ts.length cap', .int .i64 r] 25)) := ((Below.refl _ _).new _).new _
    replace HR := mkHid (HR.out.below hb)
    replace HT := mkHid (HT.out.below hb)
    replace X0 := mkHid (X0.out.below hb)
    replace HB := mkHid (HB.out.then hb)
    obtain ⟨w3, hV⟩ : ∃ V, ((w2.alloc (.cells #[] 3)).alloc (.cells #[.slice a l.length cap, .slice a' ts.length cap', .int .i64 r] 25)) = V := ⟨_, rfl⟩
    obtain ⟨GE, hG⟩ : ∃ V, w2.heap.size = V := ⟨_, rfl⟩
    rw [hV] at HR HT X0 HB q1 ⊢
    rw [hG] at q1 q2 ⊢
    obtain ⟨G6, hG6⟩ : ∃ V, GE + 1 = V := ⟨_, rfl⟩
    rw [hG6] at q1 q2 ⊢
    have Z6 := mkHid q1
    have N6 := mkHid q2
    clear hb hV hG hG6 q1 q2
    have HL0 : Hid (HLoop w w3 G6 r l ts [] a cap a' cap' (some ⟨GE, 0, none⟩) 0) := ⟨Z6.out, HR.out, HT.out, Row.empty _ _ _ (by omega) (fun e => by cases e), HMP.out.2.2, PlOk.nil _, by simp, HB.out⟩
    go_loopw [7, 8] (fun v i wr => ∃ (m : Nat) (xs : List Cel) (us ps : List Int) (ag : Option Addr) (cg : Nat) (tg : Option Addr) (ct : Nat) (pa : Option Addr) (pc : Nat), i = .int .i64 m ∧ v = .slice pa ps.length pc ∧ m ≤ 20 ∧ Hid (HLoop w wr G6 r xs us ps ag cg tg ct pa pc) ∧ Hid (C38 wr B0 (.slice a l.length cap) (.slice a' ts.length cap') (.int .i64 r))) (fun v i wr => 20 - (intOf i).toNat)
    case atStart => exact ⟨0, l, ts, [], a, cap, a', cap', some ⟨GE, 0, none⟩, 0, rfl, rfl, by omega, HL0.out, X0.out⟩
    case round =>
      obtain ⟨m, xs, us, ps, ag, cg, tg, ct, pa, pc, rfl, rfl, hm20, HL, X0r⟩ := hrel
      clear HL0 X0 Z6 HR HT HB
      have hmx := HL.out.rx.max
      have hmu := HL.out.ru.max
      have hmp := HL.out.rp.max
      have hlx := HL.out.rx.le
      have hlu := HL.out.ru.le
      have hlp := HL.out.rp.le
      have Z6 := mkHid HL.out.z
      have X6 := mkHid HL.out.z.c38
      have RX := mkHid HL.out.rx
      have RU := mkHid HL.out.ru
      have RP := mkHid HL.out.rp
      have HB := mkHid HL.out.below
      have HRT := mkHid HL.out.right
      have HPL := mkHid HL.out.pl
      have hps := HL.out.few
      obtain ⟨hx4, hu4⟩ := HL.out.right.short
      have X0 := X0r
      clear HL X0r
      try clear HMP
      by_cases hlt : (m : Int) < ops.length
      rotate_left
      · skip
        have k0 := X0.out.lt
        obtain ⟨j00, j01, j02⟩ := X0.out
        have k6 := X6.out.lt
        obtain ⟨j60, j61, j62⟩ := X6.out
        go_wp2_with fail
        clear j00 j01 j02 j60 j61 j62 k0 k6
        refine (rightK (b := true) RX.out RU.out (by omega) ⟨fun _ => HRT.out, fun _ => rfl⟩ rfl rfl).mono ?_
        rintro e w4 ⟨rfl, hw4⟩
        replace Z6 := mkHid (Z6.out.below hw4)
        replace X6 := mkHid (X6.out.below hw4)
        replace RX := mkHid (RX.out.below hw4)
        replace RU := mkHid (RU.out.below hw4)
        replace RP := mkHid (RP.out.below hw4)
        replace X0 := mkHid (X0.out.below hw4)
        replace HB := mkHid (HB.out.then hw4)
        clear hw4
        have k0 := X0.out.lt
        obtain ⟨j00, j01, j02⟩ := X0.out
        have k6 := X6.out.lt
        obtain ⟨j60, j61, j62⟩ := X6.out
        go_wp2_with fail
        clear j00 j01 j02 j60 j61 j62 k0 k6
        go_ret
        exact ⟨ret_bool rfl, HB.out⟩
      by_cases hlt2 : (m : Int) < 20
      rotate_left
      · skip
        have k0 := X0.out.lt
        obtain ⟨j00, j01, j02⟩ := X0.out
        have k6 := X6.out.lt
        obtain ⟨j60, j61, j62⟩ := X6.out
        go_wp2_with fail
        clear j00 j01 j02 j60 j61 j62 k0 k6
        refine (rightK (b := true) RX.out RU.out (by omega) ⟨fun _ => HRT.out, fun _ => rfl⟩ rfl rfl).mono ?_
        rintro e w5 ⟨rfl, hw5⟩
        replace Z6 := mkHid (Z6.out.below hw5)
        replace X6 := mkHid (X6.out.below hw5)
        replace RX := mkHid (RX.out.below hw5)
        replace RU := mkHid (RU.out.below hw5)
        replace RP := mkHid (RP.out.below hw5)
        replace X0 := mkHid (X0.out.below hw5)
        replace HB := mkHid (HB.out.then hw5)
        clear hw5
        have k0 := X0.out.lt
        obtain ⟨j00, j01, j02⟩ := X0.out
        have k6 := X6.out.lt
        obtain ⟨j60, j61, j62⟩ := X6.out
        go_wp2_with fail
        clear j00 j01 j02 j60 j61 j62 k0 k6
        go_ret
        exact ⟨ret_bool rfl, HB.out⟩
      by_cases hlt3 : (xs.length : Int) ≤ 300
      rotate_left
      · skip
        have k0 := X0.out.lt
        obtain ⟨j00, j01, j02⟩ := X0.out
        have k6 := X6.out.lt
        obtain ⟨j60, j61, j62⟩ := X6.out
        go_wp2_with fail
        clear j00 j01 j02 j60 j61 j62 k0 k6
        refine (rightK (b := true) RX.out RU.out (by omega) ⟨fun _ => HRT.out, fun _ => rfl⟩ rfl rfl).mono ?_
        rintro e w6 ⟨rfl, hw6⟩
        replace Z6 := mkHid (Z6.out.below hw6)
        replace X6 := mkHid (X6.out.below hw6)
        replace RX := mkHid (RX.out.below hw6)
        replace RU := mkHid (RU.out.below hw6)
        replace RP := mkHid (RP.out.below hw6)
        replace X0 := mkHid (X0.out.below hw6)
        replace HB := mkHid (HB.out.then hw6)
        clear hw6
        have k0 := X0.out.lt
        obtain ⟨j00, j01, j02⟩ := X0.out
        have k6 := X6.out.lt
        obtain ⟨j60, j61, j62⟩ := X6.out
        go_wp2_with fail
        clear j00 j01 j02 j60 j61 j62 k0 k6
        go_ret
        exact ⟨ret_bool rfl, HB.out⟩
      have hltn : m < ops.length := by omega
      obtain ⟨bo, oo, rfl, hbo, helo⟩ := HO.out.cases.resolve_left (fun e => by simp [e] at hltn)
      obtain ⟨⟨ta, tc, o0, hrT⟩, o1, o2, hfit⟩ := op_at helo HB.out hltn
      generalize ops[m] = op at *
      obtain ⟨T, p, q⟩ := op
      dsimp only at o0 o1 o2 hrT hfit
      have O0 := mkHid o0
      have O1 := mkHid o1
      have O2 := mkHid o2
      have RT := mkHid hrT
      have HFT := mkHid hfit
      have hTm := hrT.max
      have hTl := hrT.le
      clear o1 o2 hrT hfit helo o0
      have k6 := X6.out.lt
      obtain ⟨j60, j61, j62⟩ := X6.out
      iterate 56 (first | go_values | go_skip | go_guarded | go_step | go_upon | go_back)
      clear j60 j61 j62 k6
      generalize hA8 : Act.mk _ _ = A8
      obtain ⟨QQ, hQQ⟩ : ∃ QQ : Exit → Act → World → Prop, QQ = (fun ev A' W' => ev = .normal ∧ ∃ (e9 e10 e11 e12 e38 e39 e40 e41 e42 e43 e44 e45 e46 e47 e48 e49 e50 e51 e52 e53 e54 e55 e56 e57 e58 e59 e60 e61 e62 e63 e64 e65 e66 e67 e68 e69 e70 e71 e72 e73 e74 e75 e76 e77 e78 e79 e80 e81 e82 : Value) (xs1 : List Cel) (us1 ps1 : List Int) (ag1 : Option Addr) (cg1 : Nat) (tg1 : Option Addr) (ct1 : Nat) (pa1 : Option Addr) (pc1 : Nat), A' = ((((((((((((((((((((((((((((((((((((((((((((((((((A8.put (some 9) e9).put (some 10) e10).put (some 11) e11).put (some 12) e12).put (some 38) e38).put (some 39) e39).put (some 40) e40).put (some 41) e41).put (some 42) e42).put (some 43) e43).put (some 44) e44).put (some 45) e45).put (some 46) e46).put (some 47) e47).put (some 48) e48).put (some 49) e49).put (some 50) e50).put (some 51) e51).put (some 52) e52).put (some 53) e53).put (some 54) e54).put (some 55) e55).put (some 56) e56).put (some 57) e57).put (some 58) e58).put (some 59) e59).put (some 60) e60).put (some 61) e61).put (some 62) e62).put (some 63) e63).put (some 64) e64).put (some 65) e65).put (some 66) e66).put (some 67) e67).put (some 68) e68).put (some 69) e69).put (some 70) e70).put (some 71) e71).put (some 72) e72).put (some 73) e73).put (some 74) e74).put (some 75) e75).put (some 76) e76).put (some 77) e77).put (some 78) e78).put (some 79) e79).put (some 80) e80).put (some 81) e81).put (some 82) e82).put (some 7) (.slice pa1 ps1.length pc1)) ∧ HLoop w W' G6 r xs1 us1 ps1 ag1 cg1 tg1 ct1 pa1 pc1 ∧ C38 W' B0 (.slice a l.length cap) (.slice a' ts.length cap') (.int .i64 r) ∧ W'.cell? ⟨bo, oo + m * 3 + 1, none⟩ = some (.int .i64 p) ∧ W'.cell? ⟨bo, oo + m * 3 + 2, none⟩ = some (.int .i64 q)) := ⟨_, rfl⟩
      refine Code.wp_mono (Q := QQ) ?_ ?_
      rotate_left
      · subst hA8
        simp only [Act.put, List.setIfInBounds_toArray, List.set_cons_zero, List.set_cons_succ] at hQQ
        have HQQ := mkHid hQQ
        clear hQQ
        by_cases h210 : (T.length : Int) ≤ 210
        rotate_left
        · skip
          have o0 := O0.out
          have k6 := X6.out.lt
          obtain ⟨j60, j61, j62⟩ := X6.out
          go_wp2_with fail
          clear j60 j61 j62 k6
          clear o0
          rw [HQQ.out]
          refine ⟨rfl, ?_⟩
          (repeat apply Exists.intro)
          exact ⟨rfl, ⟨Z6.out, RX.out, RU.out, RP.out, HRT.out, HPL.out, hps, HB.out⟩, X0.out, O1.out, O2.out⟩
        cases hRi : rightB T with
        | false =>
          have HRI := mkHid hRi
          have o0 := O0.out
          have k6 := X6.out.lt
          obtain ⟨j60, j61, j62⟩ := X6.out
          go_wp2_with fail
          clear j60 j61 j62 k6
          clear o0
          refine (refright_any ta tc _ T RT.out).mono ?_
          rintro e w7 ⟨rfl, hw7⟩
          rw [HRI.out]
          replace Z6 := mkHid (Z6.out.below hw7)
          replace X6 := mkHid (X6.out.below hw7)
          replace RX := mkHid (RX.out.below hw7)
          replace RU := mkHid (RU.out.below hw7)
          replace RP := mkHid (RP.out.below hw7)
          replace X0 := mkHid (X0.out.below hw7)
          replace RT := mkHid (RT.out.below hw7)
          replace HB := mkHid (HB.out.then hw7)
          replace O0 := mkHid (keep O0.out hw7)
          replace O1 := mkHid (keep O1.out hw7)
          replace O2 := mkHid (keep O2.out hw7)
          clear hw7
          clear hRi
          have k6 := X6.out.lt
          obtain ⟨j60, j61, j62⟩ := X6.out
          go_wp2_with fail
          clear j60 j61 j62 k6
          rw [HQQ.out]
          refine ⟨rfl, ?_⟩
          (repeat apply Exists.intro)
          exact ⟨rfl, ⟨Z6.out, RX.out, RU.out, RP.out, HRT.out, HPL.out, hps, HB.out⟩, X0.out, O1.out, O2.out⟩
        | true =>
          have HRI := mkHid hRi
          have o0 := O0.out
          have k6 := X6.out.lt
          obtain ⟨j60, j61, j62⟩ := X6.out
          go_wp2_with fail
          clear j60 j61 j62 k6
          clear o0
          refine (refright_any ta tc _ T RT.out).mono ?_
          rintro e w8 ⟨rfl, hw8⟩
          rw [HRI.out]
          replace Z6 := mkHid (Z6.out.below hw8)
          replace X6 := mkHid (X6.out.below hw8)
          replace RX := mkHid (RX.out.below hw8)
          replace RU := mkHid (RU.out.below hw8)
          replace RP := mkHid (RP.out.below hw8)
          replace X0 := mkHid (X0.out.below hw8)
          replace RT := mkHid (RT.out.below hw8)
          replace HB := mkHid (HB.out.then hw8)
          replace O0 := mkHid (keep O0.out hw8)
          replace O1 := mkHid (keep O1.out hw8)
          replace O2 := mkHid (keep O2.out hw8)
          clear hw8
          obtain ⟨tm, hok, rfl, h200⟩ := right_tm hRi
          have HOK := mkHid hok
          clear hRi hok
          have k6 := X6.out.lt
          obtain ⟨j60, j61, j62⟩ := X6.out
          go_wp2_with fail
          clear j60 j61 j62 k6
          generalize hA : Act.mk _ _ = A0
          refine Code.wp_mono (Q := fun ev A' W' => ev = .normal ∧ ∃ (e54 e55 e56 e57 e58 e59 e60 e61 e53 e62 e63 e64 e65 : Value) (B : Nat) (xs3 : List Cel) (pl : Int) (at3 : List Int) (er : Int) (a11 : Option Addr) (c11 : Nat) (a12 : Option Addr) (c12 : Nat) (a13 : Option Addr) (c13 : Nat), A' = (((((((((((((((((A0.put (some 54) e54).put (some 55) e55).put (some 56) e56).put (some 57) e57).put (some 58) e58).put (some 59) e59).put (some 60) e60).put (some 61) e61).put (some 53) e53).put (some 62) e62).put (some 63) e63).put (some 64) e64).put (some 65) e65).put (some 9) (.pointer (some ⟨B, 0, none⟩))).put (some 10) (.int .i64 pl)).put (some 11) (.slice a13 at3.length c13)).put (some 12) (.int .i64 er)) ∧ C38 W' B (.slice a11 xs3.length c11) (.slice a12 us.length c12) (.int .i64 r) ∧ Row W' a11 c11 xs3 ∧ Row W' a12 c12 us ∧ Row W' a13 c13 at3 ∧ POut xs ps r (putS xs (widenL ps (varsL tm.flat)) tm) xs3 pl at3 er ∧ w8.heap.size ≤ B ∧ Below w8.heap.size w8 W') ?_ ?_
          rotate_left
          · subst hA
            have HS : Hid (∀ X, Below w8.heap.size w8 X → (fun X => C38 X G6 (.slice ag xs.length cg) (.slice tg us.length ct) (.int .i64 r) ∧ X.cell? ⟨bo, oo + m * 3, none⟩ = some (.slice ta tm.flat.length tc)) X) := fun X h => ⟨X6.out.below h, keep O0.out h⟩
            have hd0 : Below w8.heap.size w8 w8.drew := (Below.refl _ _).drew
            refine wp_region_noPanic ?_
            refine wp_region_held_drew (S := fun X => C38 X G6 (.slice ag xs.length cg) (.slice tg us.length ct) (.int .i64 r) ∧ X.cell? ⟨bo, oo + m * 3, none⟩ = some (.slice ta tm.flat.length tc)) (by kernel_rfl) (HS.out _ hd0) (fun hSd => ?_)
            obtain ⟨v0, hx0⟩ : ∃ X, w8.drew = X := ⟨_, rfl⟩
            rw [hx0] at hd0 hSd ⊢
            clear hx0
            refine wpAnyH_take (i := 0) (oi := _) (v := ?_) rfl (by kernel_rfl) (by kernel_rfl) (by kernel_rfl) (fun _ _ _ h => h) (Or.inl ⟨by rfl, ?_⟩) (by assumption) ?_
            rotate_left
            · (intro w' hSw; obtain ⟨⟨q0, q1, q2⟩, q3⟩ := hSw; go_simp; try with_reducible rfl)
            (try simp only [List.getElem_toArray, List.getElem_cons_succ, List.getElem_cons_zero, Act.put, List.setIfInBounds_toArray, List.set_cons_zero, List.set_cons_succ])
            refine wpAnyH_take (i := 1) (oi := _) (v := ?_) rfl (by kernel_rfl) (by kernel_rfl) (by kernel_rfl) (fun _ _ _ h => h) (Or.inl ⟨by rfl, ?_⟩) (by assumption) ?_
            rotate_left
            · (intro w' hSw; obtain ⟨⟨q0, q1, q2⟩, q3⟩ := hSw; go_simp; try with_reducible rfl)
            (try simp only [List.getElem_toArray, List.getElem_cons_succ, List.getElem_cons_zero, Act.put, List.setIfInBounds_toArray, List.set_cons_zero, List.set_cons_succ])
            refine wpAnyH_take (i := 2) (oi := _) (v := ?_) rfl (by kernel_rfl) (by kernel_rfl) (by kernel_rfl) (fun _ _ _ h => h) (Or.inl ⟨by rfl, ?_⟩) (by assumption) ?_
            rotate_left
            · (intro w' hSw; obtain ⟨⟨q0, q1, q2⟩, q3⟩ := hSw; go_simp; try with_reducible rfl)
            (try simp only [List.getElem_toArray, List.getElem_cons_succ, List.getElem_cons_zero, Act.put, List.setIfInBounds_toArray, List.set_cons_zero, List.set_cons_succ])
            refine wpAnyH_take (i := 3) (oi := _) (v := ?_) rfl (by kernel_rfl) (by kernel_rfl) (by kernel_rfl) (fun _ _ _ h => h) (Or.inl ⟨by rfl, ?_⟩) (by assumption) ?_
            rotate_left
            · (intro w' hSw; obtain ⟨⟨q0, q1, q2⟩, q3⟩ := hSw; go_simp; try with_reducible rfl)
            (try simp only [List.getElem_toArray, List.getElem_cons_succ, List.getElem_cons_zero, Act.put, List.setIfInBounds_toArray, List.set_cons_zero, List.set_cons_succ])
            refine wpAnyH_take (i := 4) (oi := _) (v := ?_) rfl (by kernel_rfl) (by kernel_rfl) (by kernel_rfl) (fun _ _ _ h => h) (Or.inl ⟨by rfl, ?_⟩) (by assumption) ?_
            rotate_left
            · (intro w' hSw; obtain ⟨⟨q0, q1, q2⟩, q3⟩ := hSw; go_simp; try with_reducible rfl)
            (try simp only [List.getElem_toArray, List.getElem_cons_succ, List.getElem_cons_zero, Act.put, List.setIfInBounds_toArray, List.set_cons_zero, List.set_cons_succ])
            refine wpAnyH_take (i := 5) (oi := _) (v := ?_) rfl (by kernel_rfl) (by kernel_rfl) (by kernel_rfl) (fun _ _ _ h => h) (Or.inl ⟨by rfl, ?_⟩) (by assumption) ?_
            rotate_left
            · (intro w' hSw; obtain ⟨⟨q0, q1, q2⟩, q3⟩ := hSw; go_simp; try with_reducible rfl)
            (try simp only [List.getElem_toArray, List.getElem_cons_succ, List.getElem_cons_zero, Act.put, List.setIfInBounds_toArray, List.set_cons_zero, List.set_cons_succ])
            refine wpAnyH_take (i := 6) (oi := _) (v := ?_) rfl (by kernel_rfl) (by kernel_rfl) (by kernel_rfl) (fun _ _ _ h => h) (Or.inl ⟨by rfl, ?_⟩) (by assumption) ?_
            rotate_left
            · (intro w' hSw; obtain ⟨⟨q0, q1, q2⟩, q3⟩ := hSw; go_simp; try with_reducible rfl)
            (try simp only [List.getElem_toArray, List.getElem_cons_succ, List.getElem_cons_zero, Act.put, List.setIfInBounds_toArray, List.set_cons_zero, List.set_cons_succ])
            refine wpAnyH_ready (rs := [7, 13]) (by kernel_rfl) (by simp) ?_
            refine AllReadyH.cons (o := _) rfl (fun K hK => ?_) ?_
            · skip
              go_simp
              refine (hput_any ag cg tg ct r ta tc pa pc _ xs us ps tm (RX.out.below hd0) (RU.out.below hd0) (RT.out.below hd0) (RP.out.below hd0) HOK.out h200 (by omega) (by omega) hps (HPL.out.known _)).mono ?_
              rintro e v1 ⟨xs3, pl, at3, er, a11, c11, a12, c12, a13, c13, rfl, hP, r11, s11, p11, hbv1⟩
              have hd1 := hd0.then hbv1
              try dsimp only
              refine hK.out _ _ (HS.out _ hd1) (fun hS1 => ?_)
              clear hK K
              (try simp only [List.getElem_toArray, List.getElem_cons_succ, List.getElem_cons_zero, Act.put, List.setIfInBounds_toArray, List.set_cons_zero, List.set_cons_succ])
              refine wpAnyH_take (i := 8) (oi := _) (v := ?_) rfl (by kernel_rfl) (by kernel_rfl) (by kernel_rfl) (fun _ _ _ h => h) (Or.inl ⟨by rfl, ?_⟩) (by assumption) ?_
              rotate_left
              · (intro w' hSw; obtain ⟨⟨q0, q1, q2⟩, q3⟩ := hSw; go_simp; try with_reducible rfl)
              (try simp only [List.getElem_toArray, List.getElem_cons_succ, List.getElem_cons_zero, Act.put, List.setIfInBounds_toArray, List.set_cons_zero, List.set_cons_succ])
              refine wpAnyH_take (i := 9) (oi := _) (v := ?_) rfl (by kernel_rfl) (by kernel_rfl) (by kernel_rfl) (fun _ _ _ h => h) (Or.inl ⟨by rfl, ?_⟩) (by assumption) ?_
              rotate_left
              · (intro w' hSw; obtain ⟨⟨q0, q1, q2⟩, q3⟩ := hSw; go_simp; try with_reducible rfl)
              (try simp only [List.getElem_toArray, List.getElem_cons_succ, List.getElem_cons_zero, Act.put, List.setIfInBounds_toArray, List.set_cons_zero, List.set_cons_succ])
              refine wpAnyH_take (i := 10) (oi := _) (v := ?_) rfl (by kernel_rfl) (by kernel_rfl) (by kernel_rfl) (fun _ _ _ h => h) (Or.inl ⟨by rfl, ?_⟩) (by assumption) ?_
              rotate_left
              · (intro w' hSw; obtain ⟨⟨q0, q1, q2⟩, q3⟩ := hSw; go_simp; try with_reducible rfl)
              (try simp only [List.getElem_toArray, List.getElem_cons_succ, List.getElem_cons_zero, Act.put, List.setIfInBounds_toArray, List.set_cons_zero, List.set_cons_succ])
              refine wpAnyH_take (i := 11) (oi := _) (v := ?_) rfl (by kernel_rfl) (by kernel_rfl) (by kernel_rfl) (fun _ _ _ h => h) (Or.inl ⟨by rfl, ?_⟩) (by assumption) ?_
              rotate_left
              · (intro w' hSw; obtain ⟨⟨q0, q1, q2⟩, q3⟩ := hSw; go_simp; try with_reducible rfl)
              (try simp only [List.getElem_toArray, List.getElem_cons_succ, List.getElem_cons_zero, Act.put, List.setIfInBounds_toArray, List.set_cons_zero, List.set_cons_succ])
              refine wpAnyH_take (i := 12) (oi := _) (v := ?_) rfl (by kernel_rfl) (by kernel_rfl) (by kernel_rfl) (fun _ _ _ h => h) (Or.inl ⟨by rfl, ?_⟩) (by assumption) ?_
              rotate_left
              · (intro w' hSw; obtain ⟨⟨q0, q1, q2⟩, q3⟩ := hSw; go_simp; try with_reducible rfl)
              (try simp only [List.getElem_toArray, List.getElem_cons_succ, List.getElem_cons_zero, Act.put, List.setIfInBounds_toArray, List.set_cons_zero, List.set_cons_succ])
              refine wpAnyH_ready (rs := [13]) (by kernel_rfl) (by simp) ?_
              refine AllReadyH.cons (o := _) rfl (fun K hK => ?_) AllReadyH.nil
              go_simp
              try dsimp only
              have q0 : ZB (v1.alloc (.cells #[.slice none 0 0, .slice none 0 0, .int .i64 0] 25)) v1.heap.size := ZB.new v1
              have hge := hd1.size
              have hbv2 := (Below.refl v1.heap.size v1).new (.cells #[.slice none 0 0, .slice none 0 0, .int .i64 0] 25)
              have hlt : v1.heap.size < (v1.alloc (.cells #[.slice none 0 0, .slice none 0 0, .int .i64 0] 25)).heap.size := by simp
              have hd2 := hd1.then hbv2
              refine hK.out _ _ (HS.out _ hd2) (fun hS2 => ?_)
              clear hK K
              (try simp only [List.getElem_toArray, List.getElem_cons_succ, List.getElem_cons_zero, Act.put, List.setIfInBounds_toArray, List.set_cons_zero, List.set_cons_succ])
              obtain ⟨v2, hV⟩ : ∃ V, v1.alloc (.cells #[.slice none 0 0, .slice none 0 0, .int .i64 0] 25) = V := ⟨_, rfl⟩
              obtain ⟨B, hG⟩ : ∃ V, v1.heap.size = V := ⟨_, rfl⟩
              rw [hV] at q0 hd2 hS2 hbv2 hlt ⊢
              rw [hG] at q0 hge hlt ⊢
              have RZ := mkHid q0
              have HGE := mkHid hge
              have HLT := mkHid hlt
              have r11a := r11.row.below hbv2
              have s11a := s11.row.below hbv2
              have p11a := p11.row.below hbv2
              have hBX : v1.heap.size ≤ B := by omega
              clear hV hG q0 hge hlt
              refine wpAnyH_ready (rs := [14]) (by kernel_rfl) (by simp) ?_
              refine AllReadyH.cons (o := _) rfl (fun K hK => ?_) AllReadyH.nil
              have z0 := RZ.out.cell 0
              have z1 := RZ.out.cell 1
              have z2 := RZ.out.cell 2
              have y0 := RZ.out.froz 0
              have y1 := RZ.out.froz 1
              have y2 := RZ.out.froz 2
              simp only [List.getElem?_toArray, List.getElem?_cons_zero, List.getElem?_cons_succ] at z0 z1 z2
              go_simp
              try dsimp only
              have hbx : C38 (((v2.setCell ⟨B, 0, none⟩ (.slice a11 xs3.length c11)).setCell ⟨B, 1, none⟩ (.slice a12 us.length c12)).setCell ⟨B, 2, none⟩ (.int .i64 r)) B (.slice a11 xs3.length c11) (.slice a12 us.length c12) (.int .i64 r) := RZ.out.set3c _ _ _
              have hd3 : Below w8.heap.size w8 (((v2.setCell ⟨B, 0, none⟩ (.slice a11 xs3.length c11)).setCell ⟨B, 1, none⟩ (.slice a12 us.length c12)).setCell ⟨B, 2, none⟩ (.int .i64 r)) := hd2.trans ((set3 B v2 _ _ _).mono HGE.out)
              have r11z := (r11.row.below ((hbv2).trans ((set3 B v2 (.slice a11 xs3.length c11) (.slice a12 us.length c12) (.int .i64 r)).mono hBX)))
              have s11z := (s11.row.below ((hbv2).trans ((set3 B v2 (.slice a11 xs3.length c11) (.slice a12 us.length c12) (.int .i64 r)).mono hBX)))
              have p11z := (p11.row.below ((hbv2).trans ((set3 B v2 (.slice a11 xs3.length c11) (.slice a12 us.length c12) (.int .i64 r)).mono hBX)))
              clear z0 z1 z2 y0 y1 y2
              refine hK.out _ _ (HS.out _ hd3) (fun hS3 => ?_)
              clear hK K
              (try simp only [List.getElem_toArray, List.getElem_cons_succ, List.getElem_cons_zero, Act.put, List.setIfInBounds_toArray, List.set_cons_zero, List.set_cons_succ])
              refine wpAnyH_take (i := 15) (oi := _) (v := ?_) rfl (by kernel_rfl) (by kernel_rfl) (by kernel_rfl) (fun _ _ _ h => h) (Or.inl ⟨by rfl, ?_⟩) (by assumption) ?_
              rotate_left
              · (intro w' hSw; obtain ⟨⟨q0, q1, q2⟩, q3⟩ := hSw; go_simp; try with_reducible rfl)
              (try simp only [List.getElem_toArray, List.getElem_cons_succ, List.getElem_cons_zero, Act.put, List.setIfInBounds_toArray, List.set_cons_zero, List.set_cons_succ])
              refine wpAnyH_take (i := 16) (oi := _) (v := ?_) rfl (by kernel_rfl) (by kernel_rfl) (by kernel_rfl) (fun _ _ _ h => h) (Or.inl ⟨by rfl, ?_⟩) (by assumption) ?_
              rotate_left
              · (intro w' hSw; obtain ⟨⟨q0, q1, q2⟩, q3⟩ := hSw; go_simp; try with_reducible rfl)
              (try simp only [List.getElem_toArray, List.getElem_cons_succ, List.getElem_cons_zero, Act.put, List.setIfInBounds_toArray, List.set_cons_zero, List.set_cons_succ])
              refine wpAnyH_take (i := 17) (oi := _) (v := ?_) rfl (by kernel_rfl) (by kernel_rfl) (by kernel_rfl) (fun _ _ _ h => h) (Or.inl ⟨by rfl, ?_⟩) (by assumption) ?_
              rotate_left
              · (intro w' hSw; obtain ⟨⟨q0, q1, q2⟩, q3⟩ := hSw; go_simp; try with_reducible rfl)
              (try simp only [List.getElem_toArray, List.getElem_cons_succ, List.getElem_cons_zero, Act.put, List.setIfInBounds_toArray, List.set_cons_zero, List.set_cons_succ])
              refine wpAnyH_done (by kernel_rfl) (NoPanic.normal ?_) _
              refine ⟨rfl, ?_⟩
              (repeat apply Exists.intro)
              exact ⟨rfl, hbx, r11z, s11z, p11z, hP, HGE.out, hd3⟩
            refine AllReadyH.cons (o := _) rfl (fun K hK => ?_) AllReadyH.nil
            go_simp
            try dsimp only
            have q0 : ZB (v0.alloc (.cells #[.slice none 0 0, .slice none 0 0, .int .i64 0] 25)) v0.heap.size := ZB.new v0
            have hge := hd0.size
            have hbv1 := (Below.refl v0.heap.size v0).new (.cells #[.slice none 0 0, .slice none 0 0, .int .i64 0] 25)
            have hlt : v0.heap.size < (v0.alloc (.cells #[.slice none 0 0, .slice none 0 0, .int .i64 0] 25)).heap.size := by simp
            have hd1 := hd0.then hbv1
            refine hK.out _ _ (HS.out _ hd1) (fun hS1 => ?_)
            clear hK K
            (try simp only [List.getElem_toArray, List.getElem_cons_succ, List.getElem_cons_zero, Act.put, List.setIfInBounds_toArray, List.set_cons_zero, List.set_cons_succ])
            obtain ⟨v1, hV⟩ : ∃ V, v0.alloc (.cells #[.slice none 0 0, .slice none 0 0, .int .i64 0] 25) = V := ⟨_, rfl⟩
            obtain ⟨B, hG⟩ : ∃ V, v0.heap.size = V := ⟨_, rfl⟩
            rw [hV] at q0 hd1 hS1 hbv1 hlt ⊢
            rw [hG] at q0 hge hlt ⊢
            have RZ := mkHid q0
            have HGE := mkHid hge
            have HLT := mkHid hlt
            have hBX : v0.heap.size ≤ B := by omega
            clear hV hG q0 hge hlt
            refine wpAnyH_ready (rs := [7]) (by kernel_rfl) (by simp) ?_
            refine AllReadyH.cons (o := _) rfl (fun K hK => ?_) AllReadyH.nil
            go_simp
            refine (hput_any ag cg tg ct r ta tc pa pc _ xs us ps tm (RX.out.below hd1) (RU.out.below hd1) (RT.out.below hd1) (RP.out.below hd1) HOK.out h200 (by omega) (by omega) hps (HPL.out.known _)).mono ?_
            rintro e v2 ⟨xs3, pl, at3, er, a11, c11, a12, c12, a13, c13, rfl, hP, r11, s11, p11, hbv2⟩
            have hd2 := hd1.then hbv2
            try dsimp only
            refine hK.out _ _ (HS.out _ hd2) (fun hS2 => ?_)
            clear hK K
            (try simp only [List.getElem_toArray, List.getElem_cons_succ, List.getElem_cons_zero, Act.put, List.setIfInBounds_toArray, List.set_cons_zero, List.set_cons_succ])
            refine wpAnyH_take (i := 8) (oi := _) (v := ?_) rfl (by kernel_rfl) (by kernel_rfl) (by kernel_rfl) (fun _ _ _ h => h) (Or.inl ⟨by rfl, ?_⟩) (by assumption) ?_
            rotate_left
            · (intro w' hSw; obtain ⟨⟨q0, q1, q2⟩, q3⟩ := hSw; go_simp; try with_reducible rfl)
            (try simp only [List.getElem_toArray, List.getElem_cons_succ, List.getElem_cons_zero, Act.put, List.setIfInBounds_toArray, List.set_cons_zero, List.set_cons_succ])
            refine wpAnyH_take (i := 9) (oi := _) (v := ?_) rfl (by kernel_rfl) (by kernel_rfl) (by kernel_rfl) (fun _ _ _ h => h) (Or.inl ⟨by rfl, ?_⟩) (by assumption) ?_
            rotate_left
            · (intro w' hSw; obtain ⟨⟨q0, q1, q2⟩, q3⟩ := hSw; go_simp; try with_reducible rfl)
            (try simp only [List.getElem_toArray, List.getElem_cons_succ, List.getElem_cons_zero, Act.put, List.setIfInBounds_toArray, List.set_cons_zero, List.set_cons_succ])
            refine wpAnyH_take (i := 10) (oi := _) (v := ?_) rfl (by kernel_rfl) (by kernel_rfl) (by kernel_rfl) (fun _ _ _ h => h) (Or.inl ⟨by rfl, ?_⟩) (by assumption) ?_
            rotate_left
            · (intro w' hSw; obtain ⟨⟨q0, q1, q2⟩, q3⟩ := hSw; go_simp; try with_reducible rfl)
            (try simp only [List.getElem_toArray, List.getElem_cons_succ, List.getElem_cons_zero, Act.put, List.setIfInBounds_toArray, List.set_cons_zero, List.set_cons_succ])
            refine wpAnyH_take (i := 11) (oi := _) (v := ?_) rfl (by kernel_rfl) (by kernel_rfl) (by kernel_rfl) (fun _ _ _ h => h) (Or.inl ⟨by rfl, ?_⟩) (by assumption) ?_
            rotate_left
            · (intro w' hSw; obtain ⟨⟨q0, q1, q2⟩, q3⟩ := hSw; go_simp; try with_reducible rfl)
            (try simp only [List.getElem_toArray, List.getElem_cons_succ, List.getElem_cons_zero, Act.put, List.setIfInBounds_toArray, List.set_cons_zero, List.set_cons_succ])
            refine wpAnyH_take (i := 12) (oi := _) (v := ?_) rfl (by kernel_rfl) (by kernel_rfl) (by kernel_rfl) (fun _ _ _ h => h) (Or.inl ⟨by rfl, ?_⟩) (by assumption) ?_
            rotate_left
            · (intro w' hSw; obtain ⟨⟨q0, q1, q2⟩, q3⟩ := hSw; go_simp; try with_reducible rfl)
            (try simp only [List.getElem_toArray, List.getElem_cons_succ, List.getElem_cons_zero, Act.put, List.setIfInBounds_toArray, List.set_cons_zero, List.set_cons_succ])
            replace RZ := mkHid (RZ.out.below hbv2)
            refine wpAnyH_ready (rs := [14]) (by kernel_rfl) (by simp) ?_
            refine AllReadyH.cons (o := _) rfl (fun K hK => ?_) AllReadyH.nil
            have z0 := RZ.out.cell 0
            have z1 := RZ.out.cell 1
            have z2 := RZ.out.cell 2
            have y0 := RZ.out.froz 0
            have y1 := RZ.out.froz 1
            have y2 := RZ.out.froz 2
            simp only [List.getElem?_toArray, List.getElem?_cons_zero, List.getElem?_cons_succ] at z0 z1 z2
            go_simp
            try dsimp only
            have hbx : C38 (((v2.setCell ⟨B, 0, none⟩ (.slice a11 xs3.length c11)).setCell ⟨B, 1, none⟩ (.slice a12 us.length c12)).setCell ⟨B, 2, none⟩ (.int .i64 r)) B (.slice a11 xs3.length c11) (.slice a12 us.length c12) (.int .i64 r) := RZ.out.set3c _ _ _
            have hd3 : Below w8.heap.size w8 (((v2.setCell ⟨B, 0, none⟩ (.slice a11 xs3.length c11)).setCell ⟨B, 1, none⟩ (.slice a12 us.length c12)).setCell ⟨B, 2, none⟩ (.int .i64 r)) := hd2.trans ((set3 B v2 _ _ _).mono HGE.out)
            have r11z := (r11.grown (set3_grown B v2 (.slice a11 xs3.length c11) (.slice a12 us.length c12) (.int .i64 r)) (fun g e => by cases e; exact HLT.out)).row
            have s11z := (s11.grown (set3_grown B v2 (.slice a11 xs3.length c11) (.slice a12 us.length c12) (.int .i64 r)) (fun g e => by cases e; exact HLT.out)).row
            have p11z := (p11.grown (set3_grown B v2 (.slice a11 xs3.length c11) (.slice a12 us.length c12) (.int .i64 r)) (fun g e => by cases e; exact HLT.out)).row
            clear z0 z1 z2 y0 y1 y2
            refine hK.out _ _ (HS.out _ hd3) (fun hS3 => ?_)
            clear hK K
            (try simp only [List.getElem_toArray, List.getElem_cons_succ, List.getElem_cons_zero, Act.put, List.setIfInBounds_toArray, List.set_cons_zero, List.set_cons_succ])
            refine wpAnyH_take (i := 15) (oi := _) (v := ?_) rfl (by kernel_rfl) (by kernel_rfl) (by kernel_rfl) (fun _ _ _ h => h) (Or.inl ⟨by rfl, ?_⟩) (by assumption) ?_
            rotate_left
            · (intro w' hSw; obtain ⟨⟨q0, q1, q2⟩, q3⟩ := hSw; go_simp; try with_reducible rfl)
            (try simp only [List.getElem_toArray, List.getElem_cons_succ, List.getElem_cons_zero, Act.put, List.setIfInBounds_toArray, List.set_cons_zero, List.set_cons_succ])
            refine wpAnyH_take (i := 16) (oi := _) (v := ?_) rfl (by kernel_rfl) (by kernel_rfl) (by kernel_rfl) (fun _ _ _ h => h) (Or.inl ⟨by rfl, ?_⟩) (by assumption) ?_
            rotate_left
            · (intro w' hSw; obtain ⟨⟨q0, q1, q2⟩, q3⟩ := hSw; go_simp; try with_reducible rfl)
            (try simp only [List.getElem_toArray, List.getElem_cons_succ, List.getElem_cons_zero, Act.put, List.setIfInBounds_toArray, List.set_cons_zero, List.set_cons_succ])
            refine wpAnyH_take (i := 17) (oi := _) (v := ?_) rfl (by kernel_rfl) (by kernel_rfl) (by kernel_rfl) (fun _ _ _ h => h) (Or.inl ⟨by rfl, ?_⟩) (by assumption) ?_
            rotate_left
            · (intro w' hSw; obtain ⟨⟨q0, q1, q2⟩, q3⟩ := hSw; go_simp; try with_reducible rfl)
            (try simp only [List.getElem_toArray, List.getElem_cons_succ, List.getElem_cons_zero, Act.put, List.setIfInBounds_toArray, List.set_cons_zero, List.set_cons_succ])
            refine wpAnyH_done (by kernel_rfl) (NoPanic.normal ?_) _
            refine ⟨rfl, ?_⟩
            (repeat apply Exists.intro)
            exact ⟨rfl, hbx, r11z, s11z, p11z, hP, HGE.out, hd3⟩
          rintro ev A' w9 ⟨rfl, e54, e55, e56, e57, e58, e59, e60, e61, e53, e62, e63, e64, e65, B3, xs3, pl, at3, er, a11, c11, a12, c12, a13, c13, rfl, hbx, r11, s11, p11, hP, hge3, hw9⟩
          subst hA
          simp only [Act.put, List.setIfInBounds_toArray, List.set_cons_zero, List.set_cons_succ]
          replace Z6 := mkHid (Z6.out.below hw9)
          replace X6 := mkHid (X6.out.below hw9)
          replace RX := mkHid (RX.out.below hw9)
          replace RU := mkHid (RU.out.below hw9)
          replace RP := mkHid (RP.out.below hw9)
          replace X0 := mkHid (X0.out.below hw9)
          replace RT := mkHid (RT.out.below hw9)
          replace HB := mkHid (HB.out.then hw9)
          replace O0 := mkHid (keep O0.out hw9)
          replace O1 := mkHid (keep O1.out hw9)
          replace O2 := mkHid (keep O2.out hw9)
          clear hw9
          have X3 := mkHid hbx
          have R11 := mkHid r11
          have S11 := mkHid s11
          have P11 := mkHid p11
          clear hbx r11 s11 p11
          have HK := mkHid (pout_kept (at_ := ps) hP HOK.out h200 (few_of_slots HRT.out.slots) HPL.out hps)
          have HRT3 := mkHid (pout_right hP HOK.out HPL.out HRT.out)
          have hm11 := R11.out.max
          have hl11 := R11.out.le
          have hm13 := P11.out.max
          have hl13 := P11.out.le
          have hs3 := HRT3.out.short
          have hat3 := HK.out.2.2.1
          have HPO : Hid ((er = 80) ∨ (er = 0 ∧ 0 ≤ pl ∧ pl < (xs3.length : Int))) := by
            rcases hP with ⟨_, _, _, _, e⟩ | ⟨_, e1, e2, _, e⟩
            · exact .inl e
            · have := putS_place (widen_vars HOK.out ps) (HPL.out.widen (varsL tm.flat)); rw [e1, e2]; exact .inr ⟨e, this⟩
          have HPE : Hid (er = 80 → xs3 = xs) := fun e => by rcases hP with ⟨_, h, _⟩ | ⟨_, _, _, _, h⟩; exact h; omega
          clear hP
          rcases HPO.out with rfl | ⟨rfl, hpl1, hpl2⟩
          · skip
            have f0 := Z6.out.froz 0
            have f1 := Z6.out.froz 1
            have f2 := Z6.out.froz 2
            have k6 := X6.out.lt
            obtain ⟨j60, j61, j62⟩ := X6.out
            have k3 := X3.out.lt
            obtain ⟨j30, j31, j32⟩ := X3.out
            go_wp2_with fail
            clear j60 j61 j62 j30 j31 j32 k6 k3
            clear f0 f1 f2
            have ho := Oth.set3 w9 G6 (.slice a11 xs3.length c11) (.slice a12 us.length c12) (.int .i64 r)
            have hbs : Below w.heap.size w (((w9.setCell ⟨G6, 0, none⟩ (.slice a11 xs3.length c11)).setCell ⟨G6, 1, none⟩ (.slice a12 us.length c12)).setCell ⟨G6, 2, none⟩ (.int .i64 r)) := HB.out.trans ((set3 G6 w9 _ _ _).mono N6.out.2)
            have z6 := Z6.out.put a11 xs3.length c11 a12 us.length c12 r
            have HOP : Hid (∀ v k, k < 3 → w9.cell? ⟨bo, oo + m * 3 + k, none⟩ = some v → (((w9.setCell ⟨G6, 0, none⟩ (.slice a11 xs3.length c11)).setCell ⟨G6, 1, none⟩ (.slice a12 us.length c12)).setCell ⟨G6, 2, none⟩ (.int .i64 r)).cell? ⟨bo, oo + m * 3 + k, none⟩ = some v) := fun v k _ h => ho _ _ _ (by have := N6.out.2; omega) h
            have o0 := HOP.out _ 0 (by omega) O0.out
            have o1 := HOP.out _ 1 (by omega) O1.out
            have o2 := HOP.out _ 2 (by omega) O2.out
            replace O0 := mkHid o0
            replace O1 := mkHid o1
            replace O2 := mkHid o2
            replace R11 := mkHid (Z6.out.cels ho R11.out)
            replace S11 := mkHid (Z6.out.ints ho S11.out (trail_ne HRT.out))
            replace RP := mkHid (Z6.out.ints ho RP.out (HPL.out.ne HRT.out.r1 HRT.out.few))
            replace X0 := mkHid (X0.out.oth ho N6.out.1)
            replace HB := mkHid hbs
            replace Z6 := mkHid z6
            replace X6 := mkHid z6.c38
            clear ho hbs z6 HOP o0 o1 o2 X3 P11 RX RU RT
            obtain ⟨w10, hV⟩ : ∃ V, (((w9.setCell ⟨G6, 0, none⟩ (.slice a11 xs3.length c11)).setCell ⟨G6, 1, none⟩ (.slice a12 us.length c12)).setCell ⟨G6, 2, none⟩ (.int .i64 r)) = V := ⟨_, rfl⟩
            rw [hV] at R11 S11 RP X0 HB Z6 X6 O0 O1 O2 ⊢
            clear hV
            have RX := mkHid R11.out
            have RU := mkHid S11.out
            clear R11 S11
            obtain rfl := HPE.out (by first | rfl | trivial)
            replace HRT := mkHid HRT3.out
            obtain ⟨hx5, hu5⟩ := HRT.out.short
            skip
            rw [HQQ.out]
            refine ⟨rfl, ?_⟩
            (repeat apply Exists.intro)
            exact ⟨rfl, ⟨Z6.out, RX.out, RU.out, RP.out, HRT.out, HPL.out, hps, HB.out⟩, X0.out, O1.out, O2.out⟩
          · skip
            have hq5 : decide (pl < 0) = false := decide_eq_false (by omega)
            have hq6 : decide ((xs3.length : Int) ≤ pl) = false := decide_eq_false (by omega)
            have f0 := Z6.out.froz 0
            have f1 := Z6.out.froz 1
            have f2 := Z6.out.froz 2
            have k6 := X6.out.lt
            obtain ⟨j60, j61, j62⟩ := X6.out
            have k3 := X3.out.lt
            obtain ⟨j30, j31, j32⟩ := X3.out
            go_wp2_with fail
            clear j60 j61 j62 j30 j31 j32 k6 k3
            clear f0 f1 f2
            have ho := Oth.set3 w9 G6 (.slice a11 xs3.length c11) (.slice a12 us.length c12) (.int .i64 r)
            have hbs : Below w.heap.size w (((w9.setCell ⟨G6, 0, none⟩ (.slice a11 xs3.length c11)).setCell ⟨G6, 1, none⟩ (.slice a12 us.length c12)).setCell ⟨G6, 2, none⟩ (.int .i64 r)) := HB.out.trans ((set3 G6 w9 _ _ _).mono N6.out.2)
            have z6 := Z6.out.put a11 xs3.length c11 a12 us.length c12 r
            have HOP : Hid (∀ v k, k < 3 → w9.cell? ⟨bo, oo + m * 3 + k, none⟩ = some v → (((w9.setCell ⟨G6, 0, none⟩ (.slice a11 xs3.length c11)).setCell ⟨G6, 1, none⟩ (.slice a12 us.length c12)).setCell ⟨G6, 2, none⟩ (.int .i64 r)).cell? ⟨bo, oo + m * 3 + k, none⟩ = some v) := fun v k _ h => ho _ _ _ (by have := N6.out.2; omega) h
            have o0 := HOP.out _ 0 (by omega) O0.out
            have o1 := HOP.out _ 1 (by omega) O1.out
            have o2 := HOP.out _ 2 (by omega) O2.out
            replace O0 := mkHid o0
            replace O1 := mkHid o1
            replace O2 := mkHid o2
            replace R11 := mkHid (Z6.out.cels ho R11.out)
            replace S11 := mkHid (Z6.out.ints ho S11.out (trail_ne HRT.out))
            replace RP := mkHid (Z6.out.ints ho P11.out (HK.out.2.1.ne HRT3.out.r1 HRT3.out.few))
            replace X0 := mkHid (X0.out.oth ho N6.out.1)
            replace HB := mkHid hbs
            replace Z6 := mkHid z6
            replace X6 := mkHid z6.c38
            clear ho hbs z6 HOP o0 o1 o2 X3 P11 RX RU RT
            obtain ⟨w11, hV⟩ : ∃ V, (((w9.setCell ⟨G6, 0, none⟩ (.slice a11 xs3.length c11)).setCell ⟨G6, 1, none⟩ (.slice a12 us.length c12)).setCell ⟨G6, 2, none⟩ (.int .i64 r)) = V := ⟨_, rfl⟩
            rw [hV] at R11 S11 RP X0 HB Z6 X6 O0 O1 O2 ⊢
            clear hV
            have RX := mkHid R11.out
            have RU := mkHid S11.out
            clear R11 S11
            replace HPL := mkHid HK.out.2.1
            replace hps := HK.out.2.2.1
            replace HRT := mkHid HRT3.out
            obtain ⟨hx5, hu5⟩ := HRT.out.short
            skip
            rw [HQQ.out]
            refine ⟨rfl, ?_⟩
            (repeat apply Exists.intro)
            exact ⟨rfl, ⟨Z6.out, RX.out, RU.out, RP.out, HRT.out, HPL.out, hps, HB.out⟩, X0.out, O1.out, O2.out⟩
      intro ev A' W8 hq8
      rw [hQQ] at hq8
      clear hQQ
      obtain ⟨rfl, hq8⟩ := hq8
      obtain ⟨e9, hq8⟩ := hq8
      obtain ⟨e10, hq8⟩ := hq8
      obtain ⟨e11, hq8⟩ := hq8
      obtain ⟨e12, hq8⟩ := hq8
      obtain ⟨e38, hq8⟩ := hq8
      obtain ⟨e39, hq8⟩ := hq8
      obtain ⟨e40, hq8⟩ := hq8
      obtain ⟨e41, hq8⟩ := hq8
      obtain ⟨e42, hq8⟩ := hq8
      obtain ⟨e43, hq8⟩ := hq8
      obtain ⟨e44, hq8⟩ := hq8
      obtain ⟨e45, hq8⟩ := hq8
      obtain ⟨e46, hq8⟩ := hq8
      obtain ⟨e47, hq8⟩ := hq8
      obtain ⟨e48, hq8⟩ := hq8
      obtain ⟨e49, hq8⟩ := hq8
      obtain ⟨e50, hq8⟩ := hq8
      obtain ⟨e51, hq8⟩ := hq8
      obtain ⟨e52, hq8⟩ := hq8
      obtain ⟨e53, hq8⟩ := hq8
      obtain ⟨e54, hq8⟩ := hq8
      obtain ⟨e55, hq8⟩ := hq8
      obtain ⟨e56, hq8⟩ := hq8
      obtain ⟨e57, hq8⟩ := hq8
      obtain ⟨e58, hq8⟩ := hq8
      obtain ⟨e59, hq8⟩ := hq8
      obtain ⟨e60, hq8⟩ := hq8
      obtain ⟨e61, hq8⟩ := hq8
      obtain ⟨e62, hq8⟩ := hq8
      obtain ⟨e63, hq8⟩ := hq8
      obtain ⟨e64, hq8⟩ := hq8
      obtain ⟨e65, hq8⟩ := hq8
      obtain ⟨e66, hq8⟩ := hq8
      obtain ⟨e67, hq8⟩ := hq8
      obtain ⟨e68, hq8⟩ := hq8
      obtain ⟨e69, hq8⟩ := hq8
      obtain ⟨e70, hq8⟩ := hq8
      obtain ⟨e71, hq8⟩ := hq8
      obtain ⟨e72, hq8⟩ := hq8
      obtain ⟨e73, hq8⟩ := hq8
      obtain ⟨e74, hq8⟩ := hq8
      obtain ⟨e75, hq8⟩ := hq8
      obtain ⟨e76, hq8⟩ := hq8
      obtain ⟨e77, hq8⟩ := hq8
      obtain ⟨e78, hq8⟩ := hq8
      obtain ⟨e79, hq8⟩ := hq8
      obtain ⟨e80, hq8⟩ := hq8
      obtain ⟨e81, hq8⟩ := hq8
      obtain ⟨e82, hq8⟩ := hq8
      obtain ⟨xs1, hq8⟩ := hq8
      obtain ⟨us1, hq8⟩ := hq8
      obtain ⟨ps1, hq8⟩ := hq8
      obtain ⟨ag1, hq8⟩ := hq8
      obtain ⟨cg1, hq8⟩ := hq8
      obtain ⟨tg1, hq8⟩ := hq8
      obtain ⟨ct1, hq8⟩ := hq8
      obtain ⟨pa1, hq8⟩ := hq8
      obtain ⟨pc1, hq8⟩ := hq8
      obtain ⟨rfl, HL8, x08, o18, o28⟩ := hq8
      subst hA8
      simp only [Act.put, List.setIfInBounds_toArray, List.set_cons_zero, List.set_cons_succ]
      have HL := mkHid HL8
      have X0n := mkHid x08
      have O1n := mkHid o18
      have O2n := mkHid o28
      clear HL8 x08 o18 o28 Z6 X6 RX RU RP HB HRT HPL hps hx4 hu4 X0 O0 O1 O2 RT hmx hmu hmp hlx hlu hlp hlt3
      have hmx := HL.out.rx.max
      have hmu := HL.out.ru.max
      have hmp := HL.out.rp.max
      have hlx := HL.out.rx.le
      have hlu := HL.out.ru.le
      have hlp := HL.out.rp.le
      have Z6 := mkHid HL.out.z
      have X6 := mkHid HL.out.z.c38
      have RX := mkHid HL.out.rx
      have RU := mkHid HL.out.ru
      have RP := mkHid HL.out.rp
      have HB := mkHid HL.out.below
      have HRT := mkHid HL.out.right
      have HPL := mkHid HL.out.pl
      have hps := HL.out.few
      obtain ⟨hx4, hu4⟩ := HL.out.right.short
      have X0 := X0n
      have O1 := O1n
      have O2 := O2n
      clear HL X0n O1n O2n
      go_wp2_with fail
      generalize hA : Act.mk _ _ = A0
      refine Code.wp_mono (Q := fun ev A' W' => ev = .normal ∧ ∃ (e84 e85 e86 e87 e88 e89 e90 e91 e92 e93 e94 e95 e83 e96 e97 : Value) (B : Nat) (xs9 : List Cel) (us9 : List Int) (t9 : Bool) (a9 : Option Addr) (c9 : Nat) (a10 : Option Addr) (c10 : Nat), A' = (((((((((((((((((A0.put (some 84) e84).put (some 85) e85).put (some 86) e86).put (some 87) e87).put (some 88) e88).put (some 89) e89).put (some 90) e90).put (some 91) e91).put (some 92) e92).put (some 93) e93).put (some 94) e94).put (some 95) e95).put (some 83) e83).put (some 96) e96).put (some 97) e97).put (some 13) (.pointer (some ⟨B, 0, none⟩))).put (some 14) (.bool t9)) ∧ C38 W' B (.slice a9 xs9.length c9) (.slice a10 us9.length c10) (.int .i64 r) ∧ Row W' a9 c9 xs9 ∧ Row W' a10 c10 us9 ∧ UOut xs1 us1 p q xs9 us9 t9 ∧ W8.heap.size ≤ B ∧ Below W8.heap.size W8 W') ?_ ?_
      rotate_left
      · subst hA
        have HS : Hid (∀ X, Below W8.heap.size W8 X → (fun X => C38 X G6 (.slice ag1 xs1.length cg1) (.slice tg1 us1.length ct1) (.int .i64 r) ∧ X.cell? ⟨bo, oo + m * 3 + 1, none⟩ = some (.int .i64 p) ∧ X.cell? ⟨bo, oo + m * 3 + 2, none⟩ = some (.int .i64 q)) X) := fun X h => ⟨X6.out.below h, keep O1.out h, keep O2.out h⟩
        have hd0 : Below W8.heap.size W8 W8.drew := (Below.refl _ _).drew
        refine wp_region_noPanic ?_
        refine wp_region_held_drew (S := fun X => C38 X G6 (.slice ag1 xs1.length cg1) (.slice tg1 us1.length ct1) (.int .i64 r) ∧ X.cell? ⟨bo, oo + m * 3 + 1, none⟩ = some (.int .i64 p) ∧ X.cell? ⟨bo, oo + m * 3 + 2, none⟩ = some (.int .i64 q)) (by kernel_rfl) (HS.out _ hd0) (fun hSd => ?_)
        obtain ⟨v0, hx0⟩ : ∃ X, W8.drew = X := ⟨_, rfl⟩
        rw [hx0] at hd0 hSd ⊢
        clear hx0
        refine wpAnyH_take (i := 0) (oi := _) (v := ?_) rfl (by kernel_rfl) (by kernel_rfl) (by kernel_rfl) (fun _ _ _ h => h) (Or.inl ⟨by rfl, ?_⟩) (by assumption) ?_
        rotate_left
        · (intro w' hSw; obtain ⟨⟨q0, q1, q2⟩, q3, q4⟩ := hSw; go_simp; try with_reducible rfl)
        (try simp only [List.getElem_toArray, List.getElem_cons_succ, List.getElem_cons_zero, Act.put, List.setIfInBounds_toArray, List.set_cons_zero, List.set_cons_succ])
        refine wpAnyH_take (i := 1) (oi := _) (v := ?_) rfl (by kernel_rfl) (by kernel_rfl) (by kernel_rfl) (fun _ _ _ h => h) (Or.inl ⟨by rfl, ?_⟩) (by assumption) ?_
        rotate_left
        · (intro w' hSw; obtain ⟨⟨q0, q1, q2⟩, q3, q4⟩ := hSw; go_simp; try with_reducible rfl)
        (try simp only [List.getElem_toArray, List.getElem_cons_succ, List.getElem_cons_zero, Act.put, List.setIfInBounds_toArray, List.set_cons_zero, List.set_cons_succ])
        refine wpAnyH_take (i := 2) (oi := _) (v := ?_) rfl (by kernel_rfl) (by kernel_rfl) (by kernel_rfl) (fun _ _ _ h => h) (Or.inl ⟨by rfl, ?_⟩) (by assumption) ?_
        rotate_left
        · (intro w' hSw; obtain ⟨⟨q0, q1, q2⟩, q3, q4⟩ := hSw; go_simp; try with_reducible rfl)
        (try simp only [List.getElem_toArray, List.getElem_cons_succ, List.getElem_cons_zero, Act.put, List.setIfInBounds_toArray, List.set_cons_zero, List.set_cons_succ])
        refine wpAnyH_take (i := 3) (oi := _) (v := ?_) rfl (by kernel_rfl) (by kernel_rfl) (by kernel_rfl) (fun _ _ _ h => h) (Or.inl ⟨by rfl, ?_⟩) (by assumption) ?_
        rotate_left
        · (intro w' hSw; obtain ⟨⟨q0, q1, q2⟩, q3, q4⟩ := hSw; go_simp; try with_reducible rfl)
        (try simp only [List.getElem_toArray, List.getElem_cons_succ, List.getElem_cons_zero, Act.put, List.setIfInBounds_toArray, List.set_cons_zero, List.set_cons_succ])
        refine wpAnyH_take (i := 4) (oi := _) (v := ?_) rfl (by kernel_rfl) (by kernel_rfl) (by kernel_rfl) (fun _ _ _ h => h) (Or.inl ⟨by rfl, ?_⟩) (by assumption) ?_
        rotate_left
        · (intro w' hSw; obtain ⟨⟨q0, q1, q2⟩, q3, q4⟩ := hSw; go_simp; try with_reducible rfl)
        (try simp only [List.getElem_toArray, List.getElem_cons_succ, List.getElem_cons_zero, Act.put, List.setIfInBounds_toArray, List.set_cons_zero, List.set_cons_succ])
        refine wpAnyH_take (i := 5) (oi := _) (v := ?_) rfl (by kernel_rfl) (by kernel_rfl) (by kernel_rfl) (fun _ _ _ h => h) (Or.inl ⟨by rfl, ?_⟩) (by assumption) ?_
        rotate_left
        · (intro w' hSw; obtain ⟨⟨q0, q1, q2⟩, q3, q4⟩ := hSw; go_simp; try with_reducible rfl)
        (try simp only [List.getElem_toArray, List.getElem_cons_succ, List.getElem_cons_zero, Act.put, List.setIfInBounds_toArray, List.set_cons_zero, List.set_cons_succ])
        refine wpAnyH_take (i := 6) (oi := _) (v := ?_) rfl (by kernel_rfl) (by kernel_rfl) (by kernel_rfl) (fun _ _ _ h => h) (Or.inl ⟨by rfl, ?_⟩) (by assumption) ?_
        rotate_left
        · (intro w' hSw; obtain ⟨⟨q0, q1, q2⟩, q3, q4⟩ := hSw; go_simp; try with_reducible rfl)
        (try simp only [List.getElem_toArray, List.getElem_cons_succ, List.getElem_cons_zero, Act.put, List.setIfInBounds_toArray, List.set_cons_zero, List.set_cons_succ])
        refine wpAnyH_take (i := 7) (oi := _) (v := ?_) rfl (by kernel_rfl) (by kernel_rfl) (by kernel_rfl) (fun _ _ _ h => h) (Or.inl ⟨by rfl, ?_⟩) (by assumption) ?_
        rotate_left
        · (intro w' hSw; obtain ⟨⟨q0, q1, q2⟩, q3, q4⟩ := hSw; go_simp; try with_reducible rfl)
        (try simp only [List.getElem_toArray, List.getElem_cons_succ, List.getElem_cons_zero, Act.put, List.setIfInBounds_toArray, List.set_cons_zero, List.set_cons_succ])
        refine wpAnyH_take (i := 8) (oi := _) (v := ?_) rfl (by kernel_rfl) (by kernel_rfl) (by kernel_rfl) (fun _ _ _ h => h) (Or.inl ⟨by rfl, ?_⟩) (by assumption) ?_
        rotate_left
        · (intro w' hSw; obtain ⟨⟨q0, q1, q2⟩, q3, q4⟩ := hSw; go_simp; try with_reducible rfl)
        (try simp only [List.getElem_toArray, List.getElem_cons_succ, List.getElem_cons_zero, Act.put, List.setIfInBounds_toArray, List.set_cons_zero, List.set_cons_succ])
        refine wpAnyH_take (i := 9) (oi := _) (v := ?_) rfl (by kernel_rfl) (by kernel_rfl) (by kernel_rfl) (fun _ _ _ h => h) (Or.inl ⟨by rfl, ?_⟩) (by assumption) ?_
        rotate_left
        · (intro w' hSw; obtain ⟨⟨q0, q1, q2⟩, q3, q4⟩ := hSw; go_simp; try with_reducible rfl)
        (try simp only [List.getElem_toArray, List.getElem_cons_succ, List.getElem_cons_zero, Act.put, List.setIfInBounds_toArray, List.set_cons_zero, List.set_cons_succ])
        refine wpAnyH_take (i := 10) (oi := _) (v := ?_) rfl (by kernel_rfl) (by kernel_rfl) (by kernel_rfl) (fun _ _ _ h => h) (Or.inl ⟨by rfl, ?_⟩) (by assumption) ?_
        rotate_left
        · (intro w' hSw; obtain ⟨⟨q0, q1, q2⟩, q3, q4⟩ := hSw; go_simp; try with_reducible rfl)
        (try simp only [List.getElem_toArray, List.getElem_cons_succ, List.getElem_cons_zero, Act.put, List.setIfInBounds_toArray, List.set_cons_zero, List.set_cons_succ])
        refine wpAnyH_ready (rs := [11, 15]) (by kernel_rfl) (by simp) ?_
        refine AllReadyH.cons (o := _) rfl (fun K hK => ?_) ?_
        · skip
          go_simp
          refine (hunify ag1 cg1 tg1 ct1 r p q _ xs1 us1 (RX.out.below hd0) (RU.out.below hd0) (by omega) (by omega) HFT.out (few_of_slots HRT.out.slots)).mono ?_
          rintro e v1 ⟨xs9, us9, t9, a9, c9, a10, c10, rfl, hU, r9, s9, hbv1⟩
          have hd1 := hd0.then hbv1
          try dsimp only
          refine hK.out _ _ (HS.out _ hd1) (fun hS1 => ?_)
          clear hK K
          (try simp only [List.getElem_toArray, List.getElem_cons_succ, List.getElem_cons_zero, Act.put, List.setIfInBounds_toArray, List.set_cons_zero, List.set_cons_succ])
          refine wpAnyH_take (i := 12) (oi := _) (v := ?_) rfl (by kernel_rfl) (by kernel_rfl) (by kernel_rfl) (fun _ _ _ h => h) (Or.inl ⟨by rfl, ?_⟩) (by assumption) ?_
          rotate_left
          · (intro w' hSw; obtain ⟨⟨q0, q1, q2⟩, q3, q4⟩ := hSw; go_simp; try with_reducible rfl)
          (try simp only [List.getElem_toArray, List.getElem_cons_succ, List.getElem_cons_zero, Act.put, List.setIfInBounds_toArray, List.set_cons_zero, List.set_cons_succ])
          refine wpAnyH_take (i := 13) (oi := _) (v := ?_) rfl (by kernel_rfl) (by kernel_rfl) (by kernel_rfl) (fun _ _ _ h => h) (Or.inl ⟨by rfl, ?_⟩) (by assumption) ?_
          rotate_left
          · (intro w' hSw; obtain ⟨⟨q0, q1, q2⟩, q3, q4⟩ := hSw; go_simp; try with_reducible rfl)
          (try simp only [List.getElem_toArray, List.getElem_cons_succ, List.getElem_cons_zero, Act.put, List.setIfInBounds_toArray, List.set_cons_zero, List.set_cons_succ])
          refine wpAnyH_take (i := 14) (oi := _) (v := ?_) rfl (by kernel_rfl) (by kernel_rfl) (by kernel_rfl) (fun _ _ _ h => h) (Or.inl ⟨by rfl, ?_⟩) (by assumption) ?_
          rotate_left
          · (intro w' hSw; obtain ⟨⟨q0, q1, q2⟩, q3, q4⟩ := hSw; go_simp; try with_reducible rfl)
          (try simp only [List.getElem_toArray, List.getElem_cons_succ, List.getElem_cons_zero, Act.put, List.setIfInBounds_toArray, List.set_cons_zero, List.set_cons_succ])
          refine wpAnyH_ready (rs := [15]) (by kernel_rfl) (by simp) ?_
          refine AllReadyH.cons (o := _) rfl (fun K hK => ?_) AllReadyH.nil
          go_simp
          try dsimp only
          have q0 : ZB (v1.alloc (.cells #[.slice none 0 0, .slice none 0 0, .int .i64 0] 25)) v1.heap.size := ZB.new v1
          have hge := hd1.size
          have hbv2 := (Below.refl v1.heap.size v1).new (.cells #[.slice none 0 0, .slice none 0 0, .int .i64 0] 25)
          have hlt : v1.heap.size < (v1.alloc (.cells #[.slice none 0 0, .slice none 0 0, .int .i64 0] 25)).heap.size := by simp
          have hd2 := hd1.then hbv2
          refine hK.out _ _ (HS.out _ hd2) (fun hS2 => ?_)
          clear hK K
          (try simp only [List.getElem_toArray, List.getElem_cons_succ, List.getElem_cons_zero, Act.put, List.setIfInBounds_toArray, List.set_cons_zero, List.set_cons_succ])
          obtain ⟨v2, hV⟩ : ∃ V, v1.alloc (.cells #[.slice none 0 0, .slice none 0 0, .int .i64 0] 25) = V := ⟨_, rfl⟩
          obtain ⟨B, hG⟩ : ∃ V, v1.heap.size = V := ⟨_, rfl⟩
          rw [hV] at q0 hd2 hS2 hbv2 hlt ⊢
          rw [hG] at q0 hge hlt ⊢
          have RZ := mkHid q0
          have HGE := mkHid hge
          have HLT := mkHid hlt
          have r9a := r9.row.below hbv2
          have s9a := s9.row.below hbv2
          have hBX : v1.heap.size ≤ B := by omega
          clear hV hG q0 hge hlt
          refine wpAnyH_ready (rs := [16]) (by kernel_rfl) (by simp) ?_
          refine AllReadyH.cons (o := _) rfl (fun K hK => ?_) AllReadyH.nil
          have z0 := RZ.out.cell 0
          have z1 := RZ.out.cell 1
          have z2 := RZ.out.cell 2
          have y0 := RZ.out.froz 0
          have y1 := RZ.out.froz 1
          have y2 := RZ.out.froz 2
          simp only [List.getElem?_toArray, List.getElem?_cons_zero, List.getElem?_cons_succ] at z0 z1 z2
          go_simp
          try dsimp only
          have hbx : C38 (((v2.setCell ⟨B, 0, none⟩ (.slice a9 xs9.length c9)).setCell ⟨B, 1, none⟩ (.slice a10 us9.length c10)).setCell ⟨B, 2, none⟩ (.int .i64 r)) B (.slice a9 xs9.length c9) (.slice a10 us9.length c10) (.int .i64 r) := RZ.out.set3c _ _ _
          have hd3 : Below W8.heap.size W8 (((v2.setCell ⟨B, 0, none⟩ (.slice a9 xs9.length c9)).setCell ⟨B, 1, none⟩ (.slice a10 us9.length c10)).setCell ⟨B, 2, none⟩ (.int .i64 r)) := hd2.trans ((set3 B v2 _ _ _).mono HGE.out)
          have r9z := (r9.row.below ((hbv2).trans ((set3 B v2 (.slice a9 xs9.length c9) (.slice a10 us9.length c10) (.int .i64 r)).mono hBX)))
          have s9z := (s9.row.below ((hbv2).trans ((set3 B v2 (.slice a9 xs9.length c9) (.slice a10 us9.length c10) (.int .i64 r)).mono hBX)))
          clear z0 z1 z2 y0 y1 y2
          refine hK.out _ _ (HS.out _ hd3) (fun hS3 => ?_)
          clear hK K
          (try simp only [List.getElem_toArray, List.getElem_cons_succ, List.getElem_cons_zero, Act.put, List.setIfInBounds_toArray, List.set_cons_zero, List.set_cons_succ])
          refine wpAnyH_take (i := 17) (oi := _) (v := ?_) rfl (by kernel_rfl) (by kernel_rfl) (by kernel_rfl) (fun _ _ _ h => h) (Or.inl ⟨by rfl, ?_⟩) (by assumption) ?_
          rotate_left
          · (intro w' hSw; obtain ⟨⟨q0, q1, q2⟩, q3, q4⟩ := hSw; go_simp; try with_reducible rfl)
          (try simp only [List.getElem_toArray, List.getElem_cons_succ, List.getElem_cons_zero, Act.put, List.setIfInBounds_toArray, List.set_cons_zero, List.set_cons_succ])
          refine wpAnyH_done (by kernel_rfl) (NoPanic.normal ?_) _
          refine ⟨rfl, ?_⟩
          (repeat apply Exists.intro)
          exact ⟨rfl, hbx, r9z, s9z, hU, HGE.out, hd3⟩
        refine AllReadyH.cons (o := _) rfl (fun K hK => ?_) AllReadyH.nil
        go_simp
        try dsimp only
        have q0 : ZB (v0.alloc (.cells #[.slice none 0 0, .slice none 0 0, .int .i64 0] 25)) v0.heap.size := ZB.new v0
        have hge := hd0.size
        have hbv1 := (Below.refl v0.heap.size v0).new (.cells #[.slice none 0 0, .slice none 0 0, .int .i64 0] 25)
        have hlt : v0.heap.size < (v0.alloc (.cells #[.slice none 0 0, .slice none 0 0, .int .i64 0] 25)).heap.size := by simp
        have hd1 := hd0.then hbv1
        refine hK.out _ _ (HS.out _ hd1) (fun hS1 => ?_)
        clear hK K
        (try simp only [List.getElem_toArray, List.getElem_cons_succ, List.getElem_cons_zero, Act.put, List.setIfInBounds_toArray, List.set_cons_zero, List.set_cons_succ])
        obtain ⟨v1, hV⟩ : ∃ V, v0.alloc (.cells #[.slice none 0 0, .slice none 0 0, .int .i64 0] 25) = V := ⟨_, rfl⟩
        obtain ⟨B, hG⟩ : ∃ V, v0.heap.size = V := ⟨_, rfl⟩
        rw [hV] at q0 hd1 hS1 hbv1 hlt ⊢
        rw [hG] at q0 hge hlt ⊢
        have RZ := mkHid q0
        have HGE := mkHid hge
        have HLT := mkHid hlt
        have hBX : v0.heap.size ≤ B := by omega
        clear hV hG q0 hge hlt
        refine wpAnyH_ready (rs := [11]) (by kernel_rfl) (by simp) ?_
        refine AllReadyH.cons (o := _) rfl (fun K hK => ?_) AllReadyH.nil
        go_simp
        refine (hunify ag1 cg1 tg1 ct1 r p q _ xs1 us1 (RX.out.below hd1) (RU.out.below hd1) (by omega) (by omega) HFT.out (few_of_slots HRT.out.slots)).mono ?_
        rintro e v2 ⟨xs9, us9, t9, a9, c9, a10, c10, rfl, hU, r9, s9, hbv2⟩
        have hd2 := hd1.then hbv2
        try dsimp only
        refine hK.out _ _ (HS.out _ hd2) (fun hS2 => ?_)
        clear hK K
        (try simp only [List.getElem_toArray, List.getElem_cons_succ, List.getElem_cons_zero, Act.put, List.setIfInBounds_toArray, List.set_cons_zero, List.set_cons_succ])
        refine wpAnyH_take (i := 12) (oi := _) (v := ?_) rfl (by kernel_rfl) (by kernel_rfl) (by kernel_rfl) (fun _ _ _ h => h) (Or.inl ⟨by rfl, ?_⟩) (by assumption) ?_
        rotate_left
        · (intro w' hSw; obtain ⟨⟨q0, q1, q2⟩, q3, q4⟩ := hSw; go_simp; try with_reducible rfl)
        (try simp only [List.getElem_toArray, List.getElem_cons_succ, List.getElem_cons_zero, Act.put, List.setIfInBounds_toArray, List.set_cons_zero, List.set_cons_succ])
        refine wpAnyH_take (i := 13) (oi := _) (v := ?_) rfl (by kernel_rfl) (by kernel_rfl) (by kernel_rfl) (fun _ _ _ h => h) (Or.inl ⟨by rfl, ?_⟩) (by assumption) ?_
        rotate_left
        · (intro w' hSw; obtain ⟨⟨q0, q1, q2⟩, q3, q4⟩ := hSw; go_simp; try with_reducible rfl)
        (try simp only [List.getElem_toArray, List.getElem_cons_succ, List.getElem_cons_zero, Act.put, List.setIfInBounds_toArray, List.set_cons_zero, List.set_cons_succ])
        refine wpAnyH_take (i := 14) (oi := _) (v := ?_) rfl (by kernel_rfl) (by kernel_rfl) (by kernel_rfl) (fun _ _ _ h => h) (Or.inl ⟨by rfl, ?_⟩) (by assumption) ?_
        rotate_left
        · (intro w' hSw; obtain ⟨⟨q0, q1, q2⟩, q3, q4⟩ := hSw; go_simp; try with_reducible rfl)
        (try simp only [List.getElem_toArray, List.getElem_cons_succ, List.getElem_cons_zero, Act.put, List.setIfInBounds_toArray, List.set_cons_zero, List.set_cons_succ])
        replace RZ := mkHid (RZ.out.below hbv2)
        refine wpAnyH_ready (rs := [16]) (by kernel_rfl) (by simp) ?_
        refine AllReadyH.cons (o := _) rfl (fun K hK => ?_) AllReadyH.nil
        have z0 := RZ.out.cell 0
        have z1 := RZ.out.cell 1
        have z2 := RZ.out.cell 2
        have y0 := RZ.out.froz 0
        have y1 := RZ.out.froz 1
        have y2 := RZ.out.froz 2
        simp only [List.getElem?_toArray, List.getElem?_cons_zero, List.getElem?_cons_succ] at z0 z1 z2
        go_simp
        try dsimp only
        have hbx : C38 (((v2.setCell ⟨B, 0, none⟩ (.slice a9 xs9.length c9)).setCell ⟨B, 1, none⟩ (.slice a10 us9.length c10)).setCell ⟨B, 2, none⟩ (.int .i64 r)) B (.slice a9 xs9.length c9) (.slice a10 us9.length c10) (.int .i64 r) := RZ.out.set3c _ _ _
        have hd3 : Below W8.heap.size W8 (((v2.setCell ⟨B, 0, none⟩ (.slice a9 xs9.length c9)).setCell ⟨B, 1, none⟩ (.slice a10 us9.length c10)).setCell ⟨B, 2, none⟩ (.int .i64 r)) := hd2.trans ((set3 B v2 _ _ _).mono HGE.out)
        have r9z := (r9.grown (set3_grown B v2 (.slice a9 xs9.length c9) (.slice a10 us9.length c10) (.int .i64 r)) (fun g e => by cases e; exact HLT.out)).row
        have s9z := (s9.grown (set3_grown B v2 (.slice a9 xs9.length c9) (.slice a10 us9.length c10) (.int .i64 r)) (fun g e => by cases e; exact HLT.out)).row
        clear z0 z1 z2 y0 y1 y2
        refine hK.out _ _ (HS.out _ hd3) (fun hS3 => ?_)
        clear hK K
        (try simp only [List.getElem_toArray, List.getElem_cons_succ, List.getElem_cons_zero, Act.put, List.setIfInBounds_toArray, List.set_cons_zero, List.set_cons_succ])
        refine wpAnyH_take (i := 17) (oi := _) (v := ?_) rfl (by kernel_rfl) (by kernel_rfl) (by kernel_rfl) (fun _ _ _ h => h) (Or.inl ⟨by rfl, ?_⟩) (by assumption) ?_
        rotate_left
        · (intro w' hSw; obtain ⟨⟨q0, q1, q2⟩, q3, q4⟩ := hSw; go_simp; try with_reducible rfl)
        (try simp only [List.getElem_toArray, List.getElem_cons_succ, List.getElem_cons_zero, Act.put, List.setIfInBounds_toArray, List.set_cons_zero, List.set_cons_succ])
        refine wpAnyH_done (by kernel_rfl) (NoPanic.normal ?_) _
        refine ⟨rfl, ?_⟩
        (repeat apply Exists.intro)
        exact ⟨rfl, hbx, r9z, s9z, hU, HGE.out, hd3⟩
      rintro ev A' w12 ⟨rfl, e84, e85, e86, e87, e88, e89, e90, e91, e92, e93, e94, e95, e83, e96, e97, B9, xs9, us9, t9, a9, c9, a10, c10, rfl, hbx, r9, s9, hU, hge9, hw12⟩
      subst hA
      simp only [Act.put, List.setIfInBounds_toArray, List.set_cons_zero, List.set_cons_succ]
      replace Z6 := mkHid (Z6.out.below hw12)
      replace X6 := mkHid (X6.out.below hw12)
      replace RX := mkHid (RX.out.below hw12)
      replace RU := mkHid (RU.out.below hw12)
      replace RP := mkHid (RP.out.below hw12)
      replace X0 := mkHid (X0.out.below hw12)
      replace HB := mkHid (HB.out.then hw12)
      replace O1 := mkHid (keep O1.out hw12)
      replace O2 := mkHid (keep O2.out hw12)
      clear hw12
      have X9 := mkHid hbx
      have R9 := mkHid r9
      have S9 := mkHid s9
      have HU := mkHid hU
      clear hbx r9 s9 hU
      obtain ⟨u1, u2, u3, u4⟩ := uout_tell HU.out
      have HU3 := mkHid u3
      have HU4 := mkHid u4
      have HUX := mkHid u1
      clear u3 u4
      have HRT9 := mkHid (uout_right HU.out HRT.out)
      have hm9 := S9.out.max
      have hl9 := S9.out.le
      have hm8 := R9.out.max
      have hl8 := R9.out.le
      go_wp2_with fail
      have hsl : us1.length ≤ c10 := by omega
      have hq0 : decide ((us9.length : Int) < us1.length) = false := decide_eq_false (by omega)
      have hq1 : (((xs9.length : Int) != xs1.length)) = false := by simp [u1]
      clear u1
      have HRW : Hid (Row w12 a10 c10 (us9.take us1.length)) := row_take8 S9.out us1.length
      rw [HU3.out] at HRW
      cases t9 with
      | true =>
        have HS : Hid (∀ X, Below w12.heap.size w12 X → (fun X => C38 X G6 (.slice ag1 xs1.length cg1) (.slice tg1 us1.length ct1) (.int .i64 r) ∧ C38 X B9 (.slice a9 xs9.length c9) (.slice a10 us9.length c10) (.int .i64 r)) X) := fun X h => ⟨X6.out.below h, X9.out.below h⟩
        have hd0 : Below w12.heap.size w12 w12.drew := (Below.refl _ _).drew
        refine wp_region_noPanic ?_
        refine wp_region_held_drew (S := fun X => C38 X G6 (.slice ag1 xs1.length cg1) (.slice tg1 us1.length ct1) (.int .i64 r) ∧ C38 X B9 (.slice a9 xs9.length c9) (.slice a10 us9.length c10) (.int .i64 r)) (by kernel_rfl) (HS.out _ hd0) (fun hSd => ?_)
        obtain ⟨v0, hx0⟩ : ∃ X, w12.drew = X := ⟨_, rfl⟩
        rw [hx0] at hd0 hSd ⊢
        clear hx0
        refine wpAnyH_take (i := 0) (oi := _) (v := ?_) rfl (by kernel_rfl) (by kernel_rfl) (by kernel_rfl) (fun _ _ _ h => h) (Or.inl ⟨by rfl, ?_⟩) (by assumption) ?_
        rotate_left
        · (intro w' hSw; obtain ⟨⟨q0, q1, q2⟩, ⟨q3, q4, q5⟩⟩ := hSw; go_simp; try with_reducible rfl)
        (try simp only [List.getElem_toArray, List.getElem_cons_succ, List.getElem_cons_zero, Act.put, List.setIfInBounds_toArray, List.set_cons_zero, List.set_cons_succ])
        refine wpAnyH_take (i := 1) (oi := _) (v := ?_) rfl (by kernel_rfl) (by kernel_rfl) (by kernel_rfl) (fun _ _ _ h => h) (Or.inl ⟨by rfl, ?_⟩) (by assumption) ?_
        rotate_left
        · (intro w' hSw; obtain ⟨⟨q0, q1, q2⟩, ⟨q3, q4, q5⟩⟩ := hSw; go_simp; try with_reducible rfl)
        (try simp only [List.getElem_toArray, List.getElem_cons_succ, List.getElem_cons_zero, Act.put, List.setIfInBounds_toArray, List.set_cons_zero, List.set_cons_succ])
        refine wpAnyH_take (i := 2) (oi := _) (v := ?_) rfl (by kernel_rfl) (by kernel_rfl) (by kernel_rfl) (fun _ _ _ h => h) (Or.inl ⟨by rfl, ?_⟩) (by assumption) ?_
        rotate_left
        · (intro w' hSw; obtain ⟨⟨q0, q1, q2⟩, ⟨q3, q4, q5⟩⟩ := hSw; go_simp; try with_reducible rfl)
        (try simp only [List.getElem_toArray, List.getElem_cons_succ, List.getElem_cons_zero, Act.put, List.setIfInBounds_toArray, List.set_cons_zero, List.set_cons_succ])
        refine wpAnyH_take (i := 3) (oi := _) (v := ?_) rfl (by kernel_rfl) (by kernel_rfl) (by kernel_rfl) (fun _ _ _ h => h) (Or.inl ⟨by rfl, ?_⟩) (by assumption) ?_
        rotate_left
        · (intro w' hSw; obtain ⟨⟨q0, q1, q2⟩, ⟨q3, q4, q5⟩⟩ := hSw; go_simp; try with_reducible rfl)
        (try simp only [List.getElem_toArray, List.getElem_cons_succ, List.getElem_cons_zero, Act.put, List.setIfInBounds_toArray, List.set_cons_zero, List.set_cons_succ])
        refine wpAnyH_take (i := 4) (oi := _) (v := ?_) rfl (by kernel_rfl) (by kernel_rfl) (by kernel_rfl) (fun _ _ _ h => h) (Or.inl ⟨by rfl, ?_⟩) (by assumption) ?_
        rotate_left
        · (intro w' hSw; obtain ⟨⟨q0, q1, q2⟩, ⟨q3, q4, q5⟩⟩ := hSw; go_simp; try with_reducible rfl)
        (try simp only [List.getElem_toArray, List.getElem_cons_succ, List.getElem_cons_zero, Act.put, List.setIfInBounds_toArray, List.set_cons_zero, List.set_cons_succ])
        refine wpAnyH_take (i := 5) (oi := _) (v := ?_) rfl (by kernel_rfl) (by kernel_rfl) (by kernel_rfl) (fun _ _ _ h => h) (Or.inl ⟨by rfl, ?_⟩) (by assumption) ?_
        rotate_left
        · (intro w' hSw; obtain ⟨⟨q0, q1, q2⟩, ⟨q3, q4, q5⟩⟩ := hSw; go_simp; try with_reducible rfl)
        (try simp only [List.getElem_toArray, List.getElem_cons_succ, List.getElem_cons_zero, Act.put, List.setIfInBounds_toArray, List.set_cons_zero, List.set_cons_succ])
        refine wpAnyH_take (i := 6) (oi := _) (v := .bool false) rfl (by kernel_rfl) (by kernel_rfl) (by kernel_rfl) (fun _ _ _ h => h) (Or.inl ⟨by rfl, ?_⟩) (by assumption) ?_
        · (intro w' hSw; obtain ⟨⟨q0, q1, q2⟩, ⟨q3, q4, q5⟩⟩ := hSw; go_simp; try (first | with_reducible rfl | (rw [hq0])))
        (try simp only [List.getElem_toArray, List.getElem_cons_succ, List.getElem_cons_zero, Act.put, List.setIfInBounds_toArray, List.set_cons_zero, List.set_cons_succ])
        refine wpAnyH_take (i := 7) (oi := _) (v := ?_) rfl (by kernel_rfl) (by kernel_rfl) (by kernel_rfl) (fun _ _ _ h => h) (Or.inl ⟨by rfl, ?_⟩) (by assumption) ?_
        rotate_left
        · (intro w' hSw; obtain ⟨⟨q0, q1, q2⟩, ⟨q3, q4, q5⟩⟩ := hSw; go_simp; try with_reducible rfl)
        (try simp only [List.getElem_toArray, List.getElem_cons_succ, List.getElem_cons_zero, Act.put, List.setIfInBounds_toArray, List.set_cons_zero, List.set_cons_succ])
        refine wpAnyH_take (i := 8) (oi := _) (v := ?_) rfl (by kernel_rfl) (by kernel_rfl) (by kernel_rfl) (fun _ _ _ h => h) (Or.inl ⟨by rfl, ?_⟩) (by assumption) ?_
        rotate_left
        · (intro w' hSw; obtain ⟨⟨q0, q1, q2⟩, ⟨q3, q4, q5⟩⟩ := hSw; go_simp; try with_reducible rfl)
        (try simp only [List.getElem_toArray, List.getElem_cons_succ, List.getElem_cons_zero, Act.put, List.setIfInBounds_toArray, List.set_cons_zero, List.set_cons_succ])
        refine wpAnyH_take (i := 9) (oi := _) (v := ?_) rfl (by kernel_rfl) (by kernel_rfl) (by kernel_rfl) (fun _ _ _ h => h) (Or.inl ⟨by rfl, ?_⟩) (by assumption) ?_
        rotate_left
        · (intro w' hSw; obtain ⟨⟨q0, q1, q2⟩, ⟨q3, q4, q5⟩⟩ := hSw; go_simp; try with_reducible rfl)
        (try simp only [List.getElem_toArray, List.getElem_cons_succ, List.getElem_cons_zero, Act.put, List.setIfInBounds_toArray, List.set_cons_zero, List.set_cons_succ])
        refine wpAnyH_take (i := 10) (oi := _) (v := ?_) rfl (by kernel_rfl) (by kernel_rfl) (by kernel_rfl) (fun _ _ _ h => h) (Or.inl ⟨by rfl, ?_⟩) (by assumption) ?_
        rotate_left
        · (intro w' hSw; obtain ⟨⟨q0, q1, q2⟩, ⟨q3, q4, q5⟩⟩ := hSw; go_simp; try with_reducible rfl)
        (try simp only [List.getElem_toArray, List.getElem_cons_succ, List.getElem_cons_zero, Act.put, List.setIfInBounds_toArray, List.set_cons_zero, List.set_cons_succ])
        refine wpAnyH_take (i := 11) (oi := _) (v := ?_) rfl (by kernel_rfl) (by kernel_rfl) (by kernel_rfl) (fun _ _ _ h => h) (Or.inl ⟨by rfl, ?_⟩) (by assumption) ?_
        rotate_left
        · (intro w' hSw; obtain ⟨⟨q0, q1, q2⟩, ⟨q3, q4, q5⟩⟩ := hSw; go_simp; try with_reducible rfl)
        (try simp only [List.getElem_toArray, List.getElem_cons_succ, List.getElem_cons_zero, Act.put, List.setIfInBounds_toArray, List.set_cons_zero, List.set_cons_succ])
        refine wpAnyH_take (i := 12) (oi := _) (v := ?_) rfl (by kernel_rfl) (by kernel_rfl) (by kernel_rfl) (fun _ _ _ h => h) (Or.inl ⟨by rfl, ?_⟩) (by assumption) ?_
        rotate_left
        · (intro w' hSw; obtain ⟨⟨q0, q1, q2⟩, ⟨q3, q4, q5⟩⟩ := hSw; go_simp; try with_reducible rfl)
        (try simp only [List.getElem_toArray, List.getElem_cons_succ, List.getElem_cons_zero, Act.put, List.setIfInBounds_toArray, List.set_cons_zero, List.set_cons_succ])
        refine wpAnyH_take (i := 13) (oi := _) (v := .slice a10 us1.length c10) rfl (by kernel_rfl) (by kernel_rfl) (by kernel_rfl) (fun _ _ _ h => h) (Or.inl ⟨by rfl, ?_⟩) (by assumption) ?_
        · (intro w' hSw; obtain ⟨⟨q0, q1, q2⟩, ⟨q3, q4, q5⟩⟩ := hSw; go_simp; try (first | with_reducible rfl | (rw [if_pos hsl])))
        (try simp only [List.getElem_toArray, List.getElem_cons_succ, List.getElem_cons_zero, Act.put, List.setIfInBounds_toArray, List.set_cons_zero, List.set_cons_succ])
        refine wpAnyH_take (i := 14) (oi := _) (v := ?_) rfl (by kernel_rfl) (by kernel_rfl) (by kernel_rfl) (fun _ _ _ h => h) (Or.inl ⟨by rfl, ?_⟩) (by assumption) ?_
        rotate_left
        · (intro w' hSw; obtain ⟨⟨q0, q1, q2⟩, ⟨q3, q4, q5⟩⟩ := hSw; go_simp; try with_reducible rfl)
        (try simp only [List.getElem_toArray, List.getElem_cons_succ, List.getElem_cons_zero, Act.put, List.setIfInBounds_toArray, List.set_cons_zero, List.set_cons_succ])
        refine wpAnyH_take (i := 15) (oi := _) (v := ?_) rfl (by kernel_rfl) (by kernel_rfl) (by kernel_rfl) (fun _ _ _ h => h) (Or.inl ⟨by rfl, ?_⟩) (by assumption) ?_
        rotate_left
        · (intro w' hSw; obtain ⟨⟨q0, q1, q2⟩, ⟨q3, q4, q5⟩⟩ := hSw; go_simp; try with_reducible rfl)
        (try simp only [List.getElem_toArray, List.getElem_cons_succ, List.getElem_cons_zero, Act.put, List.setIfInBounds_toArray, List.set_cons_zero, List.set_cons_succ])
        refine wpAnyH_ready (rs := [16]) (by kernel_rfl) (by simp) ?_
        refine AllReadyH.cons (o := _) rfl (fun K hK => ?_) AllReadyH.nil
        go_simp
        refine (intsK (n := us1.length) (HRW.out.below hd0) (RU.out.below hd0) rfl).mono ?_
        rintro e v1 ⟨rfl, hbv1⟩
        have hd1 := hd0.then hbv1
        try dsimp only
        refine hK.out _ _ (HS.out _ hd1) (fun hS1 => ?_)
        clear hK K hbv1
        (try simp only [List.getElem_toArray, List.getElem_cons_succ, List.getElem_cons_zero, Act.put, List.setIfInBounds_toArray, List.set_cons_zero, List.set_cons_succ])
        refine wpAnyH_take (i := 17) (oi := _) (v := ?_) rfl (by kernel_rfl) (by kernel_rfl) (by kernel_rfl) (fun _ _ _ h => h) (Or.inl ⟨by rfl, ?_⟩) (by assumption) ?_
        rotate_left
        · (intro w' hSw; obtain ⟨⟨q0, q1, q2⟩, ⟨q3, q4, q5⟩⟩ := hSw; go_simp; try with_reducible rfl)
        (try simp only [List.getElem_toArray, List.getElem_cons_succ, List.getElem_cons_zero, Act.put, List.setIfInBounds_toArray, List.set_cons_zero, List.set_cons_succ])
        refine wpAnyH_take (i := 18) (oi := _) (v := ?_) rfl (by kernel_rfl) (by kernel_rfl) (by kernel_rfl) (fun _ _ _ h => h) (Or.inl ⟨by rfl, ?_⟩) (by assumption) ?_
        rotate_left
        · (intro w' hSw; obtain ⟨⟨q0, q1, q2⟩, ⟨q3, q4, q5⟩⟩ := hSw; go_simp; try with_reducible rfl)
        (try simp only [List.getElem_toArray, List.getElem_cons_succ, List.getElem_cons_zero, Act.put, List.setIfInBounds_toArray, List.set_cons_zero, List.set_cons_succ])
        refine wpAnyH_take (i := 19) (oi := _) (v := ?_) rfl (by kernel_rfl) (by kernel_rfl) (by kernel_rfl) (fun _ _ _ h => h) (Or.inl ⟨by rfl, ?_⟩) (by assumption) ?_
        rotate_left
        · (intro w' hSw; obtain ⟨⟨q0, q1, q2⟩, ⟨q3, q4, q5⟩⟩ := hSw; go_simp; try with_reducible rfl)
        (try simp only [List.getElem_toArray, List.getElem_cons_succ, List.getElem_cons_zero, Act.put, List.setIfInBounds_toArray, List.set_cons_zero, List.set_cons_succ])
        refine wpAnyH_take (i := 20) (oi := _) (v := ?_) rfl (by kernel_rfl) (by kernel_rfl) (by kernel_rfl) (fun _ _ _ h => h) (Or.inl ⟨by rfl, ?_⟩) (by assumption) ?_
        rotate_left
        · (intro w' hSw; obtain ⟨⟨q0, q1, q2⟩, ⟨q3, q4, q5⟩⟩ := hSw; go_simp; try with_reducible rfl)
        (try simp only [List.getElem_toArray, List.getElem_cons_succ, List.getElem_cons_zero, Act.put, List.setIfInBounds_toArray, List.set_cons_zero, List.set_cons_succ])
        refine wpAnyH_take (i := 21) (oi := _) (v := ?_) rfl (by kernel_rfl) (by kernel_rfl) (by kernel_rfl) (fun _ _ _ h => h) (Or.inl ⟨by rfl, ?_⟩) (by assumption) ?_
        rotate_left
        · (intro w' hSw; obtain ⟨⟨q0, q1, q2⟩, ⟨q3, q4, q5⟩⟩ := hSw; go_simp; try with_reducible rfl)
        (try simp only [List.getElem_toArray, List.getElem_cons_succ, List.getElem_cons_zero, Act.put, List.setIfInBounds_toArray, List.set_cons_zero, List.set_cons_succ])
        refine wpAnyH_take (i := 22) (oi := _) (v := ?_) rfl (by kernel_rfl) (by kernel_rfl) (by kernel_rfl) (fun _ _ _ h => h) (Or.inl ⟨by rfl, ?_⟩) (by assumption) ?_
        rotate_left
        · (intro w' hSw; obtain ⟨⟨q0, q1, q2⟩, ⟨q3, q4, q5⟩⟩ := hSw; go_simp; try with_reducible rfl)
        (try simp only [List.getElem_toArray, List.getElem_cons_succ, List.getElem_cons_zero, Act.put, List.setIfInBounds_toArray, List.set_cons_zero, List.set_cons_succ])
        refine wpAnyH_take (i := 23) (oi := _) (v := undef) rfl (by kernel_rfl) (by kernel_rfl) (by kernel_rfl) (fun _ _ _ h => h) (Or.inr ⟨by kernel_rfl, rfl⟩) (by assumption) ?_
        (try simp only [List.getElem_toArray, List.getElem_cons_succ, List.getElem_cons_zero, Act.put, List.setIfInBounds_toArray, List.set_cons_zero, List.set_cons_succ])
        refine wpAnyH_take (i := 24) (oi := _) (v := undef) rfl (by kernel_rfl) (by kernel_rfl) (by kernel_rfl) (fun _ _ _ h => h) (Or.inr ⟨by kernel_rfl, rfl⟩) (by assumption) ?_
        (try simp only [List.getElem_toArray, List.getElem_cons_succ, List.getElem_cons_zero, Act.put, List.setIfInBounds_toArray, List.set_cons_zero, List.set_cons_succ])
        refine wpAnyH_take (i := 25) (oi := _) (v := undef) rfl (by kernel_rfl) (by kernel_rfl) (by kernel_rfl) (fun _ _ _ h => h) (Or.inr ⟨by kernel_rfl, rfl⟩) (by assumption) ?_
        (try simp only [List.getElem_toArray, List.getElem_cons_succ, List.getElem_cons_zero, Act.put, List.setIfInBounds_toArray, List.set_cons_zero, List.set_cons_succ])
        refine wpAnyH_take (i := 26) (oi := _) (v := undef) rfl (by kernel_rfl) (by kernel_rfl) (by kernel_rfl) (fun _ _ _ h => h) (Or.inr ⟨by kernel_rfl, rfl⟩) (by assumption) ?_
        (try simp only [List.getElem_toArray, List.getElem_cons_succ, List.getElem_cons_zero, Act.put, List.setIfInBounds_toArray, List.set_cons_zero, List.set_cons_succ])
        refine wpAnyH_take (i := 27) (oi := _) (v := undef) rfl (by kernel_rfl) (by kernel_rfl) (by kernel_rfl) (fun _ _ _ h => h) (Or.inr ⟨by kernel_rfl, rfl⟩) (by assumption) ?_
        (try simp only [List.getElem_toArray, List.getElem_cons_succ, List.getElem_cons_zero, Act.put, List.setIfInBounds_toArray, List.set_cons_zero, List.set_cons_succ])
        refine wpAnyH_take (i := 28) (oi := _) (v := undef) rfl (by kernel_rfl) (by kernel_rfl) (by kernel_rfl) (fun _ _ _ h => h) (Or.inr ⟨by kernel_rfl, rfl⟩) (by assumption) ?_
        (try simp only [List.getElem_toArray, List.getElem_cons_succ, List.getElem_cons_zero, Act.put, List.setIfInBounds_toArray, List.set_cons_zero, List.set_cons_succ])
        refine wpAnyH_take (i := 29) (oi := _) (v := undef) rfl (by kernel_rfl) (by kernel_rfl) (by kernel_rfl) (fun _ _ _ h => h) (Or.inr ⟨by kernel_rfl, rfl⟩) (by assumption) ?_
        (try simp only [List.getElem_toArray, List.getElem_cons_succ, List.getElem_cons_zero, Act.put, List.setIfInBounds_toArray, List.set_cons_zero, List.set_cons_succ])
        refine wpAnyH_take (i := 30) (oi := _) (v := ?_) rfl (by kernel_rfl) (by kernel_rfl) (by kernel_rfl) (fun _ _ _ h => h) (Or.inl ⟨by rfl, ?_⟩) (by assumption) ?_
        rotate_left
        · (intro w' hSw; obtain ⟨⟨q0, q1, q2⟩, ⟨q3, q4, q5⟩⟩ := hSw; go_simp; try with_reducible rfl)
        (try simp only [List.getElem_toArray, List.getElem_cons_succ, List.getElem_cons_zero, Act.put, List.setIfInBounds_toArray, List.set_cons_zero, List.set_cons_succ])
        refine wpAnyH_take (i := 31) (oi := _) (v := ?_) rfl (by kernel_rfl) (by kernel_rfl) (by kernel_rfl) (fun _ _ _ h => h) (Or.inl ⟨by rfl, ?_⟩) (by assumption) ?_
        rotate_left
        · (intro w' hSw; obtain ⟨⟨q0, q1, q2⟩, ⟨q3, q4, q5⟩⟩ := hSw; go_simp; try with_reducible rfl)
        (try simp only [List.getElem_toArray, List.getElem_cons_succ, List.getElem_cons_zero, Act.put, List.setIfInBounds_toArray, List.set_cons_zero, List.set_cons_succ])
        refine wpAnyH_take (i := 32) (oi := _) (v := ?_) rfl (by kernel_rfl) (by kernel_rfl) (by kernel_rfl) (fun _ _ _ h => h) (Or.inl ⟨by rfl, ?_⟩) (by assumption) ?_
        rotate_left
        · (intro w' hSw; obtain ⟨⟨q0, q1, q2⟩, ⟨q3, q4, q5⟩⟩ := hSw; go_simp; try with_reducible rfl)
        (try simp only [List.getElem_toArray, List.getElem_cons_succ, List.getElem_cons_zero, Act.put, List.setIfInBounds_toArray, List.set_cons_zero, List.set_cons_succ])
        refine wpAnyH_take (i := 33) (oi := _) (v := ?_) rfl (by kernel_rfl) (by kernel_rfl) (by kernel_rfl) (fun _ _ _ h => h) (Or.inl ⟨by rfl, ?_⟩) (by assumption) ?_
        rotate_left
        · (intro w' hSw; obtain ⟨⟨q0, q1, q2⟩, ⟨q3, q4, q5⟩⟩ := hSw; go_simp; try with_reducible rfl)
        (try simp only [List.getElem_toArray, List.getElem_cons_succ, List.getElem_cons_zero, Act.put, List.setIfInBounds_toArray, List.set_cons_zero, List.set_cons_succ])
        refine wpAnyH_take (i := 34) (oi := _) (v := ?_) rfl (by kernel_rfl) (by kernel_rfl) (by kernel_rfl) (fun _ _ _ h => h) (Or.inl ⟨by rfl, ?_⟩) (by assumption) ?_
        rotate_left
        · (intro w' hSw; obtain ⟨⟨q0, q1, q2⟩, ⟨q3, q4, q5⟩⟩ := hSw; go_simp; try with_reducible rfl)
        (try simp only [List.getElem_toArray, List.getElem_cons_succ, List.getElem_cons_zero, Act.put, List.setIfInBounds_toArray, List.set_cons_zero, List.set_cons_succ])
        refine wpAnyH_take (i := 35) (oi := _) (v := ?_) rfl (by kernel_rfl) (by kernel_rfl) (by kernel_rfl) (fun _ _ _ h => h) (Or.inl ⟨by rfl, ?_⟩) (by assumption) ?_
        rotate_left
        · (intro w' hSw; obtain ⟨⟨q0, q1, q2⟩, ⟨q3, q4, q5⟩⟩ := hSw; go_simp; try with_reducible rfl)
        (try simp only [List.getElem_toArray, List.getElem_cons_succ, List.getElem_cons_zero, Act.put, List.setIfInBounds_toArray, List.set_cons_zero, List.set_cons_succ])
        refine wpAnyH_take (i := 36) (oi := _) (v := ?_) rfl (by kernel_rfl) (by kernel_rfl) (by kernel_rfl) (fun _ _ _ h => h) (Or.inl ⟨by rfl, ?_⟩) (by assumption) ?_
        rotate_left
        · (intro w' hSw; obtain ⟨⟨q0, q1, q2⟩, ⟨q3, q4, q5⟩⟩ := hSw; go_simp; try with_reducible rfl)
        (try simp only [List.getElem_toArray, List.getElem_cons_succ, List.getElem_cons_zero, Act.put, List.setIfInBounds_toArray, List.set_cons_zero, List.set_cons_succ])
        refine wpAnyH_take (i := 37) (oi := _) (v := ?_) rfl (by kernel_rfl) (by kernel_rfl) (by kernel_rfl) (fun _ _ _ h => h) (Or.inl ⟨by rfl, ?_⟩) (by assumption) ?_
        rotate_left
        · (intro w' hSw; obtain ⟨⟨q0, q1, q2⟩, ⟨q3, q4, q5⟩⟩ := hSw; go_simp; try with_reducible rfl)
        (try simp only [List.getElem_toArray, List.getElem_cons_succ, List.getElem_cons_zero, Act.put, List.setIfInBounds_toArray, List.set_cons_zero, List.set_cons_succ])
        refine wpAnyH_take (i := 38) (oi := _) (v := ?_) rfl (by kernel_rfl) (by kernel_rfl) (by kernel_rfl) (fun _ _ _ h => h) (Or.inl ⟨by rfl, ?_⟩) (by assumption) ?_
        rotate_left
        · (intro w' hSw; obtain ⟨⟨q0, q1, q2⟩, ⟨q3, q4, q5⟩⟩ := hSw; go_simp; try with_reducible rfl)
        (try simp only [List.getElem_toArray, List.getElem_cons_succ, List.getElem_cons_zero, Act.put, List.setIfInBounds_toArray, List.set_cons_zero, List.set_cons_succ])
        refine wpAnyH_take (i := 39) (oi := _) (v := .bool false) rfl (by kernel_rfl) (by kernel_rfl) (by kernel_rfl) (fun _ _ _ h => h) (Or.inl ⟨by rfl, ?_⟩) (by assumption) ?_
        · (intro w' hSw; obtain ⟨⟨q0, q1, q2⟩, ⟨q3, q4, q5⟩⟩ := hSw; go_simp; try (first | with_reducible rfl | (rw [hq1])))
        (try simp only [List.getElem_toArray, List.getElem_cons_succ, List.getElem_cons_zero, Act.put, List.setIfInBounds_toArray, List.set_cons_zero, List.set_cons_succ])
        refine wpAnyH_take (i := 40) (oi := _) (v := ?_) rfl (by kernel_rfl) (by kernel_rfl) (by kernel_rfl) (fun _ _ _ h => h) (Or.inl ⟨by rfl, ?_⟩) (by assumption) ?_
        rotate_left
        · (intro w' hSw; obtain ⟨⟨q0, q1, q2⟩, ⟨q3, q4, q5⟩⟩ := hSw; go_simp; try with_reducible rfl)
        (try simp only [List.getElem_toArray, List.getElem_cons_succ, List.getElem_cons_zero, Act.put, List.setIfInBounds_toArray, List.set_cons_zero, List.set_cons_succ])
        refine wpAnyH_done (by kernel_rfl) (NoPanic.normal ?_) _
        have hk1 : Below w12.heap.size w12 v1 := hd1
        replace Z6 := mkHid (Z6.out.below hd1)
        replace X6 := mkHid (X6.out.below hd1)
        replace RX := mkHid (RX.out.below hd1)
        replace RU := mkHid (RU.out.below hd1)
        replace RP := mkHid (RP.out.below hd1)
        replace X0 := mkHid (X0.out.below hd1)
        replace X9 := mkHid (X9.out.below hd1)
        replace R9 := mkHid (R9.out.below hd1)
        replace S9 := mkHid (S9.out.below hd1)
        replace HB := mkHid (HB.out.then hd1)
        have f0 := Z6.out.froz 0
        have f1 := Z6.out.froz 1
        have f2 := Z6.out.froz 2
        have k6 := X6.out.lt
        obtain ⟨j60, j61, j62⟩ := X6.out
        have k9 := X9.out.lt
        obtain ⟨j90, j91, j92⟩ := X9.out
        go_wp2_with fail
        go_round
        case rel =>
          have ho := Oth.set3 v1 G6 (.slice a9 xs9.length c9) (.slice a10 us9.length c10) (.int .i64 r)
          refine ⟨m + 1, xs9, us9, ps1, a9, c9, a10, c10, pa1, pc1, by go_num, rfl, by omega, ⟨Z6.out.put _ _ _ _ _ _ _, Z6.out.cels ho R9.out, Z6.out.ints ho S9.out (trail_ne HRT9.out), Z6.out.ints ho RP.out (HPL.out.ne HRT.out.r1 HRT.out.few), HRT9.out, ?_, hps, ?_⟩, X0.out.oth ho N6.out.1⟩
          · rw [HUX.out]; exact HPL.out
          · exact HB.out.trans ((set3 G6 v1 _ _ _).mono N6.out.2)
        case measure => simp [intOf]; omega
      | false =>
        have hq2 : us9.length ≤ us1.length := by have := HU4.out (by first | rfl | trivial); omega
        have HS : Hid (∀ X, Below w12.heap.size w12 X → (fun X => C38 X G6 (.slice ag1 xs1.length cg1) (.slice tg1 us1.length ct1) (.int .i64 r) ∧ C38 X B9 (.slice a9 xs9.length c9) (.slice a10 us9.length c10) (.int .i64 r)) X) := fun X h => ⟨X6.out.below h, X9.out.below h⟩
        have hd0 : Below w12.heap.size w12 w12.drew := (Below.refl _ _).drew
        refine wp_region_noPanic ?_
        refine wp_region_held_drew (S := fun X => C38 X G6 (.slice ag1 xs1.length cg1) (.slice tg1 us1.length ct1) (.int .i64 r) ∧ C38 X B9 (.slice a9 xs9.length c9) (.slice a10 us9.length c10) (.int .i64 r)) (by kernel_rfl) (HS.out _ hd0) (fun hSd => ?_)
        obtain ⟨v0, hx0⟩ : ∃ X, w12.drew = X := ⟨_, rfl⟩
        rw [hx0] at hd0 hSd ⊢
        clear hx0
        refine wpAnyH_take (i := 0) (oi := _) (v := ?_) rfl (by kernel_rfl) (by kernel_rfl) (by kernel_rfl) (fun _ _ _ h => h) (Or.inl ⟨by rfl, ?_⟩) (by assumption) ?_
        rotate_left
        · (intro w' hSw; obtain ⟨⟨q0, q1, q2⟩, ⟨q3, q4, q5⟩⟩ := hSw; go_simp; try with_reducible rfl)
        (try simp only [List.getElem_toArray, List.getElem_cons_succ, List.getElem_cons_zero, Act.put, List.setIfInBounds_toArray, List.set_cons_zero, List.set_cons_succ])
        refine wpAnyH_take (i := 1) (oi := _) (v := ?_) rfl (by kernel_rfl) (by kernel_rfl) (by kernel_rfl) (fun _ _ _ h => h) (Or.inl ⟨by rfl, ?_⟩) (by assumption) ?_
        rotate_left
        · (intro w' hSw; obtain ⟨⟨q0, q1, q2⟩, ⟨q3, q4, q5⟩⟩ := hSw; go_simp; try with_reducible rfl)
        (try simp only [List.getElem_toArray, List.getElem_cons_succ, List.getElem_cons_zero, Act.put, List.setIfInBounds_toArray, List.set_cons_zero, List.set_cons_succ])
        refine wpAnyH_take (i := 2) (oi := _) (v := ?_) rfl (by kernel_rfl) (by kernel_rfl) (by kernel_rfl) (fun _ _ _ h => h) (Or.inl ⟨by rfl, ?_⟩) (by assumption) ?_
        rotate_left
        · (intro w' hSw; obtain ⟨⟨q0, q1, q2⟩, ⟨q3, q4, q5⟩⟩ := hSw; go_simp; try with_reducible rfl)
        (try simp only [List.getElem_toArray, List.getElem_cons_succ, List.getElem_cons_zero, Act.put, List.setIfInBounds_toArray, List.set_cons_zero, List.set_cons_succ])
        refine wpAnyH_take (i := 3) (oi := _) (v := ?_) rfl (by kernel_rfl) (by kernel_rfl) (by kernel_rfl) (fun _ _ _ h => h) (Or.inl ⟨by rfl, ?_⟩) (by assumption) ?_
        rotate_left
        · (intro w' hSw; obtain ⟨⟨q0, q1, q2⟩, ⟨q3, q4, q5⟩⟩ := hSw; go_simp; try with_reducible rfl)
        (try simp only [List.getElem_toArray, List.getElem_cons_succ, List.getElem_cons_zero, Act.put, List.setIfInBounds_toArray, List.set_cons_zero, List.set_cons_succ])
        refine wpAnyH_take (i := 4) (oi := _) (v := ?_) rfl (by kernel_rfl) (by kernel_rfl) (by kernel_rfl) (fun _ _ _ h => h) (Or.inl ⟨by rfl, ?_⟩) (by assumption) ?_
        rotate_left
        · (intro w' hSw; obtain ⟨⟨q0, q1, q2⟩, ⟨q3, q4, q5⟩⟩ := hSw; go_simp; try with_reducible rfl)
        (try simp only [List.getElem_toArray, List.getElem_cons_succ, List.getElem_cons_zero, Act.put, List.setIfInBounds_toArray, List.set_cons_zero, List.set_cons_succ])
        refine wpAnyH_take (i := 5) (oi := _) (v := ?_) rfl (by kernel_rfl) (by kernel_rfl) (by kernel_rfl) (fun _ _ _ h => h) (Or.inl ⟨by rfl, ?_⟩) (by assumption) ?_
        rotate_left
        · (intro w' hSw; obtain ⟨⟨q0, q1, q2⟩, ⟨q3, q4, q5⟩⟩ := hSw; go_simp; try with_reducible rfl)
        (try simp only [List.getElem_toArray, List.getElem_cons_succ, List.getElem_cons_zero, Act.put, List.setIfInBounds_toArray, List.set_cons_zero, List.set_cons_succ])
        refine wpAnyH_take (i := 6) (oi := _) (v := .bool false) rfl (by kernel_rfl) (by kernel_rfl) (by kernel_rfl) (fun _ _ _ h => h) (Or.inl ⟨by rfl, ?_⟩) (by assumption) ?_
        · (intro w' hSw; obtain ⟨⟨q0, q1, q2⟩, ⟨q3, q4, q5⟩⟩ := hSw; go_simp; try (first | with_reducible rfl | (rw [hq0])))
        (try simp only [List.getElem_toArray, List.getElem_cons_succ, List.getElem_cons_zero, Act.put, List.setIfInBounds_toArray, List.set_cons_zero, List.set_cons_succ])
        refine wpAnyH_take (i := 7) (oi := _) (v := ?_) rfl (by kernel_rfl) (by kernel_rfl) (by kernel_rfl) (fun _ _ _ h => h) (Or.inl ⟨by rfl, ?_⟩) (by assumption) ?_
        rotate_left
        · (intro w' hSw; obtain ⟨⟨q0, q1, q2⟩, ⟨q3, q4, q5⟩⟩ := hSw; go_simp; try with_reducible rfl)
        (try simp only [List.getElem_toArray, List.getElem_cons_succ, List.getElem_cons_zero, Act.put, List.setIfInBounds_toArray, List.set_cons_zero, List.set_cons_succ])
        refine wpAnyH_take (i := 8) (oi := _) (v := ?_) rfl (by kernel_rfl) (by kernel_rfl) (by kernel_rfl) (fun _ _ _ h => h) (Or.inl ⟨by rfl, ?_⟩) (by assumption) ?_
        rotate_left
        · (intro w' hSw; obtain ⟨⟨q0, q1, q2⟩, ⟨q3, q4, q5⟩⟩ := hSw; go_simp; try with_reducible rfl)
        (try simp only [List.getElem_toArray, List.getElem_cons_succ, List.getElem_cons_zero, Act.put, List.setIfInBounds_toArray, List.set_cons_zero, List.set_cons_succ])
        refine wpAnyH_take (i := 9) (oi := _) (v := ?_) rfl (by kernel_rfl) (by kernel_rfl) (by kernel_rfl) (fun _ _ _ h => h) (Or.inl ⟨by rfl, ?_⟩) (by assumption) ?_
        rotate_left
        · (intro w' hSw; obtain ⟨⟨q0, q1, q2⟩, ⟨q3, q4, q5⟩⟩ := hSw; go_simp; try with_reducible rfl)
        (try simp only [List.getElem_toArray, List.getElem_cons_succ, List.getElem_cons_zero, Act.put, List.setIfInBounds_toArray, List.set_cons_zero, List.set_cons_succ])
        refine wpAnyH_take (i := 10) (oi := _) (v := ?_) rfl (by kernel_rfl) (by kernel_rfl) (by kernel_rfl) (fun _ _ _ h => h) (Or.inl ⟨by rfl, ?_⟩) (by assumption) ?_
        rotate_left
        · (intro w' hSw; obtain ⟨⟨q0, q1, q2⟩, ⟨q3, q4, q5⟩⟩ := hSw; go_simp; try with_reducible rfl)
        (try simp only [List.getElem_toArray, List.getElem_cons_succ, List.getElem_cons_zero, Act.put, List.setIfInBounds_toArray, List.set_cons_zero, List.set_cons_succ])
        refine wpAnyH_take (i := 11) (oi := _) (v := ?_) rfl (by kernel_rfl) (by kernel_rfl) (by kernel_rfl) (fun _ _ _ h => h) (Or.inl ⟨by rfl, ?_⟩) (by assumption) ?_
        rotate_left
        · (intro w' hSw; obtain ⟨⟨q0, q1, q2⟩, ⟨q3, q4, q5⟩⟩ := hSw; go_simp; try with_reducible rfl)
        (try simp only [List.getElem_toArray, List.getElem_cons_succ, List.getElem_cons_zero, Act.put, List.setIfInBounds_toArray, List.set_cons_zero, List.set_cons_succ])
        refine wpAnyH_take (i := 12) (oi := _) (v := ?_) rfl (by kernel_rfl) (by kernel_rfl) (by kernel_rfl) (fun _ _ _ h => h) (Or.inl ⟨by rfl, ?_⟩) (by assumption) ?_
        rotate_left
        · (intro w' hSw; obtain ⟨⟨q0, q1, q2⟩, ⟨q3, q4, q5⟩⟩ := hSw; go_simp; try with_reducible rfl)
        (try simp only [List.getElem_toArray, List.getElem_cons_succ, List.getElem_cons_zero, Act.put, List.setIfInBounds_toArray, List.set_cons_zero, List.set_cons_succ])
        refine wpAnyH_take (i := 13) (oi := _) (v := .slice a10 us1.length c10) rfl (by kernel_rfl) (by kernel_rfl) (by kernel_rfl) (fun _ _ _ h => h) (Or.inl ⟨by rfl, ?_⟩) (by assumption) ?_
        · (intro w' hSw; obtain ⟨⟨q0, q1, q2⟩, ⟨q3, q4, q5⟩⟩ := hSw; go_simp; try (first | with_reducible rfl | (rw [if_pos hsl])))
        (try simp only [List.getElem_toArray, List.getElem_cons_succ, List.getElem_cons_zero, Act.put, List.setIfInBounds_toArray, List.set_cons_zero, List.set_cons_succ])
        refine wpAnyH_take (i := 14) (oi := _) (v := ?_) rfl (by kernel_rfl) (by kernel_rfl) (by kernel_rfl) (fun _ _ _ h => h) (Or.inl ⟨by rfl, ?_⟩) (by assumption) ?_
        rotate_left
        · (intro w' hSw; obtain ⟨⟨q0, q1, q2⟩, ⟨q3, q4, q5⟩⟩ := hSw; go_simp; try with_reducible rfl)
        (try simp only [List.getElem_toArray, List.getElem_cons_succ, List.getElem_cons_zero, Act.put, List.setIfInBounds_toArray, List.set_cons_zero, List.set_cons_succ])
        refine wpAnyH_take (i := 15) (oi := _) (v := ?_) rfl (by kernel_rfl) (by kernel_rfl) (by kernel_rfl) (fun _ _ _ h => h) (Or.inl ⟨by rfl, ?_⟩) (by assumption) ?_
        rotate_left
        · (intro w' hSw; obtain ⟨⟨q0, q1, q2⟩, ⟨q3, q4, q5⟩⟩ := hSw; go_simp; try with_reducible rfl)
        (try simp only [List.getElem_toArray, List.getElem_cons_succ, List.getElem_cons_zero, Act.put, List.setIfInBounds_toArray, List.set_cons_zero, List.set_cons_succ])
        refine wpAnyH_ready (rs := [16]) (by kernel_rfl) (by simp) ?_
        refine AllReadyH.cons (o := _) rfl (fun K hK => ?_) AllReadyH.nil
        go_simp
        refine (intsK (n := us1.length) (HRW.out.below hd0) (RU.out.below hd0) rfl).mono ?_
        rintro e v1 ⟨rfl, hbv1⟩
        have hd1 := hd0.then hbv1
        try dsimp only
        refine hK.out _ _ (HS.out _ hd1) (fun hS1 => ?_)
        clear hK K hbv1
        (try simp only [List.getElem_toArray, List.getElem_cons_succ, List.getElem_cons_zero, Act.put, List.setIfInBounds_toArray, List.set_cons_zero, List.set_cons_succ])
        refine wpAnyH_take (i := 17) (oi := _) (v := ?_) rfl (by kernel_rfl) (by kernel_rfl) (by kernel_rfl) (fun _ _ _ h => h) (Or.inl ⟨by rfl, ?_⟩) (by assumption) ?_
        rotate_left
        · (intro w' hSw; obtain ⟨⟨q0, q1, q2⟩, ⟨q3, q4, q5⟩⟩ := hSw; go_simp; try with_reducible rfl)
        (try simp only [List.getElem_toArray, List.getElem_cons_succ, List.getElem_cons_zero, Act.put, List.setIfInBounds_toArray, List.set_cons_zero, List.set_cons_succ])
        refine wpAnyH_take (i := 18) (oi := _) (v := ?_) rfl (by kernel_rfl) (by kernel_rfl) (by kernel_rfl) (fun _ _ _ h => h) (Or.inl ⟨by rfl, ?_⟩) (by assumption) ?_
        rotate_left
        · (intro w' hSw; obtain ⟨⟨q0, q1, q2⟩, ⟨q3, q4, q5⟩⟩ := hSw; go_simp; try with_reducible rfl)
        (try simp only [List.getElem_toArray, List.getElem_cons_succ, List.getElem_cons_zero, Act.put, List.setIfInBounds_toArray, List.set_cons_zero, List.set_cons_succ])
        refine wpAnyH_take (i := 19) (oi := _) (v := ?_) rfl (by kernel_rfl) (by kernel_rfl) (by kernel_rfl) (fun _ _ _ h => h) (Or.inl ⟨by rfl, ?_⟩) (by assumption) ?_
        rotate_left
        · (intro w' hSw; obtain ⟨⟨q0, q1, q2⟩, ⟨q3, q4, q5⟩⟩ := hSw; go_simp; try with_reducible rfl)
        (try simp only [List.getElem_toArray, List.getElem_cons_succ, List.getElem_cons_zero, Act.put, List.setIfInBounds_toArray, List.set_cons_zero, List.set_cons_succ])
        refine wpAnyH_take (i := 20) (oi := _) (v := ?_) rfl (by kernel_rfl) (by kernel_rfl) (by kernel_rfl) (fun _ _ _ h => h) (Or.inl ⟨by rfl, ?_⟩) (by assumption) ?_
        rotate_left
        · (intro w' hSw; obtain ⟨⟨q0, q1, q2⟩, ⟨q3, q4, q5⟩⟩ := hSw; go_simp; try with_reducible rfl)
        (try simp only [List.getElem_toArray, List.getElem_cons_succ, List.getElem_cons_zero, Act.put, List.setIfInBounds_toArray, List.set_cons_zero, List.set_cons_succ])
        refine wpAnyH_take (i := 21) (oi := _) (v := ?_) rfl (by kernel_rfl) (by kernel_rfl) (by kernel_rfl) (fun _ _ _ h => h) (Or.inl ⟨by rfl, ?_⟩) (by assumption) ?_
        rotate_left
        · (intro w' hSw; obtain ⟨⟨q0, q1, q2⟩, ⟨q3, q4, q5⟩⟩ := hSw; go_simp; try with_reducible rfl)
        (try simp only [List.getElem_toArray, List.getElem_cons_succ, List.getElem_cons_zero, Act.put, List.setIfInBounds_toArray, List.set_cons_zero, List.set_cons_succ])
        refine wpAnyH_take (i := 22) (oi := _) (v := ?_) rfl (by kernel_rfl) (by kernel_rfl) (by kernel_rfl) (fun _ _ _ h => h) (Or.inl ⟨by rfl, ?_⟩) (by assumption) ?_
        rotate_left
        · (intro w' hSw; obtain ⟨⟨q0, q1, q2⟩, ⟨q3, q4, q5⟩⟩ := hSw; go_simp; try with_reducible rfl)
        (try simp only [List.getElem_toArray, List.getElem_cons_succ, List.getElem_cons_zero, Act.put, List.setIfInBounds_toArray, List.set_cons_zero, List.set_cons_succ])
        refine wpAnyH_take (i := 23) (oi := _) (v := ?_) rfl (by kernel_rfl) (by kernel_rfl) (by kernel_rfl) (fun _ _ _ h => h) (Or.inl ⟨by rfl, ?_⟩) (by assumption) ?_
        rotate_left
        · (intro w' hSw; obtain ⟨⟨q0, q1, q2⟩, ⟨q3, q4, q5⟩⟩ := hSw; go_simp; try with_reducible rfl)
        (try simp only [List.getElem_toArray, List.getElem_cons_succ, List.getElem_cons_zero, Act.put, List.setIfInBounds_toArray, List.set_cons_zero, List.set_cons_succ])
        refine wpAnyH_take (i := 24) (oi := _) (v := ?_) rfl (by kernel_rfl) (by kernel_rfl) (by kernel_rfl) (fun _ _ _ h => h) (Or.inl ⟨by rfl, ?_⟩) (by assumption) ?_
        rotate_left
        · (intro w' hSw; obtain ⟨⟨q0, q1, q2⟩, ⟨q3, q4, q5⟩⟩ := hSw; go_simp; try with_reducible rfl)
        (try simp only [List.getElem_toArray, List.getElem_cons_succ, List.getElem_cons_zero, Act.put, List.setIfInBounds_toArray, List.set_cons_zero, List.set_cons_succ])
        refine wpAnyH_take (i := 25) (oi := _) (v := ?_) rfl (by kernel_rfl) (by kernel_rfl) (by kernel_rfl) (fun _ _ _ h => h) (Or.inl ⟨by rfl, ?_⟩) (by assumption) ?_
        rotate_left
        · (intro w' hSw; obtain ⟨⟨q0, q1, q2⟩, ⟨q3, q4, q5⟩⟩ := hSw; go_simp; try with_reducible rfl)
        (try simp only [List.getElem_toArray, List.getElem_cons_succ, List.getElem_cons_zero, Act.put, List.setIfInBounds_toArray, List.set_cons_zero, List.set_cons_succ])
        refine wpAnyH_take (i := 26) (oi := _) (v := ?_) rfl (by kernel_rfl) (by kernel_rfl) (by kernel_rfl) (fun _ _ _ h => h) (Or.inl ⟨by rfl, ?_⟩) (by assumption) ?_
        rotate_left
        · (intro w' hSw; obtain ⟨⟨q0, q1, q2⟩, ⟨q3, q4, q5⟩⟩ := hSw; go_simp; try with_reducible rfl)
        (try simp only [List.getElem_toArray, List.getElem_cons_succ, List.getElem_cons_zero, Act.put, List.setIfInBounds_toArray, List.set_cons_zero, List.set_cons_succ])
        refine wpAnyH_take (i := 27) (oi := _) (v := ?_) rfl (by kernel_rfl) (by kernel_rfl) (by kernel_rfl) (fun _ _ _ h => h) (Or.inl ⟨by rfl, ?_⟩) (by assumption) ?_
        rotate_left
        · (intro w' hSw; obtain ⟨⟨q0, q1, q2⟩, ⟨q3, q4, q5⟩⟩ := hSw; go_simp; try with_reducible rfl)
        (try simp only [List.getElem_toArray, List.getElem_cons_succ, List.getElem_cons_zero, Act.put, List.setIfInBounds_toArray, List.set_cons_zero, List.set_cons_succ])
        refine wpAnyH_take (i := 28) (oi := _) (v := ?_) rfl (by kernel_rfl) (by kernel_rfl) (by kernel_rfl) (fun _ _ _ h => h) (Or.inl ⟨by rfl, ?_⟩) (by assumption) ?_
        rotate_left
        · (intro w' hSw; obtain ⟨⟨q0, q1, q2⟩, ⟨q3, q4, q5⟩⟩ := hSw; go_simp; try with_reducible rfl)
        (try simp only [List.getElem_toArray, List.getElem_cons_succ, List.getElem_cons_zero, Act.put, List.setIfInBounds_toArray, List.set_cons_zero, List.set_cons_succ])
        refine wpAnyH_take (i := 29) (oi := _) (v := .bool false) rfl (by kernel_rfl) (by kernel_rfl) (by kernel_rfl) (fun _ _ _ h => h) (Or.inl ⟨by rfl, ?_⟩) (by assumption) ?_
        · (intro w' hSw; obtain ⟨⟨q0, q1, q2⟩, ⟨q3, q4, q5⟩⟩ := hSw; go_simp; try (first | with_reducible rfl | (exact hq2)))
        (try simp only [List.getElem_toArray, List.getElem_cons_succ, List.getElem_cons_zero, Act.put, List.setIfInBounds_toArray, List.set_cons_zero, List.set_cons_succ])
        refine wpAnyH_take (i := 30) (oi := _) (v := ?_) rfl (by kernel_rfl) (by kernel_rfl) (by kernel_rfl) (fun _ _ _ h => h) (Or.inl ⟨by rfl, ?_⟩) (by assumption) ?_
        rotate_left
        · (intro w' hSw; obtain ⟨⟨q0, q1, q2⟩, ⟨q3, q4, q5⟩⟩ := hSw; go_simp; try with_reducible rfl)
        (try simp only [List.getElem_toArray, List.getElem_cons_succ, List.getElem_cons_zero, Act.put, List.setIfInBounds_toArray, List.set_cons_zero, List.set_cons_succ])
        refine wpAnyH_take (i := 31) (oi := _) (v := ?_) rfl (by kernel_rfl) (by kernel_rfl) (by kernel_rfl) (fun _ _ _ h => h) (Or.inl ⟨by rfl, ?_⟩) (by assumption) ?_
        rotate_left
        · (intro w' hSw; obtain ⟨⟨q0, q1, q2⟩, ⟨q3, q4, q5⟩⟩ := hSw; go_simp; try with_reducible rfl)
        (try simp only [List.getElem_toArray, List.getElem_cons_succ, List.getElem_cons_zero, Act.put, List.setIfInBounds_toArray, List.set_cons_zero, List.set_cons_succ])
        refine wpAnyH_take (i := 32) (oi := _) (v := ?_) rfl (by kernel_rfl) (by kernel_rfl) (by kernel_rfl) (fun _ _ _ h => h) (Or.inl ⟨by rfl, ?_⟩) (by assumption) ?_
        rotate_left
        · (intro w' hSw; obtain ⟨⟨q0, q1, q2⟩, ⟨q3, q4, q5⟩⟩ := hSw; go_simp; try with_reducible rfl)
        (try simp only [List.getElem_toArray, List.getElem_cons_succ, List.getElem_cons_zero, Act.put, List.setIfInBounds_toArray, List.set_cons_zero, List.set_cons_succ])
        refine wpAnyH_take (i := 33) (oi := _) (v := ?_) rfl (by kernel_rfl) (by kernel_rfl) (by kernel_rfl) (fun _ _ _ h => h) (Or.inl ⟨by rfl, ?_⟩) (by assumption) ?_
        rotate_left
        · (intro w' hSw; obtain ⟨⟨q0, q1, q2⟩, ⟨q3, q4, q5⟩⟩ := hSw; go_simp; try with_reducible rfl)
        (try simp only [List.getElem_toArray, List.getElem_cons_succ, List.getElem_cons_zero, Act.put, List.setIfInBounds_toArray, List.set_cons_zero, List.set_cons_succ])
        refine wpAnyH_take (i := 34) (oi := _) (v := ?_) rfl (by kernel_rfl) (by kernel_rfl) (by kernel_rfl) (fun _ _ _ h => h) (Or.inl ⟨by rfl, ?_⟩) (by assumption) ?_
        rotate_left
        · (intro w' hSw; obtain ⟨⟨q0, q1, q2⟩, ⟨q3, q4, q5⟩⟩ := hSw; go_simp; try with_reducible rfl)
        (try simp only [List.getElem_toArray, List.getElem_cons_succ, List.getElem_cons_zero, Act.put, List.setIfInBounds_toArray, List.set_cons_zero, List.set_cons_succ])
        refine wpAnyH_take (i := 35) (oi := _) (v := ?_) rfl (by kernel_rfl) (by kernel_rfl) (by kernel_rfl) (fun _ _ _ h => h) (Or.inl ⟨by rfl, ?_⟩) (by assumption) ?_
        rotate_left
        · (intro w' hSw; obtain ⟨⟨q0, q1, q2⟩, ⟨q3, q4, q5⟩⟩ := hSw; go_simp; try with_reducible rfl)
        (try simp only [List.getElem_toArray, List.getElem_cons_succ, List.getElem_cons_zero, Act.put, List.setIfInBounds_toArray, List.set_cons_zero, List.set_cons_succ])
        refine wpAnyH_take (i := 36) (oi := _) (v := ?_) rfl (by kernel_rfl) (by kernel_rfl) (by kernel_rfl) (fun _ _ _ h => h) (Or.inl ⟨by rfl, ?_⟩) (by assumption) ?_
        rotate_left
        · (intro w' hSw; obtain ⟨⟨q0, q1, q2⟩, ⟨q3, q4, q5⟩⟩ := hSw; go_simp; try with_reducible rfl)
        (try simp only [List.getElem_toArray, List.getElem_cons_succ, List.getElem_cons_zero, Act.put, List.setIfInBounds_toArray, List.set_cons_zero, List.set_cons_succ])
        refine wpAnyH_take (i := 37) (oi := _) (v := ?_) rfl (by kernel_rfl) (by kernel_rfl) (by kernel_rfl) (fun _ _ _ h => h) (Or.inl ⟨by rfl, ?_⟩) (by assumption) ?_
        rotate_left
        · (intro w' hSw; obtain ⟨⟨q0, q1, q2⟩, ⟨q3, q4, q5⟩⟩ := hSw; go_simp; try with_reducible rfl)
        (try simp only [List.getElem_toArray, List.getElem_cons_succ, List.getElem_cons_zero, Act.put, List.setIfInBounds_toArray, List.set_cons_zero, List.set_cons_succ])
        refine wpAnyH_take (i := 38) (oi := _) (v := ?_) rfl (by kernel_rfl) (by kernel_rfl) (by kernel_rfl) (fun _ _ _ h => h) (Or.inl ⟨by rfl, ?_⟩) (by assumption) ?_
        rotate_left
        · (intro w' hSw; obtain ⟨⟨q0, q1, q2⟩, ⟨q3, q4, q5⟩⟩ := hSw; go_simp; try with_reducible rfl)
        (try simp only [List.getElem_toArray, List.getElem_cons_succ, List.getElem_cons_zero, Act.put, List.setIfInBounds_toArray, List.set_cons_zero, List.set_cons_succ])
        refine wpAnyH_take (i := 39) (oi := _) (v := .bool false) rfl (by kernel_rfl) (by kernel_rfl) (by kernel_rfl) (fun _ _ _ h => h) (Or.inl ⟨by rfl, ?_⟩) (by assumption) ?_
        · (intro w' hSw; obtain ⟨⟨q0, q1, q2⟩, ⟨q3, q4, q5⟩⟩ := hSw; go_simp; try (first | with_reducible rfl | (rw [hq1])))
        (try simp only [List.getElem_toArray, List.getElem_cons_succ, List.getElem_cons_zero, Act.put, List.setIfInBounds_toArray, List.set_cons_zero, List.set_cons_succ])
        refine wpAnyH_take (i := 40) (oi := _) (v := ?_) rfl (by kernel_rfl) (by kernel_rfl) (by kernel_rfl) (fun _ _ _ h => h) (Or.inl ⟨by rfl, ?_⟩) (by assumption) ?_
        rotate_left
        · (intro w' hSw; obtain ⟨⟨q0, q1, q2⟩, ⟨q3, q4, q5⟩⟩ := hSw; go_simp; try with_reducible rfl)
        (try simp only [List.getElem_toArray, List.getElem_cons_succ, List.getElem_cons_zero, Act.put, List.setIfInBounds_toArray, List.set_cons_zero, List.set_cons_succ])
        refine wpAnyH_done (by kernel_rfl) (NoPanic.normal ?_) _
        have hk1 : Below w12.heap.size w12 v1 := hd1
        replace Z6 := mkHid (Z6.out.below hd1)
        replace X6 := mkHid (X6.out.below hd1)
        replace RX := mkHid (RX.out.below hd1)
        replace RU := mkHid (RU.out.below hd1)
        replace RP := mkHid (RP.out.below hd1)
        replace X0 := mkHid (X0.out.below hd1)
        replace X9 := mkHid (X9.out.below hd1)
        replace R9 := mkHid (R9.out.below hd1)
        replace S9 := mkHid (S9.out.below hd1)
        replace HB := mkHid (HB.out.then hd1)
        have f0 := Z6.out.froz 0
        have f1 := Z6.out.froz 1
        have f2 := Z6.out.froz 2
        have k6 := X6.out.lt
        obtain ⟨j60, j61, j62⟩ := X6.out
        have k9 := X9.out.lt
        obtain ⟨j90, j91, j92⟩ := X9.out
        go_wp2_with fail
        go_round
        case rel =>
          have ho := Oth.set3 v1 G6 (.slice a9 xs9.length c9) (.slice a10 us9.length c10) (.int .i64 r)
          refine ⟨m + 1, xs9, us9, ps1, a9, c9, a10, c10, pa1, pc1, by go_num, rfl, by omega, ⟨Z6.out.put _ _ _ _ _ _ _, Z6.out.cels ho R9.out, Z6.out.ints ho S9.out (trail_ne HRT9.out), Z6.out.ints ho RP.out (HPL.out.ne HRT.out.r1 HRT.out.few), HRT9.out, ?_, hps, ?_⟩, X0.out.oth ho N6.out.1⟩
          · rw [HUX.out]; exact HPL.out
          · exact HB.out.trans ((set3 G6 v1 _ _ _).mono N6.out.2)
        case measure => simp [intOf]; omega
end Go.Proofs.Ytefnmjoapmnkbaa
namespace Go.Proofs.Ytefnmjoapmnkbaa
open Go.RowKit Go.ChangeShapes Go.WideShapes Go.ChangeAt
open Go.ChangeMaps (open_string)

set_option maxRecDepth 100000 in
set_option maxHeartbeats 1000000 in
theorem HeapRight_lifted (os : Os) (started : os.Started) (H : Type) (enc : TypeId × Value → H) :
    ReturnsInHanded {} Try.checked os 9 .any (Rows.heapRightSpec.pre6 enc Try.prog Try.f9 Rows.heapRightRow.domain false) (Rows.heapRightSpec.post enc Try.prog Try.f9 false true false false) := by
  refine returnsInHanded_of_change (C := Try.checked) Try.own started (by kernel_rfl) Try.func9
    (ChangeSpec.witness6 (enc := enc) (C := Try.checked) false ⟨#[], #[.agg #[.slice none 0 0, .slice none 0 0, .int .i64 0], .slice none 0 0], []⟩ 8 (by kernel_rfl) (by kernel_rfl) (by kernel_rfl) (by kernel_rfl)) ?_
  intro W base args ds gs before hval0 hW hcnd _
  have hval : ∀ (j : Nat) t v, Try.f9.params[j]? = some t → args[j]? = some v → Value.okWide Try.prog W .any base t v := hval0
  have hW' := hW
  obtain ⟨p, q, hA0, hV, rfl, hfz, hnd⟩ := hW
  have hA : DataW.TrodAll enc Try.prog W 0 (fun _ => true) true Try.f9.params.toList args.toList ds p := hA0
  rw [Try.params9] at hA hval
  obtain ⟨v0, vs0, d0, ds0, p0, q0, hargs, rfl, rfl, h0, r0⟩ := trodAll_cons hA
  obtain ⟨v1, vs1, d1, ds1, p1, q1, rfl, rfl, rfl, h1, r1⟩ := trodAll_cons r0
  obtain ⟨rfl, rfl, rfl⟩ := trodAll_nil r1
  obtain rfl : args = #[v0, v1] := by cases args; simp_all
  obtain ⟨rfl, rfl⟩ := trodVars_none hV
  have k0 := h0
  have lt0 : ∀ x ∈ p0, x.block < W.heap.size := by obtain ⟨m, hm⟩ := k0; exact DataW.trod_lt m _ _ _ hm
  obtain ⟨l0, ts0, r00, a0, b0, e0, c0, rfl, hr0, ht0⟩ : ∃ (l : List Cel) (ts : List Int) (r : Int) (a : Option Addr) (b : Nat) (e : Option Addr) (c : Nat), v0 = .agg #[.slice a l.length b, .slice e ts.length c, .int .i64 r] ∧ Row W a b l ∧ Row W e c ts := by
    obtain ⟨⟨l⟩, rfl⟩ := agg_heap (hval 0 25 v0 rfl rfl)
    obtain ⟨fuel, hf⟩ := h0
    obtain ⟨xs, us, r, a, b, e, c, hc, g0, g1⟩ := open_heap8 hf
    have hc' : l = [.slice a xs.length b, .slice e us.length c, .int .i64 r] := hc
    exact ⟨xs, us, r, a, b, e, c, by rw [hc'], g0, g1⟩
  have k1 := h1
  have lt1 : ∀ x ∈ p1, x.block < W.heap.size := by obtain ⟨m, hm⟩ := k1; exact DataW.trod_lt m _ _ _ hm
  obtain ⟨a1, len1, cap1, rfl⟩ := okWide_slice Try.underlying63 (hval 1 63 v1 rfl rfl)
  obtain ⟨xs1, rfl, hr1⟩ : ∃ xs : List OpH, xs.length = len1 ∧ Row W a1 cap1 xs := by
    obtain ⟨fuel, hf⟩ := h1
    exact open_ops8 hf
  clear hA0 hval0
  refine (lawRight_any head8_any a0 b0 e0 c0 r00 a1 cap1 W l0 ts0 xs1 hr0 ht0 hr1).mono fun e W' ⟨he, bel⟩ => ?_
  subst he
  exact ⟨_, rfl, _, _, _, [], _, [], hW', trodAll_mk1 (shut_bool Try.underlying4 _), (trodAll_cons_mk (Below.trod Try.laidOut (by kernel_rfl) (of_decide_eq_true (by kernel_rfl)) k0 bel lt0) (trodAll_cons_mk (Below.trod Try.laidOut (by kernel_rfl) (of_decide_eq_true (by kernel_rfl)) k1 bel lt1) trodAll_mk0)), rfl, bel.frame _, fun h => by cases h⟩

theorem HeapRight_over : Rows.heapRightRow.holds Try.pinned (OpenSpec.ofChange Rows.heapRightSpec) :=
  OpenClaim.holds_of_wide 9 Try.f9 rfl rfl rfl rfl rfl rfl rfl ⟨rfl, rfl, rfl, rfl, rfl⟩ rfl rfl rfl rfl rfl (by kernel_rfl) Try.func9 (by kernel_rfl)
    (of_decide_eq_true (by kernel_rfl)) (by unfold Func.isWrapper; first | (rw [if_pos (by decide +kernel)]; kernel_rfl) | (rw [if_neg (by decide +kernel)]; exact ⟨rfl, rfl⟩))
    (fun os started H enc _ => HeapRight_lifted os started H enc)

theorem HeapRight_holds : Rows.HeapRightSaid := HeapRight_over
end Go.Proofs.Ytefnmjoapmnkbaa
