import Derived.Test.YtkbgdpgmnigcbaaL4
import Derived.Test.YtkbgdpgmnigcbaaS6
namespace Go.Proofs.Ytkbgdpgmnigcbaa
open Go.RowKit

set_option maxHeartbeats 4000000 in
set_option maxRecDepth 100000 in
theorem lawNumber_any (w : World) (xs : List Cel) (a : Option Addr) (cap : Nat) (hr : Row w a cap xs) (n : Int) (hn : (Lit.int .u16 n).wf = true) :
    Calls Try.prog 10 #[.slice a xs.length cap, .int .u16 n] w fun e w' => e = .returned (.bool true) ∧ Below w.heap.size w w' := by
  have hlh : 0 ≤ n ∧ n ≤ 65535 := by
    simp [Lit.wf, IntKind.min, IntKind.max, IntKind.signed, IntKind.bits] at hn
    omega
  obtain ⟨hlo, hhi⟩ := hlh
  clear hn
  have hm := hr.max
  have hle := hr.le
  by_cases hg : 300 < xs.length
  · go_enter Try.func10, Try.ntmps10
    go_wp2_with (first
      | (go_at_call 12; refine (head_any _).mono ?_; rintro e w1 ⟨rfl, hb1⟩)
      | (go_at_call 13; refine (great_yes hg).mono ?_; rintro e w2 ⟨rfl, hb2⟩))
    go_ret
    exact ⟨rfl, hb1.then hb2⟩
  cases hR : rightB xs with
  | false =>
    go_enter Try.func10, Try.ntmps10
    go_wp2_with (first
      | (go_at_call 12; refine (head_any _).mono ?_; rintro e w1 ⟨rfl, hb1⟩)
      | (go_at_call 13; refine (great_no hg).mono ?_; rintro e w2 ⟨rfl, hb2⟩)
      | (go_at_call 14; refine (right_lit rfl ((hr.below hb1).below hb2) hR).mono ?_; rintro e w3 ⟨rfl, hb3⟩))
    go_ret
    exact ⟨rfl, (hb1.then hb2).then hb3⟩
  | true =>
    obtain ⟨t, ht, rfl, h200⟩ := right_tm hR
    have h0 := flat_pos t
    have hvl := varsGo_length t.flat []
    rw [show varsGo [] t.flat = varsL t.flat from rfl, List.length_nil, Nat.zero_add] at hvl
    have hnl : (numL t.flat).length = t.flat.length := by simp [numL]
    have HNR : Hid (rightB (numL t.flat) = true) := by
      obtain ⟨e, hok⟩ := num_tree ht h200
      rw [Hid, e]
      refine right_flat hok ?_
      rw [← e, hnl]; exact h200
    have HNV := mkHid (vars_num t.flat)
    have HNN := mkHid (num_num t.flat)
    have HL : Hid (t.flat.length = (numL t.flat).length) := hnl.symm
    clear hnl
    have hd := Int.emod_nonneg n (show (500 : Int) ≠ 0 by omega)
    have hd2 := Int.emod_lt_of_pos n (show (0 : Int) < 500 by omega)
    go_enter Try.func10, Try.ntmps10
    go_wp2_with fail
    refine (head_any _).mono ?_
    rintro e w1 ⟨rfl, hb1⟩
    go_wp2_with fail
    refine (great_no hg).mono ?_
    rintro e w2 ⟨rfl, hb2⟩
    go_wp2_with fail
    refine (right_lit rfl ((hr.below hb1).below hb2) hR).mono ?_
    rintro e w3 ⟨rfl, hb3⟩
    have hb03 := (hb1.then hb2).then hb3
    have rt3 := hr.below hb03
    go_wp2_with fail
    refine (number_lit rfl rt3 (by omega) h0 rfl HL.out).mono ?_
    rintro e w4 ⟨a4, cap4, rfl, r4, hb4⟩
    go_wp2_with fail
    refine (vars_lit HL.out r4 (by rw [← HL.out]; omega) HNV.out (m := (varsL t.flat).length) (by rw [upI_length])).mono ?_
    rintro e w5 ⟨a5, cap5, rfl, r5, hb5⟩
    have hb45 := hb4.then hb5
    have rt5 := rt3.below hb45
    have rn5 := r4.below hb5
    go_wp2_with fail
    refine (right_lit HL.out rn5 HNR.out).mono ?_
    rintro e w6 ⟨rfl, hb6⟩
    go_wp2_with fail
    refine (vars_any a cap _ t.flat (rt5.below hb6) (by omega)).mono ?_
    rintro e w7 ⟨a7, cap7, rfl, _, hb7⟩
    have hb67 := hb6.then hb7
    go_wp2_with fail
    refine (number_lit HL.out (rn5.below hb67) (by rw [← HL.out]; omega) (by rw [← HL.out]; omega) HNN.out HL.out).mono ?_
    rintro e w8 ⟨a8, cap8, rfl, r8, hb8⟩
    have hb68 := hb67.then hb8
    go_wp2_with fail
    refine (same_lit HL.out r8 HL.out (rn5.below hb68) (decide_eq_true rfl)).mono ?_
    rintro e w9 ⟨rfl, hb9⟩
    have hb69 := hb68.then hb9
    have rt9 := rt5.below hb69
    have rn9 := rn5.below hb69
    have rv9 := r5.below hb69
    have hb09 := (hb03.then hb45).then hb69
    clear rt3 r4 r5 rt5 rn5 r8
    go_wp2_with fail
    go_loopw [8] (fun i wr => ∃ k : Nat, k ≤ (varsL t.flat).length ∧ i = .int .i64 k ∧ Below w9.heap.size w9 wr) (fun i wr => (varsL t.flat).length - (intOf i).toNat)
    case atStart => exact ⟨0, Nat.zero_le _, rfl, Below.refl _ _⟩
    case round =>
      obtain ⟨k, hk, rfl, hbl⟩ := hrel
      by_cases hlt : k < (varsL t.flat).length
      · have hlt' : k < (upI (varsL t.flat).length).length := by rw [upI_length]; exact hlt
        obtain ⟨b5, off5, rfl, _, hat5⟩ := rv9.cases.resolve_left (fun e => by rw [e] at hlt'; simp at hlt')
        obtain ⟨d0, _, _⟩ := int_at hat5 hbl hlt'
        rw [upI_at hlt'] at d0
        go_wp2
        go_round
        case rel => exact ⟨k + 1, by omega, by go_num, hbl⟩
        case measure => simp [intOf]; omega
      · have rt10 := rt9.below hbl
        have rn10 := rn9.below hbl
        have hb010 := hb09.then hbl
        clear rt9 rn9 rv9 hbl
        generalize wr = w10 at *
        obtain ⟨b, off, rfl, _, hat⟩ := rt10.cases.resolve_left (fun e => by rw [e] at h0; simp at h0)
        have h0n : 0 < (numL t.flat).length := by rw [← HL.out]; exact h0
        obtain ⟨bn, offn, rfl, _, hatn⟩ := rn10.cases.resolve_left (fun e => by rw [e] at h0n; simp at h0n)
        have hcn := rn10.le
        rw [← HL.out] at hcn
        have hcn' := rn10.max
        go_wp2_with fail
        go_loopw [9] (fun i wr => ∃ k : Nat, k ≤ t.flat.length ∧ i = .int .i64 k ∧ Below w10.heap.size w10 wr) (fun i wr => t.flat.length - (intOf i).toNat)
        case atStart => exact ⟨0, Nat.zero_le _, rfl, Below.refl _ _⟩
        case round =>
          obtain ⟨k, hk, rfl, hbl⟩ := hrel
          by_cases hlt : k < t.flat.length
          · have hltn : k < (numL t.flat).length := by rw [← HL.out]; exact hlt
            have hnk : (numL t.flat)[k] = numC (varsL t.flat) t.flat[k] := by simp [numL]
            obtain ⟨c0, c1, c2, hf⟩ := cel_at hat hbl hlt
            obtain ⟨d0, d1, d2, hf2⟩ := cel_at hatn hbl hltn
            have hi0 : (0 : Int) ≤ (k : Int) := by omega
            have hi1 : (k : Int) < (t.flat.length : Int) := by omega
            have hk1 : (numL t.flat)[k].k = t.flat[k].k := by rw [hnk, num_ren, renC_k]
            by_cases h1 : t.flat[k].k = 1
            · have tk : (t.flat[k].k != 1) = false := by simp [h1]
              rw [hk1] at d0
              have HNK := mkHid hnk
              clear h1 hk1 hnk
              go_wp2
              go_quiet (fail)
              go_wp2
              have hnk := HNK.out
              clear c0 c1 c2 d0 d1 d2 HNK
              go_loopw [10] (fun j wq => ∃ m : Nat, m ≤ k ∧ j = .int .i64 m ∧ Below w10.heap.size w10 wq) (fun j wq => k - (intOf j).toNat)
              case atStart => exact ⟨0, Nat.zero_le _, rfl, ⟨hbl.os, hbl.tape, hbl.output, hbl.size, hbl.block⟩⟩
              case round =>
                obtain ⟨m, hmk, rfl, hbq⟩ := hrel
                by_cases hlm : m < k
                · have hlt2 : m < t.flat.length := by omega
                  have hltn2 : m < (numL t.flat).length := by rw [← HL.out]; exact hlt2
                  have hnm : (numL t.flat)[m] = numC (varsL t.flat) t.flat[m] := by simp [numL]
                  obtain ⟨p0, p1, p2, _⟩ := cel_at hat hbq hlt
                  obtain ⟨q0, q1, q2, _⟩ := cel_at hatn hbq hltn
                  obtain ⟨r0, r1, r2, _⟩ := cel_at hat hbq hlt2
                  obtain ⟨s0, s1, s2, _⟩ := cel_at hatn hbq hltn2
                  have he1 := fun w => run_eql_cel t.flat[k] t.flat[m] w
                  have he2 := fun w => run_eql_cel (numL t.flat)[k] (numL t.flat)[m] w
                  have hal : decide ((numL t.flat)[k] = (numL t.flat)[m]) = decide (t.flat[k] = t.flat[m]) := by
                    rw [hnk, hnm]
                    exact decide_eq_decide.2 (num_alike (List.getElem_mem hlt) (List.getElem_mem hlt2))
                  have hj0 : (0 : Int) ≤ (m : Int) := by omega
                  have hj1 : (m : Int) < (t.flat.length : Int) := by omega
                  have HNK := mkHid hnk
                  cases hbb : decide (t.flat[k] = t.flat[m]) with
                  | false =>
                    rw [hal, hbb] at he2
                    rw [hbb] at he1
                    clear hal hbb hnm hnk
                    go_wp2
                    go_quiet (fail)
                    go_wp2
                    go_round
                    case rel => exact ⟨m + 1, by omega, by go_num, ⟨hbq.os, hbq.tape, hbq.output, hbq.size, hbq.block⟩⟩
                    case measure => simp [intOf]; omega
                  | true =>
                    rw [hal, hbb] at he2
                    rw [hbb] at he1
                    clear hal hbb hnm hnk
                    go_wp2
                    go_quiet (fail)
                    go_wp2
                    go_round
                    case rel => exact ⟨m + 1, by omega, by go_num, ⟨hbq.os, hbq.tape, hbq.output, hbq.size, hbq.block⟩⟩
                    case measure => simp [intOf]; omega
                · clear hnk
                  go_wp2
                  go_round
                  case rel => exact ⟨k + 1, by omega, by go_num, hbq⟩
                  case measure => simp [intOf]; omega
            · have tk : (t.flat[k].k != 1) = true := by simp [h1]
              have hnk2 : (numL t.flat)[k] = t.flat[k] := by rw [hnk, num_ren, renC_no h1]
              rw [hnk2] at d0 d1 d2
              have hne := fun w => run_neq_cel t.flat[k] t.flat[k] w
              rw [decide_eq_true rfl] at hne
              have HNK := mkHid hnk
              clear h1 hk1 hnk hnk2
              go_wp2
              go_quiet (fail)
              go_wp2
              have hnk := HNK.out
              clear c0 c1 c2 d0 d1 d2 HNK
              go_loopw [10] (fun j wq => ∃ m : Nat, m ≤ k ∧ j = .int .i64 m ∧ Below w10.heap.size w10 wq) (fun j wq => k - (intOf j).toNat)
              case atStart => exact ⟨0, Nat.zero_le _, rfl, ⟨hbl.os, hbl.tape, hbl.output, hbl.size, hbl.block⟩⟩
              case round =>
                obtain ⟨m, hmk, rfl, hbq⟩ := hrel
                by_cases hlm : m < k
                · have hlt2 : m < t.flat.length := by omega
                  have hltn2 : m < (numL t.flat).length := by rw [← HL.out]; exact hlt2
                  have hnm : (numL t.flat)[m] = numC (varsL t.flat) t.flat[m] := by simp [numL]
                  obtain ⟨p0, p1, p2, _⟩ := cel_at hat hbq hlt
                  obtain ⟨q0, q1, q2, _⟩ := cel_at hatn hbq hltn
                  obtain ⟨r0, r1, r2, _⟩ := cel_at hat hbq hlt2
                  obtain ⟨s0, s1, s2, _⟩ := cel_at hatn hbq hltn2
                  have he1 := fun w => run_eql_cel t.flat[k] t.flat[m] w
                  have he2 := fun w => run_eql_cel (numL t.flat)[k] (numL t.flat)[m] w
                  have hal : decide ((numL t.flat)[k] = (numL t.flat)[m]) = decide (t.flat[k] = t.flat[m]) := by
                    rw [hnk, hnm]
                    exact decide_eq_decide.2 (num_alike (List.getElem_mem hlt) (List.getElem_mem hlt2))
                  have hj0 : (0 : Int) ≤ (m : Int) := by omega
                  have hj1 : (m : Int) < (t.flat.length : Int) := by omega
                  have HNK := mkHid hnk
                  cases hbb : decide (t.flat[k] = t.flat[m]) with
                  | false =>
                    rw [hal, hbb] at he2
                    rw [hbb] at he1
                    clear hal hbb hnm hnk
                    go_wp2
                    go_quiet (fail)
                    go_wp2
                    go_round
                    case rel => exact ⟨m + 1, by omega, by go_num, ⟨hbq.os, hbq.tape, hbq.output, hbq.size, hbq.block⟩⟩
                    case measure => simp [intOf]; omega
                  | true =>
                    rw [hal, hbb] at he2
                    rw [hbb] at he1
                    clear hal hbb hnm hnk
                    go_wp2
                    go_quiet (fail)
                    go_wp2
                    go_round
                    case rel => exact ⟨m + 1, by omega, by go_num, ⟨hbq.os, hbq.tape, hbq.output, hbq.size, hbq.block⟩⟩
                    case measure => simp [intOf]; omega
                · clear hnk
                  go_wp2
                  go_round
                  case rel => exact ⟨k + 1, by omega, by go_num, hbq⟩
                  case measure => simp [intOf]; omega
          · have hbw := hb010.then hbl
            have rtw := rt10.below hbl
            have rnw := rn10.below hbl
            cases hst : stays (varsL t.flat) (n % 500) with
            | false =>
              have hz : (((shiftL t.flat (n % 500)).length : Int) == 0) = true := by
                rw [shift_leaves ht h200 ⟨by omega, by omega⟩ hst]; rfl
              clear hst
              go_wp2_with fail
              refine (shift_any _ _ (n % 500) _ t.flat rtw (by omega) h0).mono ?_
              rintro e w11 ⟨a11, cap11, rfl, r11, hb11⟩
              go_wp2_with fail
              go_ret
              exact ⟨rfl, hbw.then hb11⟩
            | true =>
              obtain ⟨e1, hok, hl⟩ := shift_stays ht h200 (d := n % 500) ⟨by omega, by omega⟩ hst
              have HS : Hid (numL (shiftL t.flat (n % 500)) = numL t.flat) := by rw [Hid, e1, mapT_flat, num_shift]
              have hz : (((shiftL t.flat (n % 500)).length : Int) == 0) = false := by rw [e1, hl, beq_eq_false_iff_ne]; omega
              have hl9 : 0 < (shiftL t.flat (n % 500)).length := by rw [e1, hl]; exact h0
              have hl8 : (shiftL t.flat (n % 500)).length ≤ 200 := by rw [e1, hl]; exact h200
              clear hst e1 hok hl
              go_wp2_with fail
              refine (shift_any _ _ (n % 500) _ t.flat rtw (by omega) h0).mono ?_
              rintro e w11 ⟨a11, cap11, rfl, r11, hb11⟩
              go_wp2_with fail
              refine (number_lit rfl r11 (by omega) hl9 HS.out HL.out).mono ?_
              rintro e w12 ⟨a12, cap12, rfl, r12, hb12⟩
              go_wp2_with fail
              refine (same_lit HL.out r12 HL.out ((rnw.below hb11).below hb12) (decide_eq_true rfl)).mono ?_
              rintro e w13 ⟨rfl, hb13⟩
              go_wp2_with fail
              go_ret
              exact ⟨rfl, ((hbw.then hb11).then hb12).then hb13⟩
end Go.Proofs.Ytkbgdpgmnigcbaa
