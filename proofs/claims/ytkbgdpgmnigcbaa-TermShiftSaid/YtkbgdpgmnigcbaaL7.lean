import Derived.Test.YtkbgdpgmnigcbaaL4
import Derived.Test.YtkbgdpgmnigcbaaS5
namespace Go.Proofs.Ytkbgdpgmnigcbaa
open Go.RowKit

theorem stays_take {vs : List Int} {d : Int} {k : Nat} (hk : k < vs.length) : stays (vs.take (k + 1)) d = (stays (vs.take k) d && (decide (0 ≤ vs[k] + d) && decide (vs[k] + d ≤ 999))) := by
  unfold stays
  rw [List.take_succ_eq_append_getElem hk, List.all_append]
  simp

set_option maxHeartbeats 4000000 in
set_option maxRecDepth 100000 in
theorem lawShift_any (w : World) (xs : List Cel) (a : Option Addr) (cap : Nat) (hr : Row w a cap xs) (n : Int) (hn : (Lit.int .i16 n).wf = true) :
    Calls Try.prog 9 #[.slice a xs.length cap, .int .i16 n] w fun e w' => e = .returned (.bool true) ∧ Below w.heap.size w w' := by
  have hlh : -32768 ≤ n ∧ n ≤ 32767 := by
    simp [Lit.wf, IntKind.min, IntKind.max, IntKind.signed, IntKind.bits] at hn
    omega
  obtain ⟨hlo, hhi⟩ := hlh
  clear hn
  have hm := hr.max
  have hle := hr.le
  by_cases hg : 300 < xs.length
  · go_enter Try.func9, Try.ntmps9
    go_wp2_with (first
      | (go_at_call 12; refine (head_any _).mono ?_; rintro e w1 ⟨rfl, hb1⟩)
      | (go_at_call 13; refine (great_yes hg).mono ?_; rintro e w2 ⟨rfl, hb2⟩))
    go_ret
    exact ⟨rfl, hb1.then hb2⟩
  cases hR : rightB xs with
  | false =>
    go_enter Try.func9, Try.ntmps9
    go_wp2_with (first
      | (go_at_call 12; refine (head_any _).mono ?_; rintro e w1 ⟨rfl, hb1⟩)
      | (go_at_call 13; refine (great_no hg).mono ?_; rintro e w2 ⟨rfl, hb2⟩)
      | (go_at_call 14; refine (right_lit rfl ((hr.below hb1).below hb2) hR).mono ?_; rintro e w3 ⟨rfl, hb3⟩))
    go_ret
    exact ⟨rfl, (hb1.then hb2).then hb3⟩
  | true =>
    obtain ⟨t, ht, rfl, h200⟩ := right_tm hR
    have h0 := flat_pos t
    have hvl := varsGo_length t.flat []
    rw [show varsGo [] t.flat = varsL t.flat from rfl, List.length_nil, Nat.zero_add] at hvl
    have HVR := mkHid (vars_range hR)
    have hsl : (shiftL t.flat n).length ≤ 200 := by
      unfold shiftL; split
      · simp; omega
      · simp
    go_enter Try.func9, Try.ntmps9
    go_wp2_with (first
      | (go_at_call 12; refine (head_any _).mono ?_; rintro e w1 ⟨rfl, hb1⟩)
      | (go_at_call 13; refine (great_no hg).mono ?_; rintro e w2 ⟨rfl, hb2⟩)
      | (go_at_call 14; refine (right_lit rfl ((hr.below hb1).below hb2) hR).mono ?_; rintro e w3 ⟨rfl, hb3⟩)
      | (go_at_call 28; refine (shift_any a cap n _ t.flat (((hr.below hb1).below hb2).below hb3) (by omega) h0).mono ?_; rintro e w4 ⟨a4, cap4, rfl, r4, hb4⟩; have hb04 := ((hb1.then hb2).then hb3).then hb4)
      | (go_at_call 21; refine (vars_any a cap _ t.flat (hr.below hb04) (by omega)).mono ?_; rintro e w5 ⟨a5, cap5, rfl, r5, hb5⟩; have hb05 := hb04.then hb5; have r4' := r4.below hb5; have rt := hr.below hb05))
    go_loopw [8, 9] (fun b i wr => ∃ (k : Nat) (c : Bool), k ≤ (varsL t.flat).length ∧ i = .int .i64 k ∧ b = .bool c ∧ Below w5.heap.size w5 wr ∧ Hid (stays ((varsL t.flat).take k) n = c)) (fun b i wr => (varsL t.flat).length - (intOf i).toNat)
    case atStart => exact ⟨0, true, Nat.zero_le _, rfl, rfl, Below.refl _ _, rfl⟩
    case round =>
      obtain ⟨k, c, hk, rfl, rfl, hbl, HS⟩ := hrel
      by_cases hlt : k < (varsL t.flat).length
      · obtain ⟨b5, off5, rfl, hb5', hat5⟩ := r5.cases.resolve_left (fun e => by rw [e] at hlt; simp at hlt)
        obtain ⟨d0, _, _⟩ := int_at hat5 hbl hlt
        have hvr := HVR.out _ (List.getElem_mem hlt)
        obtain ⟨v1, v2⟩ := hvr
        have HT := mkHid (stays_take (d := n) hlt)
        cases c with
        | false =>
          have HC : Hid (stays ((varsL t.flat).take (k + 1)) n = false) := by rw [Hid, HT.out, HS.out]; rfl
          go_wp2
          go_round
          case rel => exact ⟨k + 1, false, by omega, by go_num, rfl, hbl, HC⟩
          case measure => simp [intOf]; omega
        | true =>
          by_cases g1 : 0 ≤ (varsL t.flat)[k] + n
          · by_cases g2 : (varsL t.flat)[k] + n ≤ 999
            · have HC : Hid (stays ((varsL t.flat).take (k + 1)) n = true) := by rw [Hid, HT.out, HS.out]; simp [g1, g2]
              go_wp2
              go_round
              case rel => exact ⟨k + 1, true, by omega, by go_num, rfl, hbl, HC⟩
              case measure => simp [intOf]; omega
            · have HC : Hid (stays ((varsL t.flat).take (k + 1)) n = false) := by rw [Hid, HT.out, HS.out]; simp [g1]; omega
              go_wp2
              go_round
              case rel => exact ⟨k + 1, false, by omega, by go_num, rfl, hbl, HC⟩
              case measure => simp [intOf]; omega
          · have HC : Hid (stays ((varsL t.flat).take (k + 1)) n = false) := by
              rw [Hid, HT.out, HS.out]; simp; intro h; exact absurd h g1
            go_wp2
            go_round
            case rel => exact ⟨k + 1, false, by omega, by go_num, rfl, hbl, HC⟩
            case measure => simp [intOf]; omega
      · have hst : stays (varsL t.flat) n = c := by
          have := HS.out
          rwa [List.take_of_length_le (by omega)] at this
        cases c with
        | false =>
          have hz : (((shiftL t.flat n).length : Int) == 0) = true := by
            rw [shift_leaves ht h200 ⟨by omega, by omega⟩ hst]; rfl
          clear hst HS
          go_wp2
          go_ret
          exact ⟨rfl, hb05.then hbl⟩
        | true =>
          obtain ⟨e1, hok, hl⟩ := shift_stays ht h200 (d := n) ⟨by omega, by omega⟩ hst
          have HB := mkHid (shift_back ht h200 (d := n) ⟨by omega, by omega⟩ (by omega) hst)
          have HZ := mkHid (shift_zero ht h200)
          have HD := mkHid (mapT_depth (shiftI n) t)
          have HRs := mkHid (right_flat hok (by omega))
          have HVs : Hid (varsL (mapT (shiftI n) t).flat = (varsL t.flat).map (· + n)) := by rw [Hid, mapT_flat, vars_shift]
          have HOK := mkHid hok
          rw [e1] at r4'
          have HE := mkHid e1
          have HL := mkHid hl
          have hlen : (shiftL t.flat n).length = t.flat.length := by rw [e1, hl]
          rw [hlen]
          have hl2 : (mapT (shiftI n) t).flat.length ≤ 200 := by omega
          have hl3 : 0 < (mapT (shiftI n) t).flat.length := by omega
          clear hst HS e1 hok hl hlen
          have rs0 := r4'.below hbl
          have rt0 := rt.below hbl
          have rv0 := r5.below hbl
          have hb0 := hb05.then hbl
          clear r4' rt r5
          go_wp2_with fail
          refine (vars_lit HL.out.symm rs0 (by omega) HVs.out (m := (varsL t.flat).length) (by simp)).mono ?_
          rintro e w6 ⟨a6, cap6, rfl, r6, hb6⟩
          have rs6 := rs0.below hb6
          have rt6 := rt0.below hb6
          have rv6 := rv0.below hb6
          have hb06 := hb0.then hb6
          go_wp2_with fail
          refine (right_lit HL.out.symm rs6 HRs.out).mono ?_
          rintro e w7 ⟨rfl, hb7⟩
          go_wp2_with fail
          refine (depth_lit (t := mapT (shiftI n) t) rfl HOK.out HL.out.symm hl2 (rs6.below hb7) HD.out).mono ?_
          rintro e w8 ⟨rfl, hb8⟩
          have hb78 := hb7.then hb8
          go_wp2_with fail
          refine (depth_any t ht h200 _ _ _ (rt6.below hb78)).mono ?_
          rintro e w9 ⟨rfl, hb9⟩
          have hb69 := hb78.then hb9
          have rs9 := rs6.below hb69
          have rt9 := rt6.below hb69
          have rv9 := rv6.below hb69
          have rw9 := r6.below hb69
          have hb09 := hb06.then hb69
          clear rs0 rt0 rv0 rs6 rt6 rv6 r6
          go_wp2_with fail
          go_loopw [12] (fun i wr => ∃ k : Nat, k ≤ (varsL t.flat).length ∧ i = .int .i64 k ∧ Below w9.heap.size w9 wr) (fun i wr => (varsL t.flat).length - (intOf i).toNat)
          case atStart => exact ⟨0, Nat.zero_le _, rfl, Below.refl _ _⟩
          case round =>
            obtain ⟨k, hk, rfl, hbl⟩ := hrel
            by_cases hlt : k < (varsL t.flat).length
            · have hlt' : k < ((varsL t.flat).map (· + n)).length := by simpa using hlt
              obtain ⟨b6, off6, rfl, _, hat6⟩ := rw9.cases.resolve_left (fun e => by rw [e] at hlt'; simp at hlt')
              obtain ⟨d0, _, _⟩ := int_at hat6 hbl hlt'
              rw [List.getElem_map] at d0
              obtain ⟨b5, off5, rfl, _, hat5⟩ := rv9.cases.resolve_left (fun e => by rw [e] at hlt; simp at hlt)
              obtain ⟨d1, _, _⟩ := int_at hat5 hbl hlt
              have hvr := HVR.out _ (List.getElem_mem hlt)
              obtain ⟨v1, v2⟩ := hvr
              have hw1 : IntKind.i64.wrap ((varsL t.flat)[k] + n) = (varsL t.flat)[k] + n := IntWalk.i64_in _ (by omega)
              have hcp6 := rw9.le
              have hcp6' := rw9.max
              have hcp5 := rv9.le
              have hcp5' := rv9.max
              simp only [List.length_map] at hcp6
              have hi0 : (0 : Int) ≤ (k : Int) := by omega
              have hi1 : (k : Int) < ((varsL t.flat).length : Int) := by omega
              go_wp2
              go_quiet (fail)
              go_wp2
              go_round
              case rel => exact ⟨k + 1, by omega, by go_num, ⟨hbl.os, hbl.tape, hbl.output, hbl.size, hbl.block⟩⟩
              case measure => simp [intOf]; omega
            · go_wp2_with fail
              refine (shift_lit (-n) HL.out.symm (rs9.below hbl) (by omega) (by omega) HB.out (m := t.flat.length) rfl).mono ?_
              rintro e w10 ⟨a10, cap10, rfl, r10, hb10⟩
              have rt10 := (rt9.below hbl).below hb10
              go_wp2_with fail
              refine (same_lit rfl r10 rfl rt10 (decide_eq_true rfl)).mono ?_
              rintro e w11 ⟨rfl, hb11⟩
              have rt11 := rt10.below hb11
              go_wp2_with fail
              refine (shift_lit 0 rfl rt11 (by omega) h0 HZ.out (m := t.flat.length) rfl).mono ?_
              rintro e w12 ⟨a12, cap12, rfl, r12, hb12⟩
              go_wp2_with fail
              refine (same_lit rfl r12 rfl (rt11.below hb12) (decide_eq_true rfl)).mono ?_
              rintro e w13 ⟨rfl, hb13⟩
              go_wp2_with fail
              go_ret
              exact ⟨rfl, ((((hb09.then hbl).then hb10).then hb11).then hb12).then hb13⟩
end Go.Proofs.Ytkbgdpgmnigcbaa
