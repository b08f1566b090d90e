import Derived.Test.YtinfefmoiimomaaDoorV23
namespace Go.Proofs.YtinfefmoiimomaaDoor
open Go.RowKit

section
variable {r y : List UInt8} {c : UInt8} {j : Nat}
theorem q_hit (h1 : (r.take j).all notQ = true) (h2 : (r.take j).all seenB = true) (hd : r.drop j = 39 :: y) (hj : 1 ≤ j) (hj2 : j ≤ 12) : quoS r = .tok 1 (r.take j) 0 (j + 2) := by
  have hs : span notQ r = j := span_stop h1 hd (by decide)
  have ht : r.takeWhile notQ = r.take j := by rw [← take_span, hs]
  have hl : j < r.length := by
    rcases Nat.lt_or_ge j r.length with h | h
    · exact h
    · rw [List.drop_of_length_le h] at hd; cases hd
  have hq : quoB r = true := by
    unfold quoB
    rw [hs, ht, h2, decide_eq_true hl, decide_eq_true hj, decide_eq_true hj2]; rfl
  unfold quoS
  rw [if_pos hq, ht, hs]
theorem quo_no (h : quoB r = false) : quoS r = .err 41 := by unfold quoS; rw [h]; rfl
theorem q_zero (hd : r = 39 :: y) : quoS r = .err 41 := by
  subst hd
  refine quo_no ?_
  have : span notQ (39 :: y) = 0 := by simp [span, show notQ 39 = false by decide]
  unfold quoB
  rw [this]; simp
theorem q_unseen (h1 : (r.take j).all notQ = true) (hd : r.drop j = c :: y) (hc : notQ c = true) (hs : seenB c = false) : quoS r = .err 41 := by
  refine quo_no ?_
  have e : r = r.take j ++ c :: y := by rw [← hd, List.take_append_drop]
  have ha : (r.takeWhile notQ).all seenB = false := by
    rw [e, List.takeWhile_append_of_pos (by simpa using h1), List.all_append, List.takeWhile_cons_of_pos hc, List.all_cons, hs]
    simp
  unfold quoB
  rw [ha]; simp
theorem q_end (h1 : r.all notQ = true) : quoS r = .err 41 := by
  refine quo_no ?_
  have : span notQ r = r.length := span_all h1
  unfold quoB
  rw [this]; simp
theorem q_long (h1 : (r.take 13).all notQ = true) (hl : 13 ≤ r.length) : quoS r = .err 41 := by
  refine quo_no ?_
  have h2 : 13 ≤ span notQ r := by
    have e : r = r.take 13 ++ r.drop 13 := (List.take_append_drop 13 r).symm
    unfold span
    rw [e, List.takeWhile_append_of_pos (by simpa using h1), List.length_append, List.length_take]
    omega
  unfold quoB
  rw [decide_eq_false (show ¬ span notQ r ≤ 12 by omega)]; simp
end
set_option maxHeartbeats 3200000 in
set_option maxRecDepth 20000 in
theorem rQuoted (s : ByteArray) (a : Nat) (w : World) (hs : s.size ≤ 1000000) (ha : a < s.size) :
    Calls Tryd.prog 48 #[.string s, .int .i64 (a : Int)] w fun e w' => e = .returned (refV a (quoS (s.data.toList.drop (a + 1)))) ∧ Below w.heap.size w w' := by
  obtain ⟨Q, hQ⟩ : ∃ Q, Q = quoS (s.data.toList.drop (a + 1)) := ⟨_, rfl⟩
  rw [← hQ]
  have HQ := mkHid hQ
  have hb0 := (Below.refl w.heap.size w).new (.cells #[.int .i64 0, .string ⟨#[]⟩, .int .i64 0, .int .i64 0] 30)
  clear hQ
  go_enter Tryd.func48, Tryd.ntmps48
  go_wp2
  go_loop [7] (fun i => ∃ k : Nat, a + 1 ≤ k ∧ k ≤ s.size ∧ k ≤ a + 14 ∧ i = .int .i64 (k : Int) ∧ Hid (((s.data.toList.drop (a + 1)).take (k - (a + 1))).all notQ = true ∧ ((s.data.toList.drop (a + 1)).take (k - (a + 1))).all seenB = true)) (fun i => s.size - (intOf i).toNat)
  case atStart => exact ⟨a + 1, Nat.le_refl _, by omega, by omega, by simp, by rw [Hid, Nat.sub_self]; exact ⟨rfl, rfl⟩⟩
  case round =>
    obtain ⟨k, hak, hk, hk14, rfl, HA⟩ := hrel
    by_cases hlt : k < s.size
    · by_cases h13 : k ≤ a + 13
      · obtain ⟨hA1, hA2⟩ := HA.out
        obtain ⟨j, hj⟩ : ∃ j, j = k - (a + 1) := ⟨_, rfl⟩
        rw [← hj] at hA1 hA2
        have hd : (s.data.toList.drop (a + 1)).drop j = s[k] :: s.data.toList.drop (k + 1) := by
          rw [List.drop_drop, show a + 1 + j = k by omega]; exact drop_consB s k hlt
        have e39 : ((s[k].toNat : Int) == 39) = (s[k] == 39) := eqU s[k] 39
        have b2 : (k : Int) ≤ (a : Int) + 12 + 1 := by omega
        clear HA
        cases g39 : (s[k] == 39) with
        | true =>
          have h39 : s[k] = 39 := by simpa using g39
          rw [g39] at e39
          rw [h39] at hd
          by_cases hj0 : 1 ≤ j
          · have hh := q_hit hA1 hA2 hd hj0 (by omega)
            have hcut : s.extract (a + 1) k = mkB ((s.data.toList.drop (a + 1)).take j) := cut_eq (by rw [hj])
            have HR : Hid (Q = .tok 1 ((s.data.toList.drop (a + 1)).take j) 0 (j + 2)) := by rw [Hid, HQ.out]; exact hh
            have HC := mkHid hcut
            have HK : Hid (((a + (j + 2) : Nat) : Int) = (k : Int) + 1) := by rw [Hid]; omega
            have t1 : decide ((a : Int) + 1 < (k : Int)) = true := by simp; omega
            have c1 : (a : Int) + 1 ≤ (k : Int) := by omega
            have c2 : (k : Int) ≤ (s.size : Int) := by omega
            have hbN := (Below.refl w.heap.size w).new (.cells #[.int .i64 1, .string (s.extract (a + 1) k), .int .i64 0, .int .i64 (a : Int)] 30)
            clear hA1 hA2 hd g39 h39 hh hcut hj
            go_wp2
            rw [HR.out]
            refine bodyPost_ret (v := refV a (.tok 1 ((s.data.toList.drop (a + 1)).take j) 0 (j + 2))) (by simp only [refV, HK.out]; simp [results, Tryd.results48, go_sem, HC.out]) rfl ⟨rfl, ?_⟩
            exact hbN
          · obtain rfl : j = 0 := by omega
            rw [List.drop_zero] at hd
            have HR : Hid (Q = .err 41) := by rw [Hid, HQ.out]; exact q_zero hd
            have t1 : decide ((a : Int) + 1 < (k : Int)) = false := by simp; omega
            clear hA1 hA2 hd g39 h39 hj
            go_wp2
            rw [HR.out]
            refine bodyPost_ret (v := refV a (.err 41)) (by simp [refV, results, Tryd.results48, go_sem]) rfl ⟨rfl, ?_⟩
            exact hb0
        | false =>
          rw [g39] at e39
          have hnq : notQ s[k] = true := by rw [notQ, g39]; rfl
          have l1 : decide ((s[k].toNat : Int) < 32) = !(decide (32 ≤ s[k])) := by
            rw [Bool.eq_iff_iff]; simp [UInt8.le_iff_toNat_le]; omega
          have l2 : decide ((126 : Int) < (s[k].toNat : Int)) = !(decide (s[k] ≤ 126)) := by
            rw [Bool.eq_iff_iff]; simp [UInt8.le_iff_toNat_le]; omega
          cases gs : seenB s[k] with
          | false =>
            have HR : Hid (Q = .err 41) := by rw [Hid, HQ.out]; exact q_unseen hA1 hd hnq gs
            clear hA1 hA2 hd g39 hj hnq
            simp only [seenB, Bool.and_eq_false_iff] at gs
            cases g1 : decide (32 ≤ s[k]) <;> cases g2 : decide (s[k] ≤ 126) <;> rw [g1] at l1 gs <;> rw [g2] at l2 gs <;> clear g1 g2
            case true.true => simp at gs
            all_goals
              clear gs
              go_wp2
              rw [HR.out]
              refine bodyPost_ret (v := refV a (.err 41)) (by simp [refV, results, Tryd.results48, go_sem]) rfl ⟨rfl, ?_⟩
              exact hb0
          | true =>
            have HN : Hid (((s.data.toList.drop (a + 1)).take (k + 1 - (a + 1))).all notQ = true ∧ ((s.data.toList.drop (a + 1)).take (k + 1 - (a + 1))).all seenB = true) := by
              have hjl : j < (s.data.toList.drop (a + 1)).length := by rw [List.length_drop, size_list]; omega
              have hg : (s.data.toList.drop (a + 1))[j] = s[k] := by
                rw [List.drop_eq_getElem_cons hjl] at hd
                exact (List.cons.inj hd).1
              rw [Hid, show k + 1 - (a + 1) = j + 1 by omega, List.take_succ_eq_append_getElem hjl, hg, List.all_append, List.all_append, hA1, hA2]
              simp [hnq, gs]
            simp only [seenB, Bool.and_eq_true] at gs
            rw [gs.1] at l1
            rw [gs.2] at l2
            clear hA1 hA2 hd g39 hj hnq gs
            go_wp2
            go_round
            case rel => exact ⟨k + 1, by omega, by omega, by omega, by go_num, HN⟩
            case measure => simp [intOf]; omega
      · obtain rfl : k = a + 14 := by omega
        have HR : Hid (Q = .err 41) := by
          rw [Hid, HQ.out]
          have h1 := HA.out.1
          rw [show a + 14 - (a + 1) = 13 by omega] at h1
          exact q_long h1 (by rw [List.length_drop, size_list]; omega)
        have b2 : ¬ (((a + 14 : Nat) : Int) ≤ (a : Int) + 12 + 1) := by omega
        clear HA
        go_wp2
        rw [HR.out]
        refine bodyPost_ret (v := refV a (.err 41)) (by simp [refV, results, Tryd.results48, go_sem]) rfl ⟨rfl, ?_⟩
        exact hb0
    · have HR : Hid (Q = .err 41) := by
        rw [Hid, HQ.out]
        have h1 := HA.out.1
        rw [List.take_of_length_le (by rw [List.length_drop, size_list]; omega)] at h1
        exact q_end h1
      clear HA
      go_wp2
      rw [HR.out]
      refine bodyPost_ret (v := refV a (.err 41)) (by simp [refV, results, Tryd.results48, go_sem]) rfl ⟨rfl, ?_⟩
      exact hb0
end Go.Proofs.YtinfefmoiimomaaDoor
