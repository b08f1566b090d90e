import Derived.Test.YtinfefmoiimomaaDoorV17
import Derived.Test.YtinfefmoiimomaaDoorV18
import Derived.Test.YtinfefmoiimomaaDoorVP8
namespace Go.Proofs.YtinfefmoiimomaaDoor
open Go.RowKit

set_option maxHeartbeats 1600000 in
/-- the place of the next token -/
theorem rPass (s : ByteArray) (a : Nat) (w : World) (hs : s.size ≤ 1000000) (ha : a ≤ s.size) :
    Calls Tryd.prog 26 #[.string s, .int .i64 (a : Int)] w fun e w' => e = .returned (.int .i64 ((a + skipL false (s.data.toList.drop a) : Nat) : Int)) ∧ w = w' := by
  generalize hR : a + skipL false (s.data.toList.drop a) = R
  have HR0 : Hid (a + skipL false (s.data.toList.drop a) = R) := hR
  clear hR
  go_enter Tryd.func26, Tryd.ntmps26
  go_wp2
  go_loop [1, 5] (fun i b => ∃ (k : Nat) (rm : Bool), k ≤ s.size ∧ i = .int .i64 k ∧ b = .bool rm ∧ Hid (k + skipL rm (s.data.toList.drop k) = R)) (fun i b => s.size - (intOf i).toNat)
  case atStart => exact ⟨a, false, ha, rfl, rfl, HR0⟩
  case round =>
    clear HR0
    obtain ⟨k, rm, hk, rfl, rfl, HA⟩ := hrel
    by_cases hlt : k < s.size
    · have hA := HA.out
      rw [drop_consB s k hlt] at hA
      simp only [skipL] at hA
      have h10 : ((s[k].toNat : Int) == 10) = (s[k] == 10) := eqU s[k] 10
      have h37 : ((s[k].toNat : Int) == 37) = (s[k] == 37) := eqU s[k] 37
      clear HA
      cases g10 : (s[k] == 10) with
      | true =>
        rw [g10] at h10 hA
        simp only [if_true] at hA
        have HN : Hid (k + 1 + skipL false (s.data.toList.drop (k + 1)) = R) := by rw [Hid, ← hA]; omega
        clear g10 hA h37
        go_wp2
        go_round
        case rel => exact ⟨k + 1, false, by omega, by go_num, rfl, HN⟩
        case measure => simp [intOf]; omega
      | false =>
        rw [g10] at h10 hA
        simp only [Bool.false_eq_true, if_false] at hA
        cases g37 : (s[k] == 37) with
        | true =>
          rw [g37] at h37 hA
          simp only [if_true] at hA
          have HN : Hid (k + 1 + skipL true (s.data.toList.drop (k + 1)) = R) := by rw [Hid, ← hA]; omega
          clear g10 g37 hA
          go_wp2
          go_round
          case rel => exact ⟨k + 1, true, by omega, by go_num, rfl, HN⟩
          case measure => simp [intOf]; omega
        | false =>
          rw [g37] at h37 hA
          simp only [Bool.false_eq_true, if_false] at hA
          cases rm with
          | true =>
            simp only [Bool.true_or, if_true] at hA
            have HN : Hid (k + 1 + skipL true (s.data.toList.drop (k + 1)) = R) := by rw [Hid, ← hA]; omega
            clear g10 g37 hA
            go_wp2
            go_round
            case rel => exact ⟨k + 1, true, by omega, by go_num, rfl, HN⟩
            case measure => simp [intOf]; omega
          | false =>
            cases gb : blankB s[k] with
            | true =>
              rw [gb] at hA
              simp only [Bool.or_true, if_true] at hA
              have HN : Hid (k + 1 + skipL false (s.data.toList.drop (k + 1)) = R) := by rw [Hid, ← hA]; omega
              have GB := mkHid gb
              clear g10 g37 hA gb
              go_wp2_with (go_at_call 23; refine (rBlank_lit GB.out).mono ?_; rintro e w' ⟨rfl, rfl⟩)
              go_round
              case rel => exact ⟨k + 1, false, by omega, by go_num, rfl, HN⟩
              case measure => simp [intOf]; omega
            | false =>
              rw [gb] at hA
              simp only [Bool.or_false, Bool.false_eq_true, if_false] at hA
              have HN : Hid ((k : Int) = (R : Int)) := by rw [Hid, ← hA]; omega
              have GB := mkHid gb
              clear g10 g37 hA gb
              go_wp2_with (go_at_call 23; refine (rBlank_lit GB.out).mono ?_; rintro e w' ⟨rfl, rfl⟩)
              go_ret
              exact ⟨ret_int HN.out, rfl⟩
    · have HN : Hid ((k : Int) = (R : Int)) := by
        have h := HA.out
        rw [List.drop_of_length_le (by simp; omega)] at h
        rw [Hid, ← h]; simp [skipL]
      clear HA
      go_wp2
      go_ret
      exact ⟨ret_int HN.out, rfl⟩

set_option maxHeartbeats 1600000 in
theorem rRow1 (s : ByteArray) (a : Nat) (w : World) (hs : s.size ≤ 1000000) (ha : a ≤ s.size) :
    Calls Tryd.prog 46 #[.string s, .int .i64 (a : Int), .int .i64 1] w fun e w' => e = .returned (.int .i64 ((a + span letterB (s.data.toList.drop a) : Nat) : Int)) ∧ w = w' := by
  generalize hR : a + span letterB (s.data.toList.drop a) = R
  have HR0 : Hid (a + span letterB (s.data.toList.drop a) = R) := hR
  clear hR
  go_enter Tryd.func46, Tryd.ntmps46
  go_wp2
  go_loop [1] (fun i => ∃ k : Nat, k ≤ s.size ∧ i = .int .i64 k ∧ Hid (k + span letterB (s.data.toList.drop k) = R)) (fun i => s.size - (intOf i).toNat)
  case atStart => exact ⟨a, ha, rfl, HR0⟩
  case round =>
    clear HR0
    obtain ⟨k, hk, rfl, HA⟩ := hrel
    by_cases hlt : k < s.size
    · have hA := HA.out
      rw [drop_consB s k hlt] at hA
      clear HA
      cases g : letterB s[k] with
      | true =>
        rw [show span letterB (s[k] :: s.data.toList.drop (k + 1)) = span letterB (s.data.toList.drop (k + 1)) + 1 by simp [span, g]] at hA
        have HN : Hid (k + 1 + span letterB (s.data.toList.drop (k + 1)) = R) := by rw [Hid, ← hA]; omega
        have G := mkHid g
        clear hA g
        go_wp2_with (go_at_call 24; refine (rLetter_lit G.out).mono ?_; rintro e w' ⟨rfl, rfl⟩)
        go_round
        case rel => exact ⟨k + 1, by omega, by go_num, HN⟩
        case measure => simp [intOf]; omega
      | false =>
        rw [show span letterB (s[k] :: s.data.toList.drop (k + 1)) = 0 by simp [span, g]] at hA
        have HN : Hid ((k : Int) = (R : Int)) := by rw [Hid, ← hA]; omega
        have G := mkHid g
        clear hA g
        go_wp2_with (go_at_call 24; refine (rLetter_lit G.out).mono ?_; rintro e w' ⟨rfl, rfl⟩)
        go_ret
        exact ⟨ret_int HN.out, rfl⟩
    · have HN : Hid ((k : Int) = (R : Int)) := by
        have h := HA.out
        rw [List.drop_of_length_le (by simp; omega)] at h
        rw [Hid, ← h]; simp [span]
      clear HA
      go_wp2
      go_ret
      exact ⟨ret_int HN.out, rfl⟩

set_option maxHeartbeats 1600000 in
theorem rRow2 (s : ByteArray) (a : Nat) (w : World) (hs : s.size ≤ 1000000) (ha : a ≤ s.size) :
    Calls Tryd.prog 46 #[.string s, .int .i64 (a : Int), .int .i64 2] w fun e w' => e = .returned (.int .i64 ((a + span digitB (s.data.toList.drop a) : Nat) : Int)) ∧ w = w' := by
  generalize hR : a + span digitB (s.data.toList.drop a) = R
  have HR0 : Hid (a + span digitB (s.data.toList.drop a) = R) := hR
  clear hR
  go_enter Tryd.func46, Tryd.ntmps46
  go_wp2
  go_loop [1] (fun i => ∃ k : Nat, k ≤ s.size ∧ i = .int .i64 k ∧ Hid (k + span digitB (s.data.toList.drop k) = R)) (fun i => s.size - (intOf i).toNat)
  case atStart => exact ⟨a, ha, rfl, HR0⟩
  case round =>
    clear HR0
    obtain ⟨k, hk, rfl, HA⟩ := hrel
    by_cases hlt : k < s.size
    · have hA := HA.out
      rw [drop_consB s k hlt] at hA
      clear HA
      cases g : digitB s[k] with
      | true =>
        rw [show span digitB (s[k] :: s.data.toList.drop (k + 1)) = span digitB (s.data.toList.drop (k + 1)) + 1 by simp [span, g]] at hA
        have HN : Hid (k + 1 + span digitB (s.data.toList.drop (k + 1)) = R) := by rw [Hid, ← hA]; omega
        have G := mkHid g
        clear hA g
        go_wp2_with (go_at_call 20; refine (rDigit_lit G.out).mono ?_; rintro e w' ⟨rfl, rfl⟩)
        go_round
        case rel => exact ⟨k + 1, by omega, by go_num, HN⟩
        case measure => simp [intOf]; omega
      | false =>
        rw [show span digitB (s[k] :: s.data.toList.drop (k + 1)) = 0 by simp [span, g]] at hA
        have HN : Hid ((k : Int) = (R : Int)) := by rw [Hid, ← hA]; omega
        have G := mkHid g
        clear hA g
        go_wp2_with (go_at_call 20; refine (rDigit_lit G.out).mono ?_; rintro e w' ⟨rfl, rfl⟩)
        go_ret
        exact ⟨ret_int HN.out, rfl⟩
    · have HN : Hid ((k : Int) = (R : Int)) := by
        have h := HA.out
        rw [List.drop_of_length_le (by simp; omega)] at h
        rw [Hid, ← h]; simp [span]
      clear HA
      go_wp2
      go_ret
      exact ⟨ret_int HN.out, rfl⟩

set_option maxHeartbeats 1600000 in
theorem rRow3 (s : ByteArray) (a : Nat) (w : World) (hs : s.size ≤ 1000000) (ha : a ≤ s.size) :
    Calls Tryd.prog 46 #[.string s, .int .i64 (a : Int), .int .i64 3] w fun e w' => e = .returned (.int .i64 ((a + span signB (s.data.toList.drop a) : Nat) : Int)) ∧ w = w' := by
  generalize hR : a + span signB (s.data.toList.drop a) = R
  have HR0 : Hid (a + span signB (s.data.toList.drop a) = R) := hR
  clear hR
  go_enter Tryd.func46, Tryd.ntmps46
  go_wp2
  go_loop [1] (fun i => ∃ k : Nat, k ≤ s.size ∧ i = .int .i64 k ∧ Hid (k + span signB (s.data.toList.drop k) = R)) (fun i => s.size - (intOf i).toNat)
  case atStart => exact ⟨a, ha, rfl, HR0⟩
  case round =>
    clear HR0
    obtain ⟨k, hk, rfl, HA⟩ := hrel
    by_cases hlt : k < s.size
    · have hA := HA.out
      rw [drop_consB s k hlt] at hA
      clear HA
      cases g : signB s[k] with
      | true =>
        rw [show span signB (s[k] :: s.data.toList.drop (k + 1)) = span signB (s.data.toList.drop (k + 1)) + 1 by simp [span, g]] at hA
        have HN : Hid (k + 1 + span signB (s.data.toList.drop (k + 1)) = R) := by rw [Hid, ← hA]; omega
        have G := mkHid g
        clear hA g
        go_wp2_with (go_at_call 21; refine (rSign_lit G.out).mono ?_; rintro e w' ⟨rfl, rfl⟩)
        go_round
        case rel => exact ⟨k + 1, by omega, by go_num, HN⟩
        case measure => simp [intOf]; omega
      | false =>
        rw [show span signB (s[k] :: s.data.toList.drop (k + 1)) = 0 by simp [span, g]] at hA
        have HN : Hid ((k : Int) = (R : Int)) := by rw [Hid, ← hA]; omega
        have G := mkHid g
        clear hA g
        go_wp2_with (go_at_call 21; refine (rSign_lit G.out).mono ?_; rintro e w' ⟨rfl, rfl⟩)
        go_ret
        exact ⟨ret_int HN.out, rfl⟩
    · have HN : Hid ((k : Int) = (R : Int)) := by
        have h := HA.out
        rw [List.drop_of_length_le (by simp; omega)] at h
        rw [Hid, ← h]; simp [span]
      clear HA
      go_wp2
      go_ret
      exact ⟨ret_int HN.out, rfl⟩
end Go.Proofs.YtinfefmoiimomaaDoor
