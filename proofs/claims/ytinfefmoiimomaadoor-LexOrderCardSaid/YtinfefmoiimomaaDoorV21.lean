import Derived.Test.YtinfefmoiimomaaDoorV17
import Derived.Test.YtinfefmoiimomaaDoorVP5
namespace Go.Proofs.YtinfefmoiimomaaDoor
open Go.RowKit

theorem neU (c d : UInt8) : ((c.toNat : Int) != (d.toNat : Int)) = !(c == d) := by rw [bne, eqU]
set_option maxHeartbeats 1600000 in
theorem passed_yes (s : ByteArray) (w : World) (hs : s.size ≤ 1000000) (h : (pst false s.data.toList).isSome = true) :
    Calls Tryd.prog 15 #[.string s] w fun e w' => e = .returned (.bool true) ∧ w = w' := by
  have H0 := mkHid (show (pst false (s.data.toList.drop 0)).isSome = true from h)
  clear h
  go_enter Tryd.func15, Tryd.ntmps15
  go_wp2
  go_loop [3, 4] (fun b i => ∃ (k : Nat) (rm : Bool), k ≤ s.size ∧ i = .int .i64 k ∧ b = .bool rm ∧ Hid ((pst rm (s.data.toList.drop k)).isSome = true)) (fun b i => s.size - (intOf i).toNat)
  case atStart => exact ⟨0, false, Nat.zero_le _, rfl, rfl, H0⟩
  case round =>
    clear H0
    obtain ⟨k, rm, hk, rfl, rfl, HA⟩ := hrel
    by_cases hlt : k < s.size
    · have hA := HA.out
      rw [drop_consB s k hlt] at hA
      simp only [pst] at hA
      have h10 : ((s[k].toNat : Int) == 10) = (s[k] == 10) := eqU s[k] 10
      have h37 : ((s[k].toNat : Int) == 37) = (s[k] == 37) := eqU s[k] 37
      clear HA
      cases g10 : (s[k] == 10) with
      | true =>
        rw [g10] at h10 hA
        have HN := mkHid hA
        clear g10 hA h37
        go_wp2
        go_round
        case rel => exact ⟨k + 1, false, by omega, by go_num, rfl, HN⟩
        case measure => simp [intOf]; omega
      | false =>
        rw [g10] at h10 hA
        cases g37 : (s[k] == 37) with
        | true =>
          rw [g37] at h37 hA
          have HN := mkHid hA
          clear g10 g37 hA
          go_wp2
          go_round
          case rel => exact ⟨k + 1, true, by omega, by go_num, rfl, HN⟩
          case measure => simp [intOf]; omega
        | false =>
          rw [g37] at h37 hA
          cases rm with
          | true =>
            have HN := mkHid hA
            clear g10 g37 hA
            go_wp2
            go_round
            case rel => exact ⟨k + 1, true, by omega, by go_num, rfl, HN⟩
            case measure => simp [intOf]; omega
          | false =>
            have m32 : ((s[k].toNat : Int) != 32) = !(s[k] == 32) := neU s[k] 32
            have m9 : ((s[k].toNat : Int) != 9) = !(s[k] == 9) := neU s[k] 9
            have m13 : ((s[k].toNat : Int) != 13) = !(s[k] == 13) := neU s[k] 13
            have e32 : ((s[k].toNat : Int) == 32) = (s[k] == 32) := eqU s[k] 32
            have e9 : ((s[k].toNat : Int) == 9) = (s[k] == 9) := eqU s[k] 9
            have e13 : ((s[k].toNat : Int) == 13) = (s[k] == 13) := eqU s[k] 13
            cases g32 : (s[k] == 32) <;> cases g9 : (s[k] == 9) <;> cases g13 : (s[k] == 13) <;> rw [g32] at m32 e32 hA <;> rw [g9] at m9 e9 hA <;> rw [g13] at m13 e13 hA
            · simp at hA
            all_goals
              have HN : Hid ((pst false (s.data.toList.drop (k + 1))).isSome = true) := hA
              clear g10 g37 g32 g9 g13 hA
              go_wp2
              go_round
              case rel => exact ⟨k + 1, false, by omega, by go_num, rfl, HN⟩
              case measure => simp [intOf]; omega
    · go_wp2
      go_ret
      exact ⟨rfl, rfl⟩
end Go.Proofs.YtinfefmoiimomaaDoor
