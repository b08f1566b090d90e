import Derived.Test.YtinfefmoiimomaaDoorV16
import Derived.Test.YtinfefmoiimomaaDoorVP2
namespace Go.Proofs.YtinfefmoiimomaaDoor
open Go.RowKit

theorem rBlank (c : UInt8) (w : World) : Calls Tryd.prog 23 #[.int .u8 (c.toNat : Int)] w fun e w' => e = .returned (.bool (blankB c)) ∧ w = w' := by
  have h1 : ((c.toNat : Int) == 32) = (c == 32) := eqU c 32
  have h2 : ((c.toNat : Int) == 9) = (c == 9) := eqU c 9
  have h3 : ((c.toNat : Int) == 10) = (c == 10) := eqU c 10
  have h4 : ((c.toNat : Int) == 13) = (c == 13) := eqU c 13
  have HB : Hid (blankB c = (c == 32 || c == 9 || c == 10 || c == 13)) := rfl
  cases g1 : (c == 32) <;> cases g2 : (c == 9) <;> cases g3 : (c == 10) <;> cases g4 : (c == 13) <;> rw [g1] at h1 HB <;> rw [g2] at h2 HB <;> rw [g3] at h3 HB <;> rw [g4] at h4 HB <;> clear g1 g2 g3 g4
  all_goals
    go_enter Tryd.func23, Tryd.ntmps23
    go_wp2
    go_ret
    exact ⟨ret_bool HB.out.symm, rfl⟩
theorem rBlank_lit {c : UInt8} {w : World} {b : Bool} (hb : blankB c = b) : Calls Tryd.prog 23 #[.int .u8 (c.toNat : Int)] w fun e w' => e = .returned (.bool b) ∧ w = w' := by
  subst hb; exact rBlank c w
theorem rSmall (c : UInt8) (w : World) : Calls Tryd.prog 18 #[.int .u8 (c.toNat : Int)] w fun e w' => e = .returned (.bool (smallB c)) ∧ w = w' := by
  have h1 : decide ((97 : Int) ≤ (c.toNat : Int)) = decide (97 ≤ c) := leU 97 c
  have h2 : decide ((c.toNat : Int) ≤ 122) = decide (c ≤ 122) := leU c 122
  have HB : Hid (smallB c = (decide (97 ≤ c) && decide (c ≤ 122))) := rfl
  cases g1 : decide (97 ≤ c) <;> cases g2 : decide (c ≤ 122) <;> rw [g1] at h1 HB <;> rw [g2] at h2 HB <;> clear g1 g2
  all_goals
    go_enter Tryd.func18, Tryd.ntmps18
    go_wp2
    go_ret
    exact ⟨ret_bool HB.out.symm, rfl⟩
theorem rSmall_lit {c : UInt8} {w : World} {b : Bool} (hb : smallB c = b) : Calls Tryd.prog 18 #[.int .u8 (c.toNat : Int)] w fun e w' => e = .returned (.bool b) ∧ w = w' := by
  subst hb; exact rSmall c w
theorem rDigit (c : UInt8) (w : World) : Calls Tryd.prog 20 #[.int .u8 (c.toNat : Int)] w fun e w' => e = .returned (.bool (digitB c)) ∧ w = w' := by
  have h1 : decide ((48 : Int) ≤ (c.toNat : Int)) = decide (48 ≤ c) := leU 48 c
  have h2 : decide ((c.toNat : Int) ≤ 57) = decide (c ≤ 57) := leU c 57
  have HB : Hid (digitB c = (decide (48 ≤ c) && decide (c ≤ 57))) := rfl
  cases g1 : decide (48 ≤ c) <;> cases g2 : decide (c ≤ 57) <;> rw [g1] at h1 HB <;> rw [g2] at h2 HB <;> clear g1 g2
  all_goals
    go_enter Tryd.func20, Tryd.ntmps20
    go_wp2
    go_ret
    exact ⟨ret_bool HB.out.symm, rfl⟩
theorem rDigit_lit {c : UInt8} {w : World} {b : Bool} (hb : digitB c = b) : Calls Tryd.prog 20 #[.int .u8 (c.toNat : Int)] w fun e w' => e = .returned (.bool b) ∧ w = w' := by
  subst hb; exact rDigit c w
theorem rGreat (c : UInt8) (w : World) : Calls Tryd.prog 19 #[.int .u8 (c.toNat : Int)] w fun e w' => e = .returned (.bool (greatB c)) ∧ w = w' := by
  have h1 : decide ((65 : Int) ≤ (c.toNat : Int)) = decide (65 ≤ c) := leU 65 c
  have h2 : decide ((c.toNat : Int) ≤ 90) = decide (c ≤ 90) := leU c 90
  have h3 : ((c.toNat : Int) == 95) = (c == 95) := eqU c 95
  have HB : Hid (greatB c = (decide (65 ≤ c) && decide (c ≤ 90) || c == 95)) := rfl
  cases g1 : decide (65 ≤ c) <;> cases g2 : decide (c ≤ 90) <;> cases g3 : (c == 95) <;> rw [g1] at h1 HB <;> rw [g2] at h2 HB <;> rw [g3] at h3 HB <;> clear g1 g2 g3
  all_goals
    go_enter Tryd.func19, Tryd.ntmps19
    go_wp2
    go_ret
    exact ⟨ret_bool HB.out.symm, rfl⟩
theorem rGreat_lit {c : UInt8} {w : World} {b : Bool} (hb : greatB c = b) : Calls Tryd.prog 19 #[.int .u8 (c.toNat : Int)] w fun e w' => e = .returned (.bool b) ∧ w = w' := by
  subst hb; exact rGreat c w
theorem rLetter (c : UInt8) (w : World) : Calls Tryd.prog 24 #[.int .u8 (c.toNat : Int)] w fun e w' => e = .returned (.bool (letterB c)) ∧ w = w' := by
  have HB : Hid (letterB c = (smallB c || greatB c || digitB c)) := rfl
  cases g1 : smallB c <;> cases g2 : greatB c <;> cases g3 : digitB c <;> rw [g1, g2, g3] at HB
  all_goals
    have H1 := mkHid g1
    have H2 := mkHid g2
    have H3 := mkHid g3
    clear g1 g2 g3
    go_enter Tryd.func24, Tryd.ntmps24
    go_wp2_with (first
      | (go_at_call 18; refine (rSmall_lit H1.out).mono ?_; rintro e w' ⟨rfl, rfl⟩)
      | (go_at_call 19; refine (rGreat_lit H2.out).mono ?_; rintro e w' ⟨rfl, rfl⟩)
      | (go_at_call 20; refine (rDigit_lit H3.out).mono ?_; rintro e w' ⟨rfl, rfl⟩))
    go_ret
    exact ⟨ret_bool HB.out.symm, rfl⟩
theorem rLetter_lit {c : UInt8} {w : World} {b : Bool} (hb : letterB c = b) : Calls Tryd.prog 24 #[.int .u8 (c.toNat : Int)] w fun e w' => e = .returned (.bool b) ∧ w = w' := by
  subst hb; exact rLetter c w
def hasB (l : List UInt8) (c : UInt8) : Bool := l.contains c
/-- does a byte stand in a text? -/
theorem rIn (s : ByteArray) (c : UInt8) (w : World) (hs : s.size ≤ 1000000) : Calls Tryd.prog 28 #[.string s, .int .u8 (c.toNat : Int)] w fun e w' => e = .returned (.bool (hasB s.data.toList c)) ∧ w = w' := by
  go_enter Tryd.func28, Tryd.ntmps28
  go_wp2
  go_loop [5] (fun i => ∃ k : Nat, k ≤ s.size ∧ i = .int .i64 k ∧ Hid ((s.data.toList.take k).contains c = false)) (fun i => s.size - (intOf i).toNat)
  case atStart => exact ⟨0, Nat.zero_le _, rfl, mkHid (by simp)⟩
  case round =>
    obtain ⟨k, hk, rfl, HA⟩ := hrel
    by_cases hlt : k < s.size
    · have h1 : ((s[k].toNat : Int) == (c.toNat : Int)) = (s[k] == c) := eqU s[k] c
      cases hc : (s[k] == c) with
      | true =>
        rw [hc] at h1
        have HN : Hid (s.data.toList.contains c = true) := by
          have e : s[k] = c := by simpa using hc
          rw [Hid, List.contains_iff_mem, ← e]
          simp [ByteArray.getElem_eq_getElem_data]
        clear hc HA
        go_wp2
        go_ret
        exact ⟨ret_bool HN.out.symm, rfl⟩
      | false =>
        rw [hc] at h1
        have HN : Hid ((s.data.toList.take (k + 1)).contains c = false) := by
          have hne : (c == s[k]) = false := by
            have : ¬ s[k] = c := by simpa using hc
            simp; exact fun e => this e.symm
          have h2 := HA.out
          rw [Hid, take_snocB s k hlt]
          simp only [List.contains_eq_any_beq, List.any_append] at h2 ⊢
          rw [h2]
          simp [hne]
        clear hc HA
        go_wp2
        go_round
        case rel => exact ⟨k + 1, by omega, by go_num, HN⟩
        case measure => simp [intOf]; omega
    · have HN : Hid (s.data.toList.contains c = false) := by
        have h := HA.out
        rw [List.take_of_length_le (by simp; omega)] at h
        exact h
      clear HA
      go_wp2
      go_ret
      exact ⟨ret_bool HN.out.symm, rfl⟩
theorem rSign (c : UInt8) (w : World) : Calls Tryd.prog 21 #[.int .u8 (c.toNat : Int)] w fun e w' => e = .returned (.bool (signB c)) ∧ w = w' := by
  go_enter Tryd.func21, Tryd.ntmps21
  go_wp2_with fail
  refine (rIn _ c _ (by decide)).mono ?_; rintro e w1 ⟨rfl, rfl⟩
  go_wp2
  go_ret
  exact ⟨ret_bool rfl, rfl⟩
theorem rSign_lit {c : UInt8} {w : World} {b : Bool} (hb : signB c = b) : Calls Tryd.prog 21 #[.int .u8 (c.toNat : Int)] w fun e w' => e = .returned (.bool b) ∧ w = w' := by
  subst hb; exact rSign c w
end Go.Proofs.YtinfefmoiimomaaDoor
