import Derived.Test.YtinfefmoiimomaaDoorV6
namespace Go.Proofs.YtinfefmoiimomaaDoor
open Go.RowKit

def fullP : List UInt8 → Bool
  | [] => false
  | c :: r => c == 46 && stopL r
theorem blank_lit {c : UInt8} {w : World} {b : Bool} (hb : blankB c = b) : Calls Tryd.prog 31 #[.int .u8 (c.toNat : Int)] w fun e w' => e = .returned (.bool b) ∧ w = w' := by
  subst hb; exact blank_any c w
theorem list_one {s : ByteArray} (h : s.size = 1) : s.data.toList = [s[0]] := by
  have hd := drop_consB s 0 (by omega)
  rw [List.drop_zero] at hd
  rw [hd, List.drop_of_length_le (by simp; omega)]
theorem list_two {s : ByteArray} (h : 1 < s.size) : s.data.toList = s[0] :: s[1] :: s.data.toList.drop 2 := by
  have hd := drop_consB s 0 (by omega)
  rw [List.drop_zero, drop_consB s (0 + 1) (by omega)] at hd
  exact hd
set_option maxRecDepth 20000 in
theorem fullStop_any (s : ByteArray) (w : World) (h1 : 1 ≤ s.size) (hs : s.size ≤ 1000000) :
    Calls Tryd.prog 43 #[.string s] w fun e w' => e = .returned (.bool (fullP s.data.toList)) ∧ w = w' := by
  have hz : 0 < s.size := h1
  have e0 : ((s[0].toNat : Int) == 46) = (s[0] == 46) := eqU s[0] 46
  by_cases hl : s.size = 1
  · have HB : Hid (fullP s.data.toList = (s[0] == 46)) := by rw [list_one hl]; simp [Hid, fullP, stopL]
    have el : ((s.size : Int) == 1) = true := by simp [hl]
    clear hl
    cases g0 : (s[0] == 46) <;> rw [g0] at e0 HB <;> clear g0
    all_goals
      go_enter Tryd.func43, Tryd.ntmps43
      go_wp2
      go_ret
      exact ⟨ret_bool HB.out.symm, rfl⟩
  · have h2 : 1 < s.size := by omega
    have el : ((s.size : Int) == 1) = false := by simp; omega
    have e1 : ((s[1].toNat : Int) == 37) = (s[1] == 37) := eqU s[1] 37
    have HB : Hid (fullP s.data.toList = (s[0] == 46 && (blankB s[1] || s[1] == 37))) := by rw [list_two h2]; rfl
    clear hl
    cases g0 : (s[0] == 46) <;> cases g1 : blankB s[1] <;> cases g2 : (s[1] == 37) <;> rw [g0] at e0 HB <;> rw [g1] at HB <;> rw [g2] at e1 HB
    all_goals
      have H1 := mkHid g1
      clear g0 g1 g2
      go_enter Tryd.func43, Tryd.ntmps43
      go_wp2_with (go_at_call 31; refine (blank_lit H1.out).mono ?_; rintro e w' ⟨rfl, rfl⟩)
      go_ret
      exact ⟨ret_bool HB.out.symm, rfl⟩

/-! ### numbers -/
def decFrom (n : Nat) (l : List UInt8) : Nat := l.foldl (fun n c => n * 10 + (c.toNat - 48)) n
theorem decFrom_le (l : List UInt8) : ∀ n, n ≤ decFrom n l := by
  induction l with
  | nil => intro n; exact Nat.le_refl _
  | cons c r ih => intro n; exact Nat.le_trans (by omega) (ih (n * 10 + (c.toNat - 48)))
theorem digit_nat {c : UInt8} (h : digitB c = true) : 48 ≤ c.toNat ∧ c.toNat ≤ 57 := by
  simp only [digitB, Bool.and_eq_true, decide_eq_true_eq, UInt8.le_iff_toNat_le] at h
  exact h
theorem parse_digits (l : List UInt8) (h : l.all digitB = true) : ∀ n, (∃ u, Lib.parseUint10 n l = .ok u ∧ u = decFrom n l) ∨ (Lib.parseUint10 n l = .range ∧ 18446744073709551616 ≤ decFrom n l) := by
  induction l with
  | nil => intro n; exact .inl ⟨n, rfl, rfl⟩
  | cons c r ih =>
    intro n
    simp only [List.all_cons, Bool.and_eq_true] at h
    have hd := digit_nat h.1
    simp only [Lib.parseUint10]
    rw [if_pos hd]
    by_cases h1 : 1844674407370955162 ≤ n
    · rw [if_pos h1]
      have hle := decFrom_le r (n * 10 + (c.toNat - 48))
      exact .inr ⟨rfl, Nat.le_trans (by omega) hle⟩
    · rw [if_neg h1]
      by_cases h2 : 18446744073709551616 ≤ n * 10 + (c.toNat - 48)
      · rw [if_pos h2]
        exact .inr ⟨rfl, Nat.le_trans h2 (decFrom_le r _)⟩
      · rw [if_neg h2]
        exact ih h.2 _
theorem atoi_digits (l : List UInt8) (h : l.all digitB = true) (hne : l ≠ []) : Lib.atoiAll l = .ok (decN l : Int) ∨ (Lib.atoiAll l = .range ∧ 2147483647 < decN l) := by
  cases l with
  | nil => exact absurd rfl hne
  | cons c r =>
    have hc : digitB c = true := by simp at h; exact h.1
    have hd := digit_nat hc
    have h45 : ¬ c.toNat = 45 := by omega
    have h43 : ¬ c.toNat = 43 := by omega
    have hN : decN (c :: r) = decFrom 0 (c :: r) := rfl
    simp only [Lib.atoiAll, h43, or_self, Lib.parseMag, if_neg hne, h45, not_false_eq_true, true_and, false_and, if_false]
    rcases parse_digits (c :: r) h 0 with ⟨u, h1, h2⟩ | ⟨h1, h2⟩
    · rw [h1]
      simp only
      by_cases hu : 9223372036854775808 ≤ u
      · rw [if_pos hu]; right; exact ⟨rfl, by rw [hN]; omega⟩
      · rw [if_neg hu]; left; rw [hN, h2]
    · rw [h1]; right; exact ⟨rfl, by rw [hN]; omega⟩
theorem takeWhile_all {p : UInt8 → Bool} (l : List UInt8) : (l.takeWhile p).all p = true := by
  induction l with
  | nil => rfl
  | cons c r ih =>
    by_cases h : p c = true
    · rw [List.takeWhile_cons_of_pos h]; simp [h]
    · rw [List.takeWhile_cons_of_neg h]; rfl
theorem digit_enters : Enters 39 := fun _ _ => by kernel_rfl
theorem digit_tells (w : World) : Tells 39 #[] digitB w := fun c => digit_any c w
end Go.Proofs.YtinfefmoiimomaaDoor
