import Derived.Test.YtinfefmoiimomaaDoorVP2
namespace Go.Proofs.YtinfefmoiimomaaDoor

/-! ### what the document passes over -/
def skipL : Bool → List UInt8 → Nat
  | _, [] => 0
  | b, c :: r => if c == 10 then skipL false r + 1 else if c == 37 then skipL true r + 1 else if b || blankB c then skipL b r + 1 else 0
theorem skip_le : ∀ (l : List UInt8) (b : Bool), skipL b l ≤ l.length
  | [], b => by simp [skipL]
  | c :: r, b => by
    simp only [skipL, List.length_cons]
    have h1 := skip_le r false
    have h2 := skip_le r true
    have h3 := skip_le r b
    split
    · omega
    split
    · omega
    split <;> omega
theorem skip_lex : ∀ (l : List UInt8) (b : Bool) (q : Nat), lexW b l q = lexW false (l.drop (skipL b l)) (q + skipL b l)
  | [], b, q => by simp [skipL, lexW_nil]
  | c :: r, b, q => by
    have h1 := skip_lex r false (q + 1)
    have h2 := skip_lex r true (q + 1)
    simp only [skipL]
    cases g10 : (c == 10) with
    | true =>
      obtain rfl : c = 10 := by simpa using g10
      simp only [if_true, List.drop_succ_cons]
      rw [show q + (skipL false r + 1) = q + 1 + skipL false r by omega, ← h1]
      cases b with
      | true => rw [lexW_rem]; rfl
      | false => rw [lexW_blank (by decide)]
    | false =>
      simp only [Bool.false_eq_true, if_false]
      cases g37 : (c == 37) with
      | true =>
        obtain rfl : c = 37 := by simpa using g37
        simp only [if_true, List.drop_succ_cons]
        rw [show q + (skipL true r + 1) = q + 1 + skipL true r by omega, ← h2]
        cases b with
        | true => rw [lexW_rem]; rfl
        | false => rw [lexW_perc]
      | false =>
        simp only [Bool.false_eq_true, if_false]
        cases b with
        | true =>
          simp only [Bool.true_or, if_true, List.drop_succ_cons]
          rw [show q + (skipL true r + 1) = q + 1 + skipL true r by omega, ← h2, lexW_rem, show notNl c = true by simp [notNl]; simpa using g10]
        | false =>
          cases gb : blankB c with
          | true =>
            simp only [Bool.or_true, if_true, List.drop_succ_cons]
            rw [show q + (skipL false r + 1) = q + 1 + skipL false r by omega, ← h1, lexW_blank gb]
          | false => simp
theorem skip_stop : ∀ (l : List UInt8) (b : Bool) (c : UInt8) (r : List UInt8), l.drop (skipL b l) = c :: r → blankB c = false ∧ (c == 37) = false
  | [], b, c, r, h => by simp at h
  | d :: l, b, c, r, h => by
    simp only [skipL] at h
    cases g10 : (d == 10) with
    | true =>
      rw [g10] at h
      simp only [if_true, List.drop_succ_cons] at h
      exact skip_stop l false c r h
    | false =>
      rw [g10] at h
      simp only [Bool.false_eq_true, if_false] at h
      cases g37 : (d == 37) with
      | true =>
        rw [g37] at h
        simp only [if_true, List.drop_succ_cons] at h
        exact skip_stop l true c r h
      | false =>
        rw [g37] at h
        simp only [Bool.false_eq_true, if_false] at h
        cases gb : (b || blankB d) with
        | true =>
          rw [gb] at h
          simp only [if_true, List.drop_succ_cons] at h
          exact skip_stop l b c r h
        | false =>
          rw [gb] at h
          simp only [Bool.false_eq_true, if_false, List.drop_zero] at h
          obtain ⟨rfl, rfl⟩ := List.cons.inj h
          simp only [Bool.or_eq_false_iff] at gb
          exact ⟨gb.2, g37⟩
end Go.Proofs.YtinfefmoiimomaaDoor
