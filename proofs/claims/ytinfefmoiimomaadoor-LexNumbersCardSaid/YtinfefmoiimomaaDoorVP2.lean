import Derived.Test.YtinfefmoiimomaaDoorVP1
namespace Go.Proofs.YtinfefmoiimomaaDoor

/-! ### what is wrong is told by a number that is none -/
theorem tokL_err {l : List UInt8} {e : Int} (h : tokL l = .err e) (hl : l ≠ []) : e = 2 ∨ e = 40 ∨ e = 41 := by
  cases l with
  | nil => exact absurd rfl hl
  | cons c r =>
    simp only [tokL, runS, numS, quoS] at h
    repeat' split at h
    all_goals first
      | (cases h; done)
      | (injection h with h; subst h; decide)
theorem lexW_bad : ∀ (n : Nat) (l : List UInt8), l.length ≤ n → ∀ (rm : Bool) (p q : Nat) (e : Int), lexW rm l p = .error (q, e) → (e = 2 ∨ e = 40 ∨ e = 41) ∧ p ≤ q ∧ q < p + l.length := by
  intro n
  induction n with
  | zero =>
    intro l hl rm p q e h
    obtain rfl : l = [] := List.eq_nil_of_length_eq_zero (by omega)
    rw [lexW_nil] at h; cases h
  | succ n ih =>
    intro l hl rm p q e h
    cases l with
    | nil => rw [lexW_nil] at h; cases h
    | cons c r =>
      simp only [List.length_cons] at hl ⊢
      cases rm with
      | true =>
        rw [lexW_rem] at h
        have := ih r (by omega) _ _ _ _ h
        exact ⟨this.1, by omega, by omega⟩
      | false =>
        cases h1 : blankB c with
        | true =>
          rw [lexW_blank h1] at h
          have := ih r (by omega) _ _ _ _ h
          exact ⟨this.1, by omega, by omega⟩
        | false =>
          cases h2 : (c == 37) with
          | true =>
            obtain rfl : c = 37 := by simpa using h2
            rw [lexW_perc] at h
            have := ih r (by omega) _ _ _ _ h
            exact ⟨this.1, by omega, by omega⟩
          | false =>
            cases ht : tokL (c :: r) with
            | pass m => exact absurd ht (tokL_pass _ _)
            | err e' =>
              rw [lexW_err h1 h2 ht] at h
              injection h with h
              injection h with h3 h4
              subst h3 h4
              exact ⟨tokL_err ht (by simp), by omega, by omega⟩
            | tok k t nn len =>
              have hl2 := tokL_len ht
              have hl' := hl2.2
              simp only [List.length_cons] at hl'
              rw [lexW_tok h1 h2 ht] at h
              cases hx : lexW false ((c :: r).drop len) (p + len) with
              | ok ts => rw [hx] at h; cases h
              | error e' =>
                rw [hx] at h
                simp only [conR] at h
                rw [h] at hx
                have := ih _ (by simp; omega) _ _ _ _ hx
                rw [List.length_drop] at this
                simp only [List.length_cons] at this
                exact ⟨this.1, by omega, by omega⟩
/-- the tokens' places -/
theorem lexW_good : ∀ (n : Nat) (l : List UInt8), l.length ≤ n → ∀ (rm : Bool) (p : Nat) (ts : List Tok), lexW rm l p = .ok ts → (∀ t ∈ ts, (p : Int) ≤ t.p ∧ t.p < p + l.length) ∧ ts.length ≤ l.length := by
  intro n
  induction n with
  | zero =>
    intro l hl rm p ts h
    obtain rfl : l = [] := List.eq_nil_of_length_eq_zero (by omega)
    rw [lexW_nil] at h; cases h; simp
  | succ n ih =>
    intro l hl rm p ts h
    cases l with
    | nil => rw [lexW_nil] at h; cases h; simp
    | cons c r =>
      simp only [List.length_cons] at hl ⊢
      cases rm with
      | true =>
        rw [lexW_rem] at h
        have := ih r (by omega) _ _ _ h
        exact ⟨fun t ht => by have := this.1 t ht; omega, by omega⟩
      | false =>
        cases h1 : blankB c with
        | true =>
          rw [lexW_blank h1] at h
          have := ih r (by omega) _ _ _ h
          exact ⟨fun t ht => by have := this.1 t ht; omega, by omega⟩
        | false =>
          cases h2 : (c == 37) with
          | true =>
            obtain rfl : c = 37 := by simpa using h2
            rw [lexW_perc] at h
            have := ih r (by omega) _ _ _ h
            exact ⟨fun t ht => by have := this.1 t ht; omega, by omega⟩
          | false =>
            cases ht : tokL (c :: r) with
            | pass m => exact absurd ht (tokL_pass _ _)
            | err e' => rw [lexW_err h1 h2 ht] at h; cases h
            | tok k t nn len =>
              have hl2 := tokL_len ht
              have hl' := hl2.2
              simp only [List.length_cons] at hl'
              rw [lexW_tok h1 h2 ht] at h
              cases hx : lexW false ((c :: r).drop len) (p + len) with
              | error e' => rw [hx] at h; cases h
              | ok ts' =>
                rw [hx] at h
                simp only [conR] at h
                cases h
                have := ih _ (by simp; omega) _ _ _ hx
                rw [List.length_drop] at this
                simp only [List.length_cons] at this ⊢
                refine ⟨fun u hu => ?_, by omega⟩
                rcases List.mem_cons.1 hu with rfl | hu
                · simp only; omega
                · have := this.1 u hu; omega
end Go.Proofs.YtinfefmoiimomaaDoor
