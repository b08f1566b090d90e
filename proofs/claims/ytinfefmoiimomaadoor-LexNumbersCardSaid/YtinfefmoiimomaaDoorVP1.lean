import Derived.Test.YtinfefmoiimomaaDoorV0
namespace Go.Proofs.YtinfefmoiimomaaDoor

/-! ### tokens of texts that are joined -/
def appR2 (l : List Tok) : Res → Res
  | .ok m => .ok (l ++ m)
  | .error e => .error e
/-- a byte behind which a token ends -/
structure Delim (d : UInt8) : Prop where
  l : letterB d = false
  g : digitB d = false
  s : signB d = false
  b : (blankB d || d == 37) = true
theorem delim10 : Delim 10 := ⟨by decide, by decide, by decide, by decide⟩
theorem delim32 : Delim 32 := ⟨by decide, by decide, by decide, by decide⟩
theorem delim37 : Delim 37 := ⟨by decide, by decide, by decide, by decide⟩
theorem tw_app {p : UInt8 → Bool} {d : UInt8} (h : p d = false) (l x : List UInt8) : (l ++ d :: x).takeWhile p = l.takeWhile p := by
  induction l with
  | nil => simp [h]
  | cons c r ih =>
    by_cases hc : p c = true
    · rw [List.cons_append, List.takeWhile_cons_of_pos hc, List.takeWhile_cons_of_pos hc, ih]
    · rw [List.cons_append, List.takeWhile_cons_of_neg hc, List.takeWhile_cons_of_neg hc]
theorem span_app {p : UInt8 → Bool} {d : UInt8} (h : p d = false) (l x : List UInt8) : span p (l ++ d :: x) = span p l := by
  unfold span; rw [tw_app h]
theorem tw_lt {p : UInt8 → Bool} {l : List UInt8} (h : span p l < l.length) (y : List UInt8) : (l ++ y).takeWhile p = l.takeWhile p := by
  induction l with
  | nil => simp at h
  | cons c r ih =>
    by_cases hc : p c = true
    · rw [List.cons_append, List.takeWhile_cons_of_pos hc, List.takeWhile_cons_of_pos hc, ih]
      have : span p (c :: r) = span p r + 1 := by simp [span, hc]
      rw [this, List.length_cons] at h; omega
    · rw [List.cons_append, List.takeWhile_cons_of_neg hc, List.takeWhile_cons_of_neg hc]
theorem tw_ge {p : UInt8 → Bool} {l : List UInt8} (h : ¬ span p l < l.length) (y : List UInt8) : (l ++ y).takeWhile p = l ++ y.takeWhile p := by
  induction l with
  | nil => rfl
  | cons c r ih =>
    by_cases hc : p c = true
    · rw [List.cons_append, List.takeWhile_cons_of_pos hc, ih]; rfl
      have : span p (c :: r) = span p r + 1 := by simp [span, hc]
      rw [this, List.length_cons] at h; omega
    · exfalso
      have : span p (c :: r) = 0 := by simp [span, hc]
      rw [this] at h; simp at h
theorem quoS_ok {r : List UInt8} (h : quoB r = true) (y : List UInt8) : quoS (r ++ y) = quoS r := by
  have h1 : span notQ r < r.length := by simp only [quoB, Bool.and_eq_true, decide_eq_true_eq] at h; exact h.1.1.1
  have h2 := tw_lt h1 y
  have h3 : span notQ (r ++ y) = span notQ r := by unfold span; rw [h2]
  have h4 : quoB (r ++ y) = true := by
    simp only [quoB, Bool.and_eq_true, decide_eq_true_eq] at h ⊢
    rw [h2, h3, List.length_append]
    exact ⟨⟨⟨by omega, h.1.1.2⟩, h.1.2⟩, h.2⟩
  unfold quoS
  rw [h, h4, h2, h3]
theorem quoS_nl (r x : List UInt8) : quoS (r ++ 10 :: x) = quoS r := by
  cases h : quoB r with
  | true => exact quoS_ok h _
  | false =>
    have h4 : quoB (r ++ 10 :: x) = false := by
      by_cases h1 : span notQ r < r.length
      · have h2 := tw_lt h1 (10 :: x)
        have h3 : span notQ (r ++ 10 :: x) = span notQ r := by unfold span; rw [h2]
        unfold quoB at h ⊢
        rw [h2, h3, List.length_append, decide_eq_true (show span notQ r < r.length + (10 :: x).length by omega)]
        rw [decide_eq_true h1] at h
        exact h
      · have h2 := tw_ge h1 (10 :: x)
        unfold quoB
        rw [h2, List.all_append, List.takeWhile_cons_of_pos (by decide), List.all_cons, show seenB 10 = false by decide]
        simp
    unfold quoS
    rw [h, h4]; rfl
theorem stopL_app {d : UInt8} (h : Delim d) (r x : List UInt8) : stopL (r ++ d :: x) = stopL r := by
  cases r with
  | nil => exact h.b
  | cons c r => rfl
theorem tokL_app {d : UInt8} (hd : Delim d) (c : UInt8) (r x : List UInt8) (hq : c = 39 → quoS (r ++ d :: x) = quoS r) : tokL (c :: (r ++ d :: x)) = tokL (c :: r) := by
  have e : ∀ p : UInt8 → Bool, p d = false → (c :: (r ++ d :: x)).takeWhile p = (c :: r).takeWhile p := fun p hp => tw_app hp (c :: r) x
  have e2 : ∀ p : UInt8 → Bool, p d = false → span p (c :: (r ++ d :: x)) = span p (c :: r) := fun p hp => span_app hp (c :: r) x
  simp only [tokL, runS, numS, e _ hd.l, e2 _ hd.l, e _ hd.g, e2 _ hd.g, e _ hd.s, e2 _ hd.s, stopL_app hd]
  by_cases h39 : c = 39
  · subst h39; rw [hq rfl]
  · have : ¬ (c == 39) = true := by simpa using h39
    simp only [this]
    rfl
theorem tokL_nl (c : UInt8) (r x : List UInt8) : tokL (c :: (r ++ 10 :: x)) = tokL (c :: r) := tokL_app delim10 c r x fun _ => quoS_nl r x
theorem tokL_ok {d : UInt8} (hd : Delim d) {c : UInt8} {r : List UInt8} {k : Int} {t : List UInt8} {n : Int} {len : Nat} (h : tokL (c :: r) = .tok k t n len) (x : List UInt8) : tokL (c :: (r ++ d :: x)) = .tok k t n len := by
  rw [tokL_app hd c r x ?_, h]
  rintro rfl
  refine quoS_ok ?_ _
  cases hb : quoB r with
  | true => rfl
  | false =>
    exfalso
    have : tokL (39 :: r) = .err 41 := by
      have h1 : smallB 39 = false := by decide
      have h2 : greatB 39 = false := by decide
      have h3 : digitB 39 = false := by decide
      simp [tokL, h1, h2, h3, quoS, hb]
    rw [this] at h; cases h
theorem drop_app {l x : List UInt8} {n : Nat} (h : n ≤ l.length) : (l ++ x).drop n = l.drop n ++ x := by
  rw [List.drop_append_of_le_length h]
theorem appR_con (ts : List Tok) (t : Tok) (r : Res) : conR t (appR ts r) = appR (t :: ts) r := by cases r <;> rfl
/-- two lines -/
theorem lex_lines : ∀ (n : Nat) (a : List UInt8), a.length ≤ n → ∀ (b : List UInt8) (rm : Bool) (p : Nat), lexW rm (a ++ 10 :: b) p = match lexW rm a p with
    | .ok ts => appR ts (lexW false b (p + a.length + 1))
    | .error e => .error e := by
  intro n
  induction n with
  | zero =>
    intro a ha b rm p
    obtain rfl : a = [] := List.eq_nil_of_length_eq_zero (by omega)
    rw [lexW_nil, List.nil_append]
    cases rm with
    | true => rw [lexW_rem, show notNl 10 = false by decide]; cases lexW false b (p + 1) <;> rfl
    | false => rw [lexW_blank (by decide)]; cases lexW false b (p + 1) <;> rfl
  | succ n ih =>
    intro a ha b rm p
    cases a with
    | nil => exact ih [] (by simp) b rm p
    | cons c r =>
      simp only [List.length_cons] at ha
      have hp : p + 1 + r.length + 1 = p + (c :: r).length + 1 := by simp only [List.length_cons]; omega
      rw [List.cons_append]
      cases rm with
      | true => rw [lexW_rem, lexW_rem, ih r (by omega), hp]
      | false =>
        cases h1 : blankB c with
        | true => rw [lexW_blank h1, lexW_blank h1, ih r (by omega), hp]
        | false =>
          cases h2 : (c == 37) with
          | true =>
            obtain rfl : c = 37 := by simpa using h2
            rw [lexW_perc, lexW_perc, ih r (by omega), hp]
          | false =>
            cases ht : tokL (c :: r) with
            | pass m => exact absurd ht (tokL_pass _ _)
            | err e => rw [lexW_err h1 h2 ht, lexW_err h1 h2 (by rw [tokL_nl, ht])]
            | tok k t nn len =>
              have hl := tokL_len ht
              have hl' := hl.2
              simp only [List.length_cons] at hl'
              rw [lexW_tok h1 h2 ht, lexW_tok h1 h2 (show tokL (c :: (r ++ 10 :: b)) = .tok k t nn len by rw [tokL_nl, ht]),
                show c :: (r ++ 10 :: b) = (c :: r) ++ 10 :: b from rfl, drop_app hl.2, ih _ (by simp; omega)]
              cases hx : lexW false ((c :: r).drop len) (p + len) with
              | error e => rfl
              | ok ts =>
                simp only [conR]
                rw [show p + len + ((c :: r).drop len).length + 1 = p + (c :: r).length + 1 by rw [List.length_drop]; simp only [List.length_cons]; omega]
                exact appR_con _ _ _

/-! ### further on -/
def Tok.add (d : Nat) (t : Tok) : Tok := ⟨t.k, t.s, t.n, t.p + d⟩
def shiftR (d : Nat) : Res → Res
  | .ok l => .ok (l.map (Tok.add d))
  | .error (p, e) => .error (p + d, e)
theorem lex_shift (d : Nat) : ∀ (n : Nat) (l : List UInt8), l.length ≤ n → ∀ (rm : Bool) (p : Nat), lexW rm l (p + d) = shiftR d (lexW rm l p) := by
  intro n
  induction n with
  | zero =>
    intro l hl rm p
    obtain rfl : l = [] := List.eq_nil_of_length_eq_zero (by omega)
    rw [lexW_nil, lexW_nil]; rfl
  | succ n ih =>
    intro l hl rm p
    cases l with
    | nil => rw [lexW_nil, lexW_nil]; rfl
    | cons c r =>
      simp only [List.length_cons] at hl
      have hp : p + d + 1 = p + 1 + d := by omega
      cases rm with
      | true => rw [lexW_rem, lexW_rem, hp, ih r (by omega)]
      | false =>
        cases h1 : blankB c with
        | true => rw [lexW_blank h1, lexW_blank h1, hp, ih r (by omega)]
        | false =>
          cases h2 : (c == 37) with
          | true =>
            obtain rfl : c = 37 := by simpa using h2
            rw [lexW_perc, lexW_perc, hp, ih r (by omega)]
          | false =>
            cases ht : tokL (c :: r) with
            | pass m => exact absurd ht (tokL_pass _ _)
            | err e => rw [lexW_err h1 h2 ht, lexW_err h1 h2 ht]; rfl
            | tok k t nn len =>
              have hl2 := tokL_len ht
              have hl' := hl2.2
              simp only [List.length_cons] at hl'
              rw [lexW_tok h1 h2 ht, lexW_tok h1 h2 ht, show p + d + len = p + len + d by omega, ih _ (by simp; omega)]
              cases lexW false ((c :: r).drop len) (p + len) with
              | error e => rfl
              | ok ts =>
                simp only [shiftR, conR, List.map_cons]
                congr 1
end Go.Proofs.YtinfefmoiimomaaDoor
