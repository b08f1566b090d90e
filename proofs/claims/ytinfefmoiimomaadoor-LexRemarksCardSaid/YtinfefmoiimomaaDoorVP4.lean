import Derived.Test.YtinfefmoiimomaaDoorVP2
namespace Go.Proofs.YtinfefmoiimomaaDoor

/-! ### remarks -/
theorem lex_perc : ∀ (n : Nat) (a : List UInt8), a.length ≤ n → ∀ (x : List UInt8) (rm : Bool) (p : Nat) (ts : List Tok), lexW rm a p = .ok ts → lexW rm (a ++ 37 :: x) p = appR ts (lexW true x (p + a.length + 1)) := by
  intro n
  induction n with
  | zero =>
    intro a ha x rm p ts h
    obtain rfl : a = [] := List.eq_nil_of_length_eq_zero (by omega)
    rw [lexW_nil] at h
    cases h
    rw [List.nil_append]
    cases rm with
    | true => rw [lexW_rem, show notNl 37 = true by decide]; cases lexW true x (p + 1) <;> rfl
    | false => rw [lexW_perc]; cases lexW true x (p + 1) <;> rfl
  | succ n ih =>
    intro a ha x rm p ts h
    cases a with
    | nil => exact ih [] (by simp) x rm p ts h
    | cons c r =>
      simp only [List.length_cons] at ha
      have hp : p + 1 + r.length + 1 = p + (c :: r).length + 1 := by simp only [List.length_cons]; omega
      rw [List.cons_append]
      cases rm with
      | true => rw [lexW_rem] at h ⊢; rw [ih r (by omega) x _ _ ts h, hp]
      | false =>
        cases h1 : blankB c with
        | true => rw [lexW_blank h1] at h ⊢; rw [ih r (by omega) x _ _ ts h, hp]
        | false =>
          cases h2 : (c == 37) with
          | true =>
            obtain rfl : c = 37 := by simpa using h2
            rw [lexW_perc] at h ⊢; rw [ih r (by omega) x _ _ ts h, hp]
          | false =>
            cases ht : tokL (c :: r) with
            | pass m => exact absurd ht (tokL_pass _ _)
            | err e => rw [lexW_err h1 h2 ht] at h; cases h
            | tok k t nn len =>
              have hl := tokL_len ht
              have hl' := hl.2
              simp only [List.length_cons] at hl'
              rw [lexW_tok h1 h2 ht] at h
              cases hx : lexW false ((c :: r).drop len) (p + len) with
              | error e => rw [hx] at h; cases h
              | ok us =>
                rw [hx] at h
                simp only [conR] at h
                cases h
                rw [lexW_tok h1 h2 (show tokL (c :: (r ++ 37 :: x)) = .tok k t nn len from tokL_ok delim37 ht x),
                  show c :: (r ++ 37 :: x) = (c :: r) ++ 37 :: x from rfl, drop_app hl.2, ih _ (by simp; omega) x _ _ us hx]
                rw [show p + len + ((c :: r).drop len).length + 1 = p + (c :: r).length + 1 by rw [List.length_drop]; simp only [List.length_cons]; omega]
                exact appR_con _ _ _
theorem lex_line (c y : List UInt8) (h : c.all notNl = true) (p : Nat) : lexW true (c ++ 10 :: y) p = lexW false y (p + c.length + 1) := by
  induction c generalizing p with
  | nil => rw [List.nil_append, lexW_rem]; rfl
  | cons d c ih =>
    simp only [List.all_cons, Bool.and_eq_true] at h
    rw [List.cons_append, lexW_rem, h.1, ih h.2, show p + 1 + c.length + 1 = p + (d :: c).length + 1 by simp only [List.length_cons]; omega]
theorem lex_wide (v y : List UInt8) (h : v.all blankB = true) (p : Nat) : lexW false (v ++ y) p = lexW false y (p + v.length) := by
  induction v generalizing p with
  | nil => rfl
  | cons d v ih =>
    simp only [List.all_cons, Bool.and_eq_true] at h
    rw [List.cons_append, lexW_blank h.1, ih h.2, show p + 1 + v.length = p + (d :: v).length by simp only [List.length_cons]; omega]
def Tok.bare (t : Tok) : Tok := ⟨t.k, t.s, t.n, 0⟩
def AlikeR : Res → Res → Prop
  | .ok l, .ok m => l.map Tok.bare = m.map Tok.bare
  | .error (_, e), .error (_, f) => e = f
  | _, _ => False
theorem alike_shift (ts : List Tok) (b : List UInt8) (p q : Nat) : AlikeR (appR ts (lexW false b p)) (appR ts (lexW false b q)) := by
  have hp := lex_shift p _ b (Nat.le_refl _) false 0
  have hq := lex_shift q _ b (Nat.le_refl _) false 0
  rw [Nat.zero_add] at hp hq
  rw [hp, hq]
  cases lexW false b 0 with
  | error pe => obtain ⟨x, e⟩ := pe; rfl
  | ok us =>
    simp only [shiftR, appR, AlikeR, List.map_append, List.map_map]
    rfl
theorem lex_remark {a b c v : List UInt8} {ts : List Tok} (h : lexW false a 0 = .ok ts) (hc : c.all notNl = true) (hv : v.all blankB = true) :
    AlikeR (lexW false (a ++ 10 :: b) 0) (lexW false (a ++ 37 :: (c ++ 10 :: (v ++ b))) 0) := by
  rw [lex_lines _ a (Nat.le_refl _), h, lex_perc _ a (Nat.le_refl _) _ _ _ _ h, lex_line _ _ hc, lex_wide _ _ hv]
  exact alike_shift _ _ _ _
theorem AlikeR.cases {r r' : Res} (h : AlikeR r r') : (∃ l m, r = .ok l ∧ r' = .ok m ∧ l.map Tok.bare = m.map Tok.bare) ∨ (∃ p q e, r = .error (p, e) ∧ r' = .error (q, e)) := by
  match r, r', h with
  | .ok l, .ok m, h => exact .inl ⟨l, m, rfl, rfl, h⟩
  | .error (p, e), .error (q, f), h => have h : e = f := h; subst h; exact .inr ⟨p, q, _, rfl, rfl⟩
end Go.Proofs.YtinfefmoiimomaaDoor
