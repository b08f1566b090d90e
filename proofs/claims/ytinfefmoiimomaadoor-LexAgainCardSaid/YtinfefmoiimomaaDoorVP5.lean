import Derived.Test.YtinfefmoiimomaaDoorVP2
namespace Go.Proofs.YtinfefmoiimomaaDoor

/-! ### where tokens stand -/
/-- what is passed over: the state behind it, or none -/
def pst : Bool → List UInt8 → Option Bool
  | b, [] => some b
  | b, c :: r => if c == 10 then pst false r else if c == 37 then pst true r else if b || c == 32 || c == 9 || c == 13 then pst b r else none
theorem pst_app (x y : List UInt8) : ∀ b, pst b (x ++ y) = (pst b x).bind fun b' => pst b' y := by
  induction x with
  | nil => intro b; rfl
  | cons c x ih =>
    intro b
    simp only [List.cons_append, pst]
    split
    · exact ih _
    split
    · exact ih _
    split
    · exact ih _
    · rfl
inductive Ord (L : List UInt8) : Nat → List Tok → Prop where
  | nil {e : Nat} (h1 : e ≤ L.length) (h2 : (pst false (L.drop e)).isSome = true) : Ord L e []
  | cons {e p : Nat} {k : Int} {t : List UInt8} {n : Int} {len : Nat} {ts : List Tok} (h1 : e ≤ p) (h2 : p < L.length) (h3 : (pst false ((L.drop e).take (p - e))).isSome = true) (h4 : TokIs (L.drop p) k t n len) (h5 : Ord L (p + len) ts) : Ord L e (⟨k, mkB t, n, p⟩ :: ts)
theorem take_step {L : List UInt8} {e q : Nat} {c : UInt8} {r : List UInt8} (he : e ≤ q) (hd : L.drop q = c :: r) : (L.drop e).take (q + 1 - e) = (L.drop e).take (q - e) ++ [c] := by
  have hq : q < L.length := by
    rcases Nat.lt_or_ge q L.length with h | h
    · exact h
    · rw [List.drop_of_length_le h] at hd; cases hd
  have hc : L[q] = c := by
    rw [List.drop_eq_getElem_cons hq] at hd
    exact (List.cons.inj hd).1
  rw [show q + 1 - e = (q - e) + 1 by omega, List.take_succ_eq_append_getElem (by rw [List.length_drop]; omega)]
  simp only [List.getElem_drop]
  rw [show L[e + (q - e)]'(by omega) = L[q] by congr 1; omega, hc]
theorem drop_tl {L : List UInt8} {q : Nat} {c : UInt8} {r : List UInt8} (hd : L.drop q = c :: r) : L.drop (q + 1) = r := by
  rw [← List.drop_drop, hd]; rfl
theorem lex_ord (L : List UInt8) : ∀ (n q e : Nat) (rm : Bool) (ts : List Tok), L.length - q ≤ n → e ≤ q → q ≤ L.length → pst false ((L.drop e).take (q - e)) = some rm → lexW rm (L.drop q) q = .ok ts → Ord L e ts := by
  intro n
  induction n with
  | zero =>
    intro q e rm ts hn he hq hp h
    have hqe : q = L.length := by omega
    subst hqe
    rw [List.drop_length, lexW_nil] at h
    cases h
    refine .nil he ?_
    rw [List.take_of_length_le (by simp)] at hp
    rw [hp]; rfl
  | succ n ih =>
    intro q e rm ts hn he hq hp h
    cases hd : L.drop q with
    | nil =>
      have hlen : L.length ≤ q := by
        have := congrArg List.length hd
        simp at this; omega
      rw [hd, lexW_nil] at h
      cases h
      refine .nil (by omega) ?_
      rw [List.take_of_length_le (by simp; omega)] at hp
      rw [hp]; rfl
    | cons c r =>
      have hlt : q < L.length := by
        rcases Nat.lt_or_ge q L.length with h | h
        · exact h
        · rw [List.drop_of_length_le h] at hd; cases hd
      have hr := drop_tl hd
      have hst : ∀ b, pst rm [c] = some b → pst false ((L.drop e).take (q + 1 - e)) = some b := by
        intro b hb
        rw [take_step he hd, pst_app, hp]; exact hb
      rw [hd] at h
      cases rm with
      | true =>
        rw [lexW_rem, ← hr] at h
        refine ih (q + 1) e (notNl c) ts (by omega) (by omega) (by omega) (hst _ ?_) h
        simp only [pst, notNl]
        cases h1 : (c == 10) with
        | true => rfl
        | false => cases h2 : (c == 37) <;> rfl
      | false =>
        cases h1 : blankB c with
        | true =>
          rw [lexW_blank h1, ← hr] at h
          refine ih (q + 1) e false ts (by omega) (by omega) (by omega) (hst _ ?_) h
          simp only [blankB, Bool.or_eq_true, beq_iff_eq] at h1
          rcases h1 with ((rfl | rfl) | rfl) | rfl <;> rfl
        | false =>
          cases h2 : (c == 37) with
          | true =>
            obtain rfl : c = 37 := by simpa using h2
            rw [lexW_perc, ← hr] at h
            exact ih (q + 1) e true ts (by omega) (by omega) (by omega) (hst _ rfl) h
          | false =>
            cases ht : tokL (c :: r) with
            | pass m => exact absurd ht (tokL_pass _ _)
            | err e' => rw [lexW_err h1 h2 ht] at h; cases h
            | tok k t nn len =>
              have hl := tokL_len ht
              have hl' : len ≤ L.length - q := by
                have := hl.2
                rw [← hd, List.length_drop] at this; exact this
              rw [lexW_tok h1 h2 ht, ← hd, List.drop_drop] at h
              cases hx : lexW false (L.drop (q + len)) (q + len) with
              | error e' => rw [hx] at h; cases h
              | ok us =>
                rw [hx] at h
                simp only [conR] at h
                cases h
                refine .cons he hlt (by rw [hp]; rfl) (by rw [hd]; exact tokL_is ht) ?_
                exact ih (q + len) (q + len) false us (by omega) (Nat.le_refl _) (by omega) (by simp [pst]) hx
theorem lexW_ord {L : List UInt8} {ts : List Tok} (h : lexW false L 0 = .ok ts) : Ord L 0 ts :=
  lex_ord L L.length 0 0 false ts (by omega) (Nat.le_refl _) (by omega) rfl h
/-- a token's text -/
theorem TokIs.text {c : UInt8} {r : List UInt8} {k : Int} {t : List UInt8} {n : Int} {len : Nat} (h : TokIs (c :: r) k t n len) : 1 ≤ t.length ∧ ((c = 39 ∧ len = t.length + 2 ∧ r.take t.length = t ∧ t.length < r.length) ∨ (c ≠ 39 ∧ len = t.length ∧ (c :: r).take t.length = t ∧ t.length ≤ (c :: r).length)) := by
  cases h with
  | name h hl =>
    refine ⟨span_pos (small_letter h), .inr ⟨?_, rfl, take_span _ _, span_le _ _⟩⟩
    rintro rfl; exact absurd h (by decide)
  | var h hl =>
    refine ⟨span_pos (great_letter h), .inr ⟨?_, rfl, take_span _ _, span_le _ _⟩⟩
    rintro rfl; exact absurd h (by decide)
  | num h hl =>
    refine ⟨span_pos h, .inr ⟨?_, rfl, take_span _ _, span_le _ _⟩⟩
    rintro rfl; exact absurd h (by decide)
  | quo h =>
    simp only [quoB, Bool.and_eq_true, decide_eq_true_eq] at h
    exact ⟨h.1.1.2, .inl ⟨rfl, rfl, take_span _ _, h.1.1.1⟩⟩
  | punct h =>
    refine ⟨by simp, .inr ⟨?_, rfl, rfl, by simp⟩⟩
    rintro rfl; exact absurd h (by decide)
  | stop h => exact ⟨by simp, .inr ⟨by decide, rfl, rfl, by simp⟩⟩
  | sign h hs hl =>
    refine ⟨span_pos h, .inr ⟨?_, rfl, take_span _ _, span_le _ _⟩⟩
    rintro rfl; exact absurd h (by decide)
end Go.Proofs.YtinfefmoiimomaaDoor
