namespace Go.Proofs.YtinfefmoiimomaaDoor

/-! ### tokens of a list of bytes, in plain words -/
structure Tok where
  k : Int
  s : ByteArray
  n : Int
  p : Int
  deriving DecidableEq
def blankB (c : UInt8) : Bool := c == 32 || c == 9 || c == 10 || c == 13
def smallB (c : UInt8) : Bool := decide (97 ≤ c) && decide (c ≤ 122)
def greatB (c : UInt8) : Bool := decide (65 ≤ c) && decide (c ≤ 90) || c == 95
def digitB (c : UInt8) : Bool := decide (48 ≤ c) && decide (c ≤ 57)
def letterB (c : UInt8) : Bool := smallB c || greatB c || digitB c
def signL : List UInt8 := [43, 45, 42, 47, 92, 94, 60, 62, 61, 126, 58, 63, 64, 35, 38, 36, 46]
def signB (c : UInt8) : Bool := signL.contains c
def punctL : List UInt8 := [40, 41, 91, 93, 44, 124]
def punctB (c : UInt8) : Bool := punctL.contains c
def seenB (c : UInt8) : Bool := decide (32 ≤ c) && decide (c ≤ 126)
def notNl (c : UInt8) : Bool := !(c == 10)
def notQ (c : UInt8) : Bool := !(c == 39)
def mkB (l : List UInt8) : ByteArray := ⟨l.toArray⟩
def decN (l : List UInt8) : Nat := l.foldl (fun n c => n * 10 + (c.toNat - 48)) 0
def span (p : UInt8 → Bool) (l : List UInt8) : Nat := (l.takeWhile p).length

inductive Step where
  | pass (n : Nat)
  | tok (k : Int) (t : List UInt8) (n : Int) (len : Nat)
  | err (e : Int)
  deriving DecidableEq

def runS (k : Int) (p : UInt8 → Bool) (most : Nat) (l : List UInt8) : Step :=
  if most < span p l then .err 2 else .tok k (l.takeWhile p) 0 (span p l)
def numS (l : List UInt8) : Step :=
  if 2147483647 < decN (l.takeWhile digitB) then .err 2 else .tok 3 (l.takeWhile digitB) (decN (l.takeWhile digitB)) (span digitB l)
def quoB (r : List UInt8) : Bool := decide (span notQ r < r.length) && decide (1 ≤ span notQ r) && decide (span notQ r ≤ 12) && (r.takeWhile notQ).all seenB
def quoS (r : List UInt8) : Step := if quoB r then .tok 1 (r.takeWhile notQ) 0 (span notQ r + 2) else .err 41
def stopL : List UInt8 → Bool
  | [] => true
  | c :: _ => blankB c || c == 37
def tokL : List UInt8 → Step
  | [] => .err 0
  | c :: r =>
    if smallB c then runS 1 letterB 12 (c :: r)
    else if greatB c then runS 2 letterB 20000 (c :: r)
    else if digitB c then numS (c :: r)
    else if c == 39 then quoS r
    else if punctB c then .tok 5 [c] 0 1
    else if c == 46 && stopL r then .tok 6 [c] 0 1
    else if signB c then runS 4 signB 12 (c :: r)
    else .err 40
/-- one step of the table -/
def stepL : List UInt8 → Step
  | [] => .err 0
  | c :: r => if blankB c then .pass (span blankB (c :: r)) else if c == 37 then .pass (span notNl (c :: r)) else tokL (c :: r)

abbrev Res := Except (Nat × Int) (List Tok)
def conR (t : Tok) : Res → Res
  | .ok l => .ok (t :: l)
  | .error e => .error e
def appR (l : List Tok) : Res → Res
  | .ok m => .ok (l ++ m)
  | .error e => .error e
def lexS : Nat → Bool → List UInt8 → Nat → Res
  | _, _, [], _ => .ok []
  | 0, _, _ :: _, p => .error (p, 0)
  | f + 1, true, c :: r, p => lexS f (notNl c) r (p + 1)
  | f + 1, false, c :: r, p =>
    if blankB c then lexS f false r (p + 1)
    else if c == 37 then lexS f true r (p + 1)
    else match tokL (c :: r) with
      | .tok k t n len => conR ⟨k, mkB t, n, p⟩ (lexS f false ((c :: r).drop len) (p + len))
      | .err e => .error (p, e)
      | .pass _ => .error (p, 0)
/-- the tokens of a text from a place on; b: within a remark -/
def lexW (b : Bool) (l : List UInt8) (p : Nat) : Res := lexS l.length b l p

/-! ### how a token begins -/
theorem span_pos {p : UInt8 → Bool} {c : UInt8} {r : List UInt8} (h : p c = true) : 1 ≤ span p (c :: r) := by
  unfold span; rw [List.takeWhile_cons_of_pos h]; simp
theorem span_le (p : UInt8 → Bool) (l : List UInt8) : span p l ≤ l.length := (List.takeWhile_prefix p).length_le
theorem take_span (p : UInt8 → Bool) (l : List UInt8) : l.take (span p l) = l.takeWhile p := by
  unfold span; exact List.prefix_iff_eq_take.1 (List.takeWhile_prefix p) |>.symm
theorem drop_span (p : UInt8 → Bool) (l : List UInt8) : l.drop (span p l) = l.dropWhile p := by
  have h1 := List.takeWhile_append_dropWhile (p := p) (l := l)
  have h2 := List.take_append_drop (span p l) l
  rw [take_span] at h2
  exact List.append_cancel_left (h2.trans h1.symm)
theorem small_letter {c : UInt8} (h : smallB c = true) : letterB c = true := by simp [letterB, h]
theorem great_letter {c : UInt8} (h : greatB c = true) : letterB c = true := by simp [letterB, h]
theorem digit_letter {c : UInt8} (h : digitB c = true) : letterB c = true := by simp [letterB, h]
theorem all_u8 {p : UInt8 → Bool} (h : ∀ i : Fin 256, p (UInt8.ofFin i) = true) (c : UInt8) : p c = true := h c.toFin

/-- which token it is -/
inductive TokIs : List UInt8 → Int → List UInt8 → Int → Nat → Prop where
  | name {c : UInt8} {r : List UInt8} (h : smallB c = true) (hl : span letterB (c :: r) ≤ 12) : TokIs (c :: r) 1 ((c :: r).takeWhile letterB) 0 (span letterB (c :: r))
  | var {c : UInt8} {r : List UInt8} (h : greatB c = true) (hl : span letterB (c :: r) ≤ 20000) : TokIs (c :: r) 2 ((c :: r).takeWhile letterB) 0 (span letterB (c :: r))
  | num {c : UInt8} {r : List UInt8} (h : digitB c = true) (hl : decN ((c :: r).takeWhile digitB) ≤ 2147483647) : TokIs (c :: r) 3 ((c :: r).takeWhile digitB) (decN ((c :: r).takeWhile digitB)) (span digitB (c :: r))
  | quo {r : List UInt8} (h : quoB r = true) : TokIs (39 :: r) 1 (r.takeWhile notQ) 0 (span notQ r + 2)
  | punct {c : UInt8} {r : List UInt8} (h : punctB c = true) : TokIs (c :: r) 5 [c] 0 1
  | stop {r : List UInt8} (h : stopL r = true) : TokIs (46 :: r) 6 [46] 0 1
  | sign {c : UInt8} {r : List UInt8} (h : signB c = true) (hs : ¬ (c = 46 ∧ stopL r = true)) (hl : span signB (c :: r) ≤ 12) : TokIs (c :: r) 4 ((c :: r).takeWhile signB) 0 (span signB (c :: r))
theorem tokL_is {l : List UInt8} {k : Int} {t : List UInt8} {n : Int} {len : Nat} (h : tokL l = .tok k t n len) : TokIs l k t n len := by
  cases l with
  | nil => simp [tokL] at h
  | cons c r =>
    simp only [tokL] at h
    split at h
    · next hc =>
      unfold runS at h; split at h
      · cases h
      · next hm => injection h with h1 h2 h3 h4; subst h1 h2 h3 h4; exact .name hc (by omega)
    split at h
    · next hc =>
      unfold runS at h; split at h
      · cases h
      · next hm => injection h with h1 h2 h3 h4; subst h1 h2 h3 h4; exact .var hc (by omega)
    split at h
    · next hc =>
      unfold numS at h; split at h
      · cases h
      · next hm => injection h with h1 h2 h3 h4; subst h1 h2 h3 h4; exact .num hc (by omega)
    split at h
    · next hc =>
      obtain rfl : c = 39 := by simpa using hc
      unfold quoS at h; split at h
      · next hm => injection h with h1 h2 h3 h4; subst h1 h2 h3 h4; exact .quo hm
      · cases h
    split at h
    · next hc => injection h with h1 h2 h3 h4; subst h1 h2 h3 h4; exact .punct hc
    split at h
    · next hc =>
      simp only [Bool.and_eq_true, beq_iff_eq] at hc
      obtain ⟨rfl, hs⟩ := hc
      injection h with h1 h2 h3 h4; subst h1 h2 h3 h4; exact .stop hs
    split at h
    · next hd hc =>
      unfold runS at h; split at h
      · cases h
      · next hm => injection h with h1 h2 h3 h4; subst h1 h2 h3 h4; exact .sign hc (by simpa using hd) (by omega)
    · cases h
theorem TokIs.len_pos {l : List UInt8} {k : Int} {t : List UInt8} {n : Int} {len : Nat} (h : TokIs l k t n len) : 1 ≤ len ∧ len ≤ l.length := by
  cases h with
  | name h hl => exact ⟨span_pos (small_letter h), span_le _ _⟩
  | var h hl => exact ⟨span_pos (great_letter h), span_le _ _⟩
  | num h hl => exact ⟨span_pos h, span_le _ _⟩
  | quo h =>
    unfold quoB at h
    simp only [Bool.and_eq_true, decide_eq_true_eq] at h
    simp only [List.length_cons]
    omega
  | punct h => simp
  | stop h => simp
  | sign h hs hl => exact ⟨span_pos h, span_le _ _⟩
theorem tokL_len {l : List UInt8} {k : Int} {t : List UInt8} {n : Int} {len : Nat} (h : tokL l = .tok k t n len) : 1 ≤ len ∧ len ≤ l.length := (tokL_is h).len_pos
theorem tokL_pass (l : List UInt8) (n : Nat) : tokL l ≠ .pass n := by
  cases l with
  | nil => simp [tokL]
  | cons c r =>
    simp only [tokL, runS, numS, quoS]
    repeat' split
    all_goals simp

/-! ### the tokens of a text, step by step -/
theorem lexS_fuel : ∀ (f : Nat) (b : Bool) (l : List UInt8) (p : Nat), l.length ≤ f → lexS f b l p = lexS l.length b l p := by
  intro f
  induction f using Nat.strongRecOn with
  | _ f ih =>
    intro b l p h
    cases l with
    | nil => cases f <;> simp [lexS]
    | cons c r =>
      cases f with
      | zero => simp at h
      | succ f =>
        simp only [List.length_cons] at h ⊢
        cases b with
        | true =>
          simp only [lexS]
          rw [ih f (by omega) _ r _ (by omega)]
        | false =>
          simp only [lexS]
          split
          · rw [ih f (by omega) _ r _ (by omega)]
          split
          · rw [ih f (by omega) _ r _ (by omega)]
          cases ht : tokL (c :: r) with
          | pass n => rfl
          | err e => rfl
          | tok k t n len =>
            have hl := tokL_len ht
            simp only [List.length_cons] at hl
            simp only
            rw [ih f (by omega) _ ((c :: r).drop len) _ (by simp; omega)]
            by_cases hr : r.length = f
            · rw [hr, ih f (by omega) _ ((c :: r).drop len) _ (by simp; omega)]
            · rw [ih r.length (by omega) _ ((c :: r).drop len) _ (by simp; omega)]
theorem lexW_nil (b : Bool) (p : Nat) : lexW b [] p = .ok [] := by simp [lexW, lexS]
theorem lexW_rem {c : UInt8} {r : List UInt8} {p : Nat} : lexW true (c :: r) p = lexW (notNl c) r (p + 1) := by simp [lexW, lexS]
theorem lexW_blank {c : UInt8} {r : List UInt8} {p : Nat} (h : blankB c = true) : lexW false (c :: r) p = lexW false r (p + 1) := by simp [lexW, lexS, h]
theorem lexW_perc {r : List UInt8} {p : Nat} : lexW false (37 :: r) p = lexW true r (p + 1) := by simp [lexW, lexS, show blankB 37 = false by decide]
theorem lexW_tok {c : UInt8} {r : List UInt8} {p : Nat} {k : Int} {t : List UInt8} {n : Int} {len : Nat} (h1 : blankB c = false) (h2 : (c == 37) = false) (h : tokL (c :: r) = .tok k t n len) :
    lexW false (c :: r) p = conR ⟨k, mkB t, n, p⟩ (lexW false ((c :: r).drop len) (p + len)) := by
  have hl := tokL_len h
  simp only [List.length_cons] at hl
  simp only [lexW, lexS, List.length_cons, h1, h2, h, Bool.false_eq_true, if_false]
  rw [lexS_fuel r.length _ _ _ (by simp; omega)]
theorem lexW_err {c : UInt8} {r : List UInt8} {p : Nat} {e : Int} (h1 : blankB c = false) (h2 : (c == 37) = false) (h : tokL (c :: r) = .err e) :
    lexW false (c :: r) p = .error (p, e) := by
  simp only [lexW, lexS, List.length_cons, h1, h2, h, Bool.false_eq_true, if_false]
theorem lexW_blanks (l : List UInt8) (p : Nat) : lexW false l p = lexW false (l.drop (span blankB l)) (p + span blankB l) := by
  induction l generalizing p with
  | nil => simp [span]
  | cons c r ih =>
    by_cases h : blankB c = true
    · rw [lexW_blank h, ih, show span blankB (c :: r) = span blankB r + 1 by simp [span, h]]
      simp only [List.drop_succ_cons]
      congr 1; omega
    · simp [span, h]
theorem lexW_line (l : List UInt8) (p : Nat) : lexW true l p = lexW false (l.drop (span notNl l)) (p + span notNl l) := by
  induction l generalizing p with
  | nil => simp [lexW_nil]
  | cons c r ih =>
    by_cases h : notNl c = true
    · rw [lexW_rem, h, ih, show span notNl (c :: r) = span notNl r + 1 by simp [span, h]]
      simp only [List.drop_succ_cons]
      congr 1; omega
    · have hc : c = 10 := by simpa [notNl] using h
      subst hc
      rw [lexW_rem]
      simp only [Bool.not_eq_true] at h
      rw [h, show span notNl (10 :: r) = 0 by simp [span, h]]
      simp only [List.drop_zero, Nat.add_zero]
      rw [lexW_blank (by decide)]
theorem lexW_pass {l : List UInt8} {n p : Nat} (h : stepL l = .pass n) : lexW false l p = lexW false (l.drop n) (p + n) := by
  cases l with
  | nil => simp [stepL] at h
  | cons c r =>
    simp only [stepL] at h
    split at h
    · injection h with h; subst h; exact lexW_blanks _ _
    · split at h
      · next hc =>
        obtain rfl : c = 37 := by simpa using hc
        injection h with h; subst h
        rw [lexW_perc, lexW_line, show span notNl (37 :: r) = span notNl r + 1 by simp [span, show notNl 37 = true by decide]]
        simp only [List.drop_succ_cons]
        congr 1; omega
      · exact absurd h (tokL_pass _ _)
theorem stepL_tok {c : UInt8} {r : List UInt8} {k : Int} {t : List UInt8} {n : Int} {len : Nat} (h : stepL (c :: r) = .tok k t n len) : blankB c = false ∧ (c == 37) = false ∧ tokL (c :: r) = .tok k t n len := by
  simp only [stepL] at h
  split at h
  · cases h
  · next h1 =>
    split at h
    · cases h
    · next h2 => exact ⟨by simpa using h1, by simpa using h2, h⟩
theorem stepL_err {c : UInt8} {r : List UInt8} {e : Int} (h : stepL (c :: r) = .err e) : blankB c = false ∧ (c == 37) = false ∧ tokL (c :: r) = .err e := by
  simp only [stepL] at h
  split at h
  · cases h
  · next h1 =>
    split at h
    · cases h
    · next h2 => exact ⟨by simpa using h1, by simpa using h2, h⟩
theorem lexW_stepT {c : UInt8} {r : List UInt8} {p : Nat} {k : Int} {t : List UInt8} {n : Int} {len : Nat} (h : stepL (c :: r) = .tok k t n len) :
    lexW false (c :: r) p = conR ⟨k, mkB t, n, p⟩ (lexW false ((c :: r).drop len) (p + len)) :=
  let ⟨h1, h2, h3⟩ := stepL_tok h
  lexW_tok h1 h2 h3
theorem lexW_stepE {c : UInt8} {r : List UInt8} {p : Nat} {e : Int} (h : stepL (c :: r) = .err e) : lexW false (c :: r) p = .error (p, e) :=
  let ⟨h1, h2, h3⟩ := stepL_err h
  lexW_err h1 h2 h3
theorem stepL_len {c : UInt8} {r : List UInt8} : (∀ n, stepL (c :: r) = .pass n → 1 ≤ n ∧ n ≤ (c :: r).length) ∧ (∀ k t n len, stepL (c :: r) = .tok k t n len → 1 ≤ len ∧ len ≤ (c :: r).length) := by
  refine ⟨fun n h => ?_, fun k t n len h => tokL_len (stepL_tok h).2.2⟩
  simp only [stepL] at h
  split at h
  · next hc => injection h with h; subst h; exact ⟨span_pos hc, span_le _ _⟩
  · split at h
    · next hc =>
      obtain rfl : c = 37 := by simpa using hc
      injection h with h; subst h
      exact ⟨span_pos (by decide), span_le _ _⟩
    · exact absurd h (tokL_pass _ _)
end Go.Proofs.YtinfefmoiimomaaDoor
