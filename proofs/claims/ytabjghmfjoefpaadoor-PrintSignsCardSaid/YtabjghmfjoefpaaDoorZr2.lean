import Derived.Test.YtabjghmfjoefpaaDoorZr1
import Derived.Test.YtabjghmfjoefpaaDoorRows
import Derived.Shelf.LaysM
import Derived.Shelf.Strconv.Itoa3
import Derived.Lib.SmallJoins
import Derived.Maps.OwnOps
import Derived.Maps.OwnSet
import Derived.WalkLawsBesides
import Derived.Laws.Bits64b
namespace Go.Proofs.YtabjghmfjoefpaaDoor

/-! ### tokens of a list of bytes, in plain words -/
structure Tok where
  k : Int
  s : ByteArray
  n : Int
  p : Int
  deriving DecidableEq
def blankB (c : UInt8) : Bool := c == 32 || c == 9 || c == 10 || c == 13
def smallB (c : UInt8) : Bool := decide (97 ≤ c) && decide (c ≤ 122)
def greatB (c : UInt8) : Bool := decide (65 ≤ c) && decide (c ≤ 90) || c == 95
def digitB (c : UInt8) : Bool := decide (48 ≤ c) && decide (c ≤ 57)
def letterB (c : UInt8) : Bool := smallB c || greatB c || digitB c
def signL : List UInt8 := [43, 45, 42, 47, 92, 94, 60, 62, 61, 126, 58, 63, 64, 35, 38, 36, 46]
def signB (c : UInt8) : Bool := signL.contains c
def punctL : List UInt8 := [40, 41, 91, 93, 44, 124]
def punctB (c : UInt8) : Bool := punctL.contains c
def seenB (c : UInt8) : Bool := decide (32 ≤ c) && decide (c ≤ 126)
def notNl (c : UInt8) : Bool := !(c == 10)
def notQ (c : UInt8) : Bool := !(c == 39)
def mkB (l : List UInt8) : ByteArray := ⟨l.toArray⟩
def decN (l : List UInt8) : Nat := l.foldl (fun n c => n * 10 + (c.toNat - 48)) 0
def span (p : UInt8 → Bool) (l : List UInt8) : Nat := (l.takeWhile p).length

inductive Step where
  | pass (n : Nat)
  | tok (k : Int) (t : List UInt8) (n : Int) (len : Nat)
  | err (e : Int)
  deriving DecidableEq

def runS (k : Int) (p : UInt8 → Bool) (most : Nat) (l : List UInt8) : Step :=
  if most < span p l then .err 2 else .tok k (l.takeWhile p) 0 (span p l)
def numS (l : List UInt8) : Step :=
  if 2147483647 < decN (l.takeWhile digitB) then .err 2 else .tok 3 (l.takeWhile digitB) (decN (l.takeWhile digitB)) (span digitB l)
def quoB (r : List UInt8) : Bool := decide (span notQ r < r.length) && decide (1 ≤ span notQ r) && decide (span notQ r ≤ 12) && (r.takeWhile notQ).all seenB
def quoS (r : List UInt8) : Step := if quoB r then .tok 1 (r.takeWhile notQ) 0 (span notQ r + 2) else .err 41
def stopL : List UInt8 → Bool
  | [] => true
  | c :: _ => blankB c || c == 37
def tokL : List UInt8 → Step
  | [] => .err 0
  | c :: r =>
    if smallB c then runS 1 letterB 12 (c :: r)
    else if greatB c then runS 2 letterB 20000 (c :: r)
    else if digitB c then numS (c :: r)
    else if c == 39 then quoS r
    else if punctB c then .tok 5 [c] 0 1
    else if c == 46 && stopL r then .tok 6 [c] 0 1
    else if signB c then runS 4 signB 12 (c :: r)
    else .err 40
/-- one step of the table -/
def stepL : List UInt8 → Step
  | [] => .err 0
  | c :: r => if blankB c then .pass (span blankB (c :: r)) else if c == 37 then .pass (span notNl (c :: r)) else tokL (c :: r)

abbrev Res := Except (Nat × Int) (List Tok)
def conR (t : Tok) : Res → Res
  | .ok l => .ok (t :: l)
  | .error e => .error e
def appR (l : List Tok) : Res → Res
  | .ok m => .ok (l ++ m)
  | .error e => .error e
def lexS : Nat → Bool → List UInt8 → Nat → Res
  | _, _, [], _ => .ok []
  | 0, _, _ :: _, p => .error (p, 0)
  | f + 1, true, c :: r, p => lexS f (notNl c) r (p + 1)
  | f + 1, false, c :: r, p =>
    if blankB c then lexS f false r (p + 1)
    else if c == 37 then lexS f true r (p + 1)
    else match tokL (c :: r) with
      | .tok k t n len => conR ⟨k, mkB t, n, p⟩ (lexS f false ((c :: r).drop len) (p + len))
      | .err e => .error (p, e)
      | .pass _ => .error (p, 0)
/-- the tokens of a text from a place on; b: within a remark -/
def lexW (b : Bool) (l : List UInt8) (p : Nat) : Res := lexS l.length b l p

/-! ### how a token begins -/
theorem span_pos {p : UInt8 → Bool} {c : UInt8} {r : List UInt8} (h : p c = true) : 1 ≤ span p (c :: r) := by
  unfold span; rw [List.takeWhile_cons_of_pos h]; simp
theorem span_le (p : UInt8 → Bool) (l : List UInt8) : span p l ≤ l.length := (List.takeWhile_prefix p).length_le
theorem take_span (p : UInt8 → Bool) (l : List UInt8) : l.take (span p l) = l.takeWhile p := by
  unfold span; exact List.prefix_iff_eq_take.1 (List.takeWhile_prefix p) |>.symm
theorem drop_span (p : UInt8 → Bool) (l : List UInt8) : l.drop (span p l) = l.dropWhile p := by
  have h1 := List.takeWhile_append_dropWhile (p := p) (l := l)
  have h2 := List.take_append_drop (span p l) l
  rw [take_span] at h2
  exact List.append_cancel_left (h2.trans h1.symm)
theorem small_letter {c : UInt8} (h : smallB c = true) : letterB c = true := by simp [letterB, h]
theorem great_letter {c : UInt8} (h : greatB c = true) : letterB c = true := by simp [letterB, h]
theorem digit_letter {c : UInt8} (h : digitB c = true) : letterB c = true := by simp [letterB, h]
theorem all_u8 {p : UInt8 → Bool} (h : ∀ i : Fin 256, p (UInt8.ofFin i) = true) (c : UInt8) : p c = true := h c.toFin

/-- which token it is -/
inductive TokIs : List UInt8 → Int → List UInt8 → Int → Nat → Prop where
  | name {c : UInt8} {r : List UInt8} (h : smallB c = true) (hl : span letterB (c :: r) ≤ 12) : TokIs (c :: r) 1 ((c :: r).takeWhile letterB) 0 (span letterB (c :: r))
  | var {c : UInt8} {r : List UInt8} (h : greatB c = true) (hl : span letterB (c :: r) ≤ 20000) : TokIs (c :: r) 2 ((c :: r).takeWhile letterB) 0 (span letterB (c :: r))
  | num {c : UInt8} {r : List UInt8} (h : digitB c = true) (hl : decN ((c :: r).takeWhile digitB) ≤ 2147483647) : TokIs (c :: r) 3 ((c :: r).takeWhile digitB) (decN ((c :: r).takeWhile digitB)) (span digitB (c :: r))
  | quo {r : List UInt8} (h : quoB r = true) : TokIs (39 :: r) 1 (r.takeWhile notQ) 0 (span notQ r + 2)
  | punct {c : UInt8} {r : List UInt8} (h : punctB c = true) : TokIs (c :: r) 5 [c] 0 1
  | stop {r : List UInt8} (h : stopL r = true) : TokIs (46 :: r) 6 [46] 0 1
  | sign {c : UInt8} {r : List UInt8} (h : signB c = true) (hs : ¬ (c = 46 ∧ stopL r = true)) (hl : span signB (c :: r) ≤ 12) : TokIs (c :: r) 4 ((c :: r).takeWhile signB) 0 (span signB (c :: r))
theorem tokL_is {l : List UInt8} {k : Int} {t : List UInt8} {n : Int} {len : Nat} (h : tokL l = .tok k t n len) : TokIs l k t n len := by
  cases l with
  | nil => simp [tokL] at h
  | cons c r =>
    simp only [tokL] at h
    split at h
    · next hc =>
      unfold runS at h; split at h
      · cases h
      · next hm => injection h with h1 h2 h3 h4; subst h1 h2 h3 h4; exact .name hc (by omega)
    split at h
    · next hc =>
      unfold runS at h; split at h
      · cases h
      · next hm => injection h with h1 h2 h3 h4; subst h1 h2 h3 h4; exact .var hc (by omega)
    split at h
    · next hc =>
      unfold numS at h; split at h
      · cases h
      · next hm => injection h with h1 h2 h3 h4; subst h1 h2 h3 h4; exact .num hc (by omega)
    split at h
    · next hc =>
      obtain rfl : c = 39 := by simpa using hc
      unfold quoS at h; split at h
      · next hm => injection h with h1 h2 h3 h4; subst h1 h2 h3 h4; exact .quo hm
      · cases h
    split at h
    · next hc => injection h with h1 h2 h3 h4; subst h1 h2 h3 h4; exact .punct hc
    split at h
    · next hc =>
      simp only [Bool.and_eq_true, beq_iff_eq] at hc
      obtain ⟨rfl, hs⟩ := hc
      injection h with h1 h2 h3 h4; subst h1 h2 h3 h4; exact .stop hs
    split at h
    · next hd hc =>
      unfold runS at h; split at h
      · cases h
      · next hm => injection h with h1 h2 h3 h4; subst h1 h2 h3 h4; exact .sign hc (by simpa using hd) (by omega)
    · cases h
theorem TokIs.len_pos {l : List UInt8} {k : Int} {t : List UInt8} {n : Int} {len : Nat} (h : TokIs l k t n len) : 1 ≤ len ∧ len ≤ l.length := by
  cases h with
  | name h hl => exact ⟨span_pos (small_letter h), span_le _ _⟩
  | var h hl => exact ⟨span_pos (great_letter h), span_le _ _⟩
  | num h hl => exact ⟨span_pos h, span_le _ _⟩
  | quo h =>
    unfold quoB at h
    simp only [Bool.and_eq_true, decide_eq_true_eq] at h
    simp only [List.length_cons]
    omega
  | punct h => simp
  | stop h => simp
  | sign h hs hl => exact ⟨span_pos h, span_le _ _⟩
theorem tokL_len {l : List UInt8} {k : Int} {t : List UInt8} {n : Int} {len : Nat} (h : tokL l = .tok k t n len) : 1 ≤ len ∧ len ≤ l.length := (tokL_is h).len_pos
theorem tokL_pass (l : List UInt8) (n : Nat) : tokL l ≠ .pass n := by
  cases l with
  | nil => simp [tokL]
  | cons c r =>
    simp only [tokL, runS, numS, quoS]
    repeat' split
    all_goals simp

/-! ### the tokens of a text, step by step -/
theorem lexS_fuel : ∀ (f : Nat) (b : Bool) (l : List UInt8) (p : Nat), l.length ≤ f → lexS f b l p = lexS l.length b l p := by
  intro f
  induction f using Nat.strongRecOn with
  | _ f ih =>
    intro b l p h
    cases l with
    | nil => cases f <;> simp [lexS]
    | cons c r =>
      cases f with
      | zero => simp at h
      | succ f =>
        simp only [List.length_cons] at h ⊢
        cases b with
        | true =>
          simp only [lexS]
          rw [ih f (by omega) _ r _ (by omega)]
        | false =>
          simp only [lexS]
          split
          · rw [ih f (by omega) _ r _ (by omega)]
          split
          · rw [ih f (by omega) _ r _ (by omega)]
          cases ht : tokL (c :: r) with
          | pass n => rfl
          | err e => rfl
          | tok k t n len =>
            have hl := tokL_len ht
            simp only [List.length_cons] at hl
            simp only
            rw [ih f (by omega) _ ((c :: r).drop len) _ (by simp; omega)]
            by_cases hr : r.length = f
            · rw [hr, ih f (by omega) _ ((c :: r).drop len) _ (by simp; omega)]
            · rw [ih r.length (by omega) _ ((c :: r).drop len) _ (by simp; omega)]
theorem lexW_nil (b : Bool) (p : Nat) : lexW b [] p = .ok [] := by simp [lexW, lexS]
theorem lexW_rem {c : UInt8} {r : List UInt8} {p : Nat} : lexW true (c :: r) p = lexW (notNl c) r (p + 1) := by simp [lexW, lexS]
theorem lexW_blank {c : UInt8} {r : List UInt8} {p : Nat} (h : blankB c = true) : lexW false (c :: r) p = lexW false r (p + 1) := by simp [lexW, lexS, h]
theorem lexW_perc {r : List UInt8} {p : Nat} : lexW false (37 :: r) p = lexW true r (p + 1) := by simp [lexW, lexS, show blankB 37 = false by decide]
theorem lexW_tok {c : UInt8} {r : List UInt8} {p : Nat} {k : Int} {t : List UInt8} {n : Int} {len : Nat} (h1 : blankB c = false) (h2 : (c == 37) = false) (h : tokL (c :: r) = .tok k t n len) :
    lexW false (c :: r) p = conR ⟨k, mkB t, n, p⟩ (lexW false ((c :: r).drop len) (p + len)) := by
  have hl := tokL_len h
  simp only [List.length_cons] at hl
  simp only [lexW, lexS, List.length_cons, h1, h2, h, Bool.false_eq_true, if_false]
  rw [lexS_fuel r.length _ _ _ (by simp; omega)]
theorem lexW_err {c : UInt8} {r : List UInt8} {p : Nat} {e : Int} (h1 : blankB c = false) (h2 : (c == 37) = false) (h : tokL (c :: r) = .err e) :
    lexW false (c :: r) p = .error (p, e) := by
  simp only [lexW, lexS, List.length_cons, h1, h2, h, Bool.false_eq_true, if_false]
theorem lexW_blanks (l : List UInt8) (p : Nat) : lexW false l p = lexW false (l.drop (span blankB l)) (p + span blankB l) := by
  induction l generalizing p with
  | nil => simp [span]
  | cons c r ih =>
    by_cases h : blankB c = true
    · rw [lexW_blank h, ih, show span blankB (c :: r) = span blankB r + 1 by simp [span, h]]
      simp only [List.drop_succ_cons]
      congr 1; omega
    · simp [span, h]
theorem lexW_line (l : List UInt8) (p : Nat) : lexW true l p = lexW false (l.drop (span notNl l)) (p + span notNl l) := by
  induction l generalizing p with
  | nil => simp [lexW_nil]
  | cons c r ih =>
    by_cases h : notNl c = true
    · rw [lexW_rem, h, ih, show span notNl (c :: r) = span notNl r + 1 by simp [span, h]]
      simp only [List.drop_succ_cons]
      congr 1; omega
    · have hc : c = 10 := by simpa [notNl] using h
      subst hc
      rw [lexW_rem]
      simp only [Bool.not_eq_true] at h
      rw [h, show span notNl (10 :: r) = 0 by simp [span, h]]
      simp only [List.drop_zero, Nat.add_zero]
      rw [lexW_blank (by decide)]
theorem lexW_pass {l : List UInt8} {n p : Nat} (h : stepL l = .pass n) : lexW false l p = lexW false (l.drop n) (p + n) := by
  cases l with
  | nil => simp [stepL] at h
  | cons c r =>
    simp only [stepL] at h
    split at h
    · injection h with h; subst h; exact lexW_blanks _ _
    · split at h
      · next hc =>
        obtain rfl : c = 37 := by simpa using hc
        injection h with h; subst h
        rw [lexW_perc, lexW_line, show span notNl (37 :: r) = span notNl r + 1 by simp [span, show notNl 37 = true by decide]]
        simp only [List.drop_succ_cons]
        congr 1; omega
      · exact absurd h (tokL_pass _ _)
theorem stepL_tok {c : UInt8} {r : List UInt8} {k : Int} {t : List UInt8} {n : Int} {len : Nat} (h : stepL (c :: r) = .tok k t n len) : blankB c = false ∧ (c == 37) = false ∧ tokL (c :: r) = .tok k t n len := by
  simp only [stepL] at h
  split at h
  · cases h
  · next h1 =>
    split at h
    · cases h
    · next h2 => exact ⟨by simpa using h1, by simpa using h2, h⟩
theorem stepL_err {c : UInt8} {r : List UInt8} {e : Int} (h : stepL (c :: r) = .err e) : blankB c = false ∧ (c == 37) = false ∧ tokL (c :: r) = .err e := by
  simp only [stepL] at h
  split at h
  · cases h
  · next h1 =>
    split at h
    · cases h
    · next h2 => exact ⟨by simpa using h1, by simpa using h2, h⟩
theorem lexW_stepT {c : UInt8} {r : List UInt8} {p : Nat} {k : Int} {t : List UInt8} {n : Int} {len : Nat} (h : stepL (c :: r) = .tok k t n len) :
    lexW false (c :: r) p = conR ⟨k, mkB t, n, p⟩ (lexW false ((c :: r).drop len) (p + len)) :=
  let ⟨h1, h2, h3⟩ := stepL_tok h
  lexW_tok h1 h2 h3
theorem lexW_stepE {c : UInt8} {r : List UInt8} {p : Nat} {e : Int} (h : stepL (c :: r) = .err e) : lexW false (c :: r) p = .error (p, e) :=
  let ⟨h1, h2, h3⟩ := stepL_err h
  lexW_err h1 h2 h3
theorem stepL_len {c : UInt8} {r : List UInt8} : (∀ n, stepL (c :: r) = .pass n → 1 ≤ n ∧ n ≤ (c :: r).length) ∧ (∀ k t n len, stepL (c :: r) = .tok k t n len → 1 ≤ len ∧ len ≤ (c :: r).length) := by
  refine ⟨fun n h => ?_, fun k t n len h => tokL_len (stepL_tok h).2.2⟩
  simp only [stepL] at h
  split at h
  · next hc => injection h with h; subst h; exact ⟨span_pos hc, span_le _ _⟩
  · split at h
    · next hc =>
      obtain rfl : c = 37 := by simpa using hc
      injection h with h; subst h
      exact ⟨span_pos (by decide), span_le _ _⟩
    · exact absurd h (tokL_pass _ _)
end Go.Proofs.YtabjghmfjoefpaaDoor
namespace Go.Proofs.YtabjghmfjoefpaaDoor
open Go.RowKit

/-! ### tokens in memory -/
abbrev Tok.v (c : Tok) : Value := .agg #[.int .i64 c.k, .string c.s, .int .i64 c.n, .int .i64 c.p]
structure Tok.fit (c : Tok) : Prop where
  k1 : -9223372036854775808 ≤ c.k
  k2 : c.k ≤ 9223372036854775807
  n1 : -9223372036854775808 ≤ c.n
  n2 : c.n ≤ 9223372036854775807
  p1 : -9223372036854775808 ≤ c.p
  p2 : c.p ≤ 9223372036854775807
  s : c.s.size ≤ 9223372036854775807
structure TokAt (w : World) (b o : Nat) (c : Tok) : Prop where
  c0 : w.cell? ⟨b, o, none⟩ = some (.int .i64 c.k)
  c1 : w.cell? ⟨b, o + 1, none⟩ = some (.string c.s)
  c2 : w.cell? ⟨b, o + 2, none⟩ = some (.int .i64 c.n)
  c3 : w.cell? ⟨b, o + 3, none⟩ = some (.int .i64 c.p)
  fit : c.fit
theorem TokAt.keeps {w w' : World} {b o : Nat} {c : Tok} (h : TokAt w b o c) (hb : Keeps w w') : TokAt w' b o c :=
  ⟨hb _ _ _ h.c0, hb _ _ _ h.c1, hb _ _ _ h.c2, hb _ _ _ h.c3, h.fit⟩
instance : Rep Tok where
  sz := 4
  E := TokAt
  mono := TokAt.keeps
  lt h := cell_lt h.c0
instance : RepC Tok where
  C _ cs c := cs = [.int .i64 c.k, .string c.s, .int .i64 c.n, .int .i64 c.p] ∧ c.fit
  len := by rintro w cs c ⟨rfl, _⟩; rfl
  one := by rintro w cs c ⟨rfl, _⟩ u hu; simp at hu; rcases hu with rfl | rfl | rfl | rfl <;> rfl
  cmono := by rintro w w' cs c h _; exact h
  toE := by
    rintro w cs c b o ⟨rfl, hf⟩ hat
    exact ⟨hat 0 _ rfl, hat 1 _ rfl, hat 2 _ rfl, hat 3 _ rfl, hf⟩
  ofE := by
    rintro w c b o ⟨h0, h1, h2, h3, hf⟩
    refine ⟨_, ⟨rfl, hf⟩, fun j u hj => ?_⟩
    match j with
    | 0 => simp at hj; subst hj; exact h0
    | 1 => simp at hj; subst hj; exact h1
    | 2 => simp at hj; subst hj; exact h2
    | 3 => simp at hj; subst hj; exact h3
    | j + 4 => simp at hj
  pos := by decide

/-! ### bytes -/
theorem eqU (c d : UInt8) : ((c.toNat : Int) == (d.toNat : Int)) = (c == d) := by
  rw [Bool.eq_iff_iff]; simp only [beq_iff_eq, ← UInt8.toNat_inj]; omega
theorem leU (c d : UInt8) : decide ((c.toNat : Int) ≤ (d.toNat : Int)) = decide (c ≤ d) := by
  rw [Bool.eq_iff_iff]; simp [UInt8.le_iff_toNat_le]

/-- a function that tells bytes, and nothing else -/
abbrev Tells (f : Nat) (caps : Array Value) (p : UInt8 → Bool) (w : World) : Prop :=
  ∀ c : UInt8, Calls Tryd.prog f (#[.int .u8 (c.toNat : Int)] ++ caps) w fun e w' => e = .returned (.bool (p c)) ∧ w = w'
end Go.Proofs.YtabjghmfjoefpaaDoor
set_option linter.unusedVariables false
namespace Go.Proofs.YtabjghmfjoefpaaDoor
open Go.RowKit

/-! ### names' letters -/
theorem pSmall (c : UInt8) (w : World) : Calls Tryd.prog 83 #[.int .u8 (c.toNat : Int)] w fun e w' => e = .returned (.bool (smallB c)) ∧ w = w' := by
  have h1 : decide ((97 : Int) ≤ (c.toNat : Int)) = decide (97 ≤ c) := leU 97 c
  have h2 : decide ((c.toNat : Int) ≤ 122) = decide (c ≤ 122) := leU c 122
  have HB : Hid (smallB c = (decide (97 ≤ c) && decide (c ≤ 122))) := rfl
  cases g1 : decide (97 ≤ c) <;> cases g2 : decide (c ≤ 122) <;> rw [g1] at h1 HB <;> rw [g2] at h2 HB <;> clear g1 g2
  all_goals
    go_enter Tryd.func83, Tryd.ntmps83
    go_wp2
    go_ret
    exact ⟨ret_bool HB.out.symm, rfl⟩
theorem pSmall_lit {c : UInt8} {w : World} {b : Bool} (hb : smallB c = b) : Calls Tryd.prog 83 #[.int .u8 (c.toNat : Int)] w fun e w' => e = .returned (.bool b) ∧ w = w' := by
  subst hb; exact pSmall c w
theorem letterB_way (c : UInt8) : letterB c = (smallB c || (decide (65 ≤ c) && decide (c ≤ 90)) || (decide (48 ≤ c) && decide (c ≤ 57)) || (c == 95)) := by
  simp only [letterB, greatB, digitB]
  cases smallB c <;> cases (decide (65 ≤ c) && decide (c ≤ 90)) <;> cases (decide (48 ≤ c) && decide (c ≤ 57)) <;> cases (c == 95) <;> rfl
set_option maxHeartbeats 1000000 in
theorem pLetter (c : UInt8) (w : World) : Calls Tryd.prog 84 #[.int .u8 (c.toNat : Int)] w fun e w' => e = .returned (.bool (letterB c)) ∧ w = w' := by
  have h1 : decide ((65 : Int) ≤ (c.toNat : Int)) = decide (65 ≤ c) := leU 65 c
  have h2 : decide ((c.toNat : Int) ≤ 90) = decide (c ≤ 90) := leU c 90
  have h3 : decide ((48 : Int) ≤ (c.toNat : Int)) = decide (48 ≤ c) := leU 48 c
  have h4 : decide ((c.toNat : Int) ≤ 57) = decide (c ≤ 57) := leU c 57
  have h5 : ((c.toNat : Int) == 95) = (c == 95) := eqU c 95
  have HB : Hid (letterB c = _) := mkHid (letterB_way c)
  cases g0 : smallB c <;> rw [g0] at HB <;> have H0 := mkHid g0 <;> clear g0
  · cases g1 : decide (65 ≤ c) <;> cases g2 : decide (c ≤ 90) <;> cases g3 : decide (48 ≤ c) <;> cases g4 : decide (c ≤ 57) <;> cases g5 : (c == 95) <;> rw [g1] at h1 HB <;> rw [g2] at h2 HB <;> rw [g3] at h3 HB <;> rw [g4] at h4 HB <;> rw [g5] at h5 HB <;> clear g1 g2 g3 g4 g5
    all_goals
      go_enter Tryd.func84, Tryd.ntmps84
      go_wp2_with fail
      refine (pSmall_lit H0.out).mono ?_; rintro e w' ⟨rfl, rfl⟩
      go_wp2
      go_ret
      exact ⟨ret_bool HB.out.symm, rfl⟩
  · have HB' : Hid (letterB c = true) := mkHid (by rw [HB.out]; simp)
    clear h1 h2 h3 h4 h5 HB
    go_enter Tryd.func84, Tryd.ntmps84
    go_wp2_with fail
    refine (pSmall_lit H0.out).mono ?_; rintro e w' ⟨rfl, rfl⟩
    go_wp2
    go_ret
    exact ⟨ret_bool HB'.out.symm, rfl⟩
theorem pLetter_lit {c : UInt8} {w : World} {b : Bool} (hb : letterB c = b) : Calls Tryd.prog 84 #[.int .u8 (c.toNat : Int)] w fun e w' => e = .returned (.bool b) ∧ w = w' := by
  subst hb; exact pLetter c w

/-- can a name stand without quotes? -/
def bareB : List UInt8 → Bool
  | [] => false
  | c :: r => smallB c && (c :: r).all letterB

end Go.Proofs.YtabjghmfjoefpaaDoor
namespace Go.Proofs.YtabjghmfjoefpaaDoor
open Go.RowKit

theorem take_snocB (s : ByteArray) (k : Nat) (h : k < s.size) : s.data.toList.take (k + 1) = s.data.toList.take k ++ [s[k]] := by
  rw [List.take_succ_eq_append_getElem (by simpa using h)]; rfl
theorem size_list (s : ByteArray) : s.data.toList.length = s.size := by simp
theorem drop_consB (s : ByteArray) (k : Nat) (h : k < s.size) : s.data.toList.drop k = s[k] :: s.data.toList.drop (k + 1) := by
  rw [List.drop_eq_getElem_cons (by simpa using h)]; rfl
theorem span_stop {p : UInt8 → Bool} {l r : List UInt8} {c : UInt8} {k : Nat} (h : (l.take k).all p = true) (hd : l.drop k = c :: r) (hc : p c = false) : span p l = k := by
  have hk : k < l.length := by
    rcases Nat.lt_or_ge k l.length with h | h
    · exact h
    · rw [List.drop_of_length_le h] at hd; cases hd
  have e : l = l.take k ++ c :: r := by rw [← hd, List.take_append_drop]
  unfold span
  rw [e, List.takeWhile_append_of_pos (by simpa using h)]
  simp [hc]
  omega
theorem span_all {p : UInt8 → Bool} {l : List UInt8} (h : l.all p = true) : span p l = l.length := by
  unfold span
  have := List.takeWhile_append_of_pos (p := p) (l₁ := l) (l₂ := []) (by simpa using h)
  simp at this
  rw [this]
theorem all_snocB {p : UInt8 → Bool} (s : ByteArray) (k : Nat) (h : k < s.size) (h1 : (s.data.toList.take k).all p = true) (hb : p s[k] = true) : (s.data.toList.take (k + 1)).all p = true := by
  rw [take_snocB s k h, List.all_append, h1]; simp [hb]

/-- a function of the program, which a value may name -/
def Enters (F : Nat) : Prop := ∀ (args : Array Value) (w : World), (callFunc F args).run Tryd.prog w = .ok (.enter F args) w
end Go.Proofs.YtabjghmfjoefpaaDoor
set_option linter.unusedVariables false
namespace Go.Proofs.YtabjghmfjoefpaaDoor
open Go.RowKit

theorem toList_length (s : ByteArray) : s.toList.length = s.size := by
  rw [ByteArray.toList_eq]; simp
theorem bareB_cons {s : ByteArray} (h : 0 < s.size) : bareB s.data.toList = (smallB s[0] && s.data.toList.all letterB) := by
  have e : s.data.toList = s[0] :: s.data.toList.tail := by
    have h' : 0 < s.data.toList.length := by simpa using h
    cases hl : s.data.toList with
    | nil => rw [hl] at h'; cases h'
    | cons c r =>
      have : s[0] = c := by
        have : s.data.toList[0]'h' = c := by simp [hl]
        rw [← this]; simp [ByteArray.getElem_eq_getElem_data]
      rw [this]; rfl
  generalize s[0] = c at e ⊢
  rw [e]; rfl
theorem all_takeS (s : ByteArray) (k : Nat) (hlt : k < s.size) (p : UInt8 → Bool) : (s.data.toList.take (k + 1)).all p = ((s.data.toList.take k).all p && p s[k]) := by
  rw [take_snocB s k hlt, List.all_append]; simp

set_option maxHeartbeats 1000000 in
theorem bare_any (s : ByteArray) (w : World) (hs : s.size ≤ 1000000) : Calls Tryd.prog 59 #[.string s] w fun e w' => e = .returned (.bool (bareB s.data.toList)) ∧ w = w' := by
  by_cases h0 : s.size = 0
  · have e : s = ⟨#[]⟩ := by
      apply ByteArray.ext
      exact Array.eq_empty_of_size_eq_zero h0
    subst e
    clear h0 hs
    go_enter Tryd.func59, Tryd.ntmps59
    go_wp2
    go_ret
    exact ⟨rfl, rfl⟩
  · have h0' : 0 < s.size := by omega
    have hne : s.toList.isEmpty = false := by
      cases hb : s.toList with
      | nil => have := toList_length s; rw [hb] at this; exact absurd this.symm h0
      | cons _ _ => rfl
    have HB := mkHid (bareB_cons h0')
    clear h0
    cases g0 : smallB s[0] with
    | false =>
      rw [g0] at HB
      have H0 := mkHid g0
      clear g0
      go_enter Tryd.func59, Tryd.ntmps59
      go_wp2_with fail
      refine (pSmall_lit H0.out).mono ?_; rintro e w' ⟨rfl, rfl⟩
      go_wp2
      go_ret
      exact ⟨ret_bool HB.out.symm, rfl⟩
    | true =>
      rw [g0] at HB
      have H0 := mkHid g0
      clear g0
      go_enter Tryd.func59, Tryd.ntmps59
      go_wp2_with fail
      refine (pSmall_lit H0.out).mono ?_; rintro e w' ⟨rfl, rfl⟩
      clear H0
      go_wp2
      go_loop [14] (fun i => ∃ k : Nat, k ≤ s.size ∧ i = .int .i64 k ∧ Hid ((s.data.toList.take k).all letterB = true)) (fun i => s.size - (intOf i).toNat)
      case atStart => exact ⟨0, Nat.zero_le _, rfl, mkHid (by simp)⟩
      case round =>
        obtain ⟨k, hk, rfl, HA⟩ := hrel
        by_cases hlt : k < s.size
        · cases hc : letterB s[k] with
          | false =>
            have HN : Hid (bareB s.data.toList = false) := by
              rw [Hid, HB.out, Bool.true_and]
              rw [List.all_eq_false]
              refine ⟨s[k], ?_, by simpa using hc⟩
              simp [ByteArray.getElem_eq_getElem_data]
            have HC := mkHid hc
            clear hc HA HB
            go_wp2_with fail
            refine (pLetter_lit HC.out).mono ?_; rintro e w' ⟨rfl, rfl⟩
            go_wp2
            go_ret
            exact ⟨ret_bool HN.out.symm, rfl⟩
          | true =>
            have HN : Hid ((s.data.toList.take (k + 1)).all letterB = true) := by
              rw [Hid, all_takeS s k hlt, HA.out, hc]; rfl
            have HC := mkHid hc
            clear hc HA
            go_wp2_with fail
            refine (pLetter_lit HC.out).mono ?_; rintro e w' ⟨rfl, rfl⟩
            go_wp2
            go_round
            case rel => exact ⟨k + 1, by omega, by go_num, HN⟩
            case measure => simp [intOf]; omega
        · have HN : Hid (bareB s.data.toList = true) := by
            have h := HA.out
            rw [List.take_of_length_le (by simp; omega)] at h
            rw [Hid, HB.out, h]; rfl
          clear HA HB
          go_wp2
          go_ret
          exact ⟨ret_bool HN.out.symm, rfl⟩
end Go.Proofs.YtabjghmfjoefpaaDoor
set_option linter.unusedVariables false
namespace Go.Proofs.YtabjghmfjoefpaaDoor
open Go.RowKit

/-- a name's letters -/
def nameL (s : List UInt8) : List UInt8 := if bareB s then s else 39 :: s ++ [39]
theorem lenS (s : ByteArray) : s.data.toList.length = s.size := by simp

set_option maxHeartbeats 1000000 in
/-- name: the letters more -/
theorem name_w (b : Nat) (g : Option Nat) (l : List UInt8) (s : ByteArray) (w : World) (h : Wr b g l w) (hs : s.size ≤ 1000000) (hlen : l.length + s.size + 2 ≤ 140737488355328) :
    Calls Tryd.prog 42 #[.pointer (some ⟨b, 0, none⟩), .string s] w fun e w' => e = .returned (.tuple #[]) ∧ Wrote b g (l ++ nameL s.data.toList) w w' := by
  have HW := mkHid h
  clear h
  cases hb : bareB s.data.toList with
  | true =>
    have HB : Hid (nameL s.data.toList = s.data.toList) := by rw [Hid, nameL, if_pos hb]
    have HE := mkHid hb
    clear hb
    go_enter Tryd.func42, Tryd.ntmps42
    go_wp2_with fail
    refine (bare_any s _ hs).mono ?_; rintro e w' ⟨rfl, rfl⟩; rw [HE.out]
    go_wp2_with fail
    refine (string_w b g l s _ HW.out (by omega)).mono ?_; rintro e w1 ⟨rfl, hw1⟩
    have H1 := mkHid hw1
    clear hw1
    go_wp2
    refine bodyPost_ret (v := .tuple #[]) (by simp [results, Tryd.results42, go_sem]) rfl ⟨rfl, ?_⟩
    rw [HB.out]; exact H1.out
  | false =>
    have HB : Hid (nameL s.data.toList = 39 :: s.data.toList ++ [39]) := by rw [Hid, nameL, if_neg (by rw [hb]; decide)]
    have HE := mkHid hb
    have HS : Hid (s.data.toList.length = s.size) := mkHid (lenS s)
    clear hb
    go_enter Tryd.func42, Tryd.ntmps42
    go_wp2_with fail
    refine (bare_any s _ hs).mono ?_; rintro e w' ⟨rfl, rfl⟩; rw [HE.out]
    go_wp2_with fail
    refine (byte_w b g l 39 _ HW.out (by omega)).mono ?_; rintro e w1 ⟨rfl, g1, hw1, hf1, hn1⟩
    have A1 := mkHid hw1
    have B1 := mkHid hf1
    have C1 := mkHid hn1
    clear hw1 hf1 hn1
    go_wp2_with fail
    refine (string_w b g1 (l ++ [39]) s _ A1.out (by simp; omega)).mono ?_; rintro e w2 ⟨rfl, g2, hw2, hf2, hn2⟩
    have A2 := mkHid hw2
    have B2 := mkHid hf2
    have C2 := mkHid hn2
    clear hw2 hf2 hn2
    go_wp2_with fail
    refine (byte_w b g2 (l ++ [39] ++ s.data.toList) 39 _ A2.out (by have := HS.out; simp; omega)).mono ?_; rintro e w3 ⟨rfl, hw3⟩
    have H3 := mkHid hw3
    clear hw3
    go_wp2
    go_end0
    refine ⟨rfl, ?_⟩
    exact Wrote.on B1.out C1.out (Wrote.on B2.out C2.out (H3.out.as (by rw [HB.out]; simp)))
end Go.Proofs.YtabjghmfjoefpaaDoor
namespace Go.Proofs.YtabjghmfjoefpaaDoor
open Go.Shelf
def Tryd.laysM171_ren : Go.Shelf.Ren := ⟨fun | 171 => 60 | 243 => 85 | 246 => 97 | 283 => 106 | 284 => 107 | 285 => 108 | 286 => 109 | 129 => 111 | 317 => 110 | 318 => 112 | 319 => 113 | 320 => 114 | 337 => 115 | 338 => 116 | n => n, fun | 3 => 3 | 9 => 9 | 2 => 2 | 4 => 4 | 171 => 129 | 0 => 0 | 53 => 130 | 37 => 66 | 5 => 5 | 173 => 133 | 212 => 136 | 51 => 137 | 20 => 20 | 213 => 138 | 46 => 140 | 232 => 143 | 233 => 144 | n => n, fun | 17 => 0 | 18 => 1 | 19 => 2 | n => n⟩
theorem Tryd.laysM171 : Go.Proofs.LaysM.n171 Tryd.prog Tryd.laysM171_ren := {
  mixed := by kernel_rfl
  f129 := Tryd.func111.trans (congrArg some (by kernel_rfl))
  f171 := Tryd.func60.trans (congrArg some (by kernel_rfl))
  f243 := Tryd.func85.trans (congrArg some (by kernel_rfl))
  f246 := Tryd.func97.trans (congrArg some (by kernel_rfl))
  f283 := Tryd.func106.trans (congrArg some (by kernel_rfl))
  f284 := Tryd.func107.trans (congrArg some (by kernel_rfl))
  f285 := Tryd.func108.trans (congrArg some (by kernel_rfl))
  f286 := Tryd.func109.trans (congrArg some (by kernel_rfl))
  f317 := Tryd.func110.trans (congrArg some (by kernel_rfl))
  f318 := Tryd.func112.trans (congrArg some (by kernel_rfl))
  f319 := Tryd.func113.trans (congrArg some (by kernel_rfl))
  f320 := Tryd.func114.trans (congrArg some (by kernel_rfl))
  f337 := Tryd.func115.trans (congrArg some (by kernel_rfl))
  f338 := Tryd.func116.trans (congrArg some (by kernel_rfl))
  t0 := Tryd.underlying0
  a0 := Tryd.isAgg0
  z0 := Tryd.sizeOf0
  v0 := Tryd.zeroValue0
  t2 := Tryd.underlying2
  a2 := Tryd.isAgg2
  z2 := Tryd.sizeOf2
  v2 := Tryd.zeroValue2
  t3 := Tryd.underlying3
  a3 := Tryd.isAgg3
  z3 := Tryd.sizeOf3
  v3 := Tryd.zeroValue3
  t4 := Tryd.underlying4
  a4 := Tryd.isAgg4
  z4 := Tryd.sizeOf4
  v4 := Tryd.zeroValue4
  t5 := Tryd.underlying5
  a5 := Tryd.isAgg5
  z5 := Tryd.sizeOf5
  v5 := Tryd.zeroValue5
  t9 := Tryd.underlying9
  a9 := Tryd.isAgg9
  z9 := Tryd.sizeOf9
  v9 := Tryd.zeroValue9
  t20 := Tryd.underlying20
  a20 := Tryd.isAgg20
  z20 := Tryd.sizeOf20
  v20 := Tryd.zeroValue20
  t37 := Tryd.underlying66
  a37 := Tryd.isAgg66
  z37 := Tryd.sizeOf66
  v37 := Tryd.zeroValue66
  t46 := Tryd.underlying140
  a46 := Tryd.isAgg140
  z46 := Tryd.sizeOf140
  v46 := Tryd.zeroValue140
  t51 := Tryd.underlying137
  a51 := Tryd.isAgg137
  z51 := Tryd.sizeOf137
  v51 := Tryd.zeroValue137
  t53 := Tryd.underlying130
  a53 := Tryd.isAgg130
  z53 := Tryd.sizeOf130
  v53 := Tryd.zeroValue130
  t171 := Tryd.underlying129
  a171 := Tryd.isAgg129
  z171 := Tryd.sizeOf129
  v171 := Tryd.zeroValue129
  t173 := Tryd.underlying133
  a173 := Tryd.isAgg133
  z173 := Tryd.sizeOf133
  v173 := Tryd.zeroValue133
  t212 := Tryd.underlying136
  a212 := Tryd.isAgg136
  z212 := Tryd.sizeOf136
  v212 := Tryd.zeroValue136
  t213 := Tryd.underlying138
  a213 := Tryd.isAgg138
  z213 := Tryd.sizeOf138
  t232 := Tryd.underlying143
  a232 := Tryd.isAgg143
  z232 := Tryd.sizeOf143
  v232 := Tryd.zeroValue143
  t233 := Tryd.underlying144
  a233 := Tryd.isAgg144
  z233 := Tryd.sizeOf144
  v233 := Tryd.zeroValue144
  g17 := by kernel_rfl
  g18 := by kernel_rfl
  g19 := by kernel_rfl
  i0 := by kernel_rfl
  i2 := by kernel_rfl
  i3 := by kernel_rfl
  i4 := by kernel_rfl
  i5 := by kernel_rfl
  i9 := by kernel_rfl
  i20 := by kernel_rfl
  i37 := by kernel_rfl
  i46 := by kernel_rfl
  i51 := by kernel_rfl
  i53 := by kernel_rfl
  i171 := by kernel_rfl
  i173 := by kernel_rfl
  i212 := by kernel_rfl
  i232 := by kernel_rfl
  i233 := by kernel_rfl
  m17 := by kernel_rfl
  m18 := by kernel_rfl
  m19 := by kernel_rfl }
end Go.Proofs.YtabjghmfjoefpaaDoor
set_option linter.unusedVariables false
namespace Go.Proofs.YtabjghmfjoefpaaDoor
open Go.RowKit Go.Sort

/-- the library's table of powers of ten stands -/
abbrev Pow (w : World) : Prop := Lib.TabIs Tryd.prog w "internal/strconv.uint64pow10" .u64 Lib.pow10Tab
theorem pow_g : Tryd.prog.globalNamed "internal/strconv.uint64pow10" = some 0 := by kernel_rfl
theorem below_grow (w : World) (k : Nat) (os : Array Obj) : Below w.heap.size w (grow (w.drewN k) os) :=
  ⟨rfl, rfl, rfl, by simp [grow], fun a ha => by simp [grow, Array.getElem?_append, ha]⟩
theorem itoa_any (n : Int) (h0 : -9223372036854775808 ≤ n) (h1 : n ≤ 9223372036854775807) (w : World) (hp : Pow w) :
    Calls Tryd.prog 60 #[.int .i64 n] w fun e w' => e = .returned (.string ⟨(Lib.itoa n).toArray⟩) ∧ Below w.heap.size w w' := by
  refine (Any.strconv_Itoa Tryd.laysM171 n h0 h1 w hp).mono ?_
  rintro e w' ⟨rfl, k, os, rfl⟩
  exact ⟨rfl, below_grow w k os⟩

/-- the table stands below B -/
def PowAt (B : Nat) (w : World) : Prop := ∃ w0 : World, Pow w0 ∧ w0.heap.size ≤ B ∧ B ≤ w.heap.size ∧ Below w0.heap.size w0 w
theorem PowAt.pow {B : Nat} {w : World} (h : PowAt B w) : Pow w := by
  obtain ⟨w0, h0, _, _, hb⟩ := h
  exact Joins.tab_stays pow_g h0 hb (Nat.le_refl _)
theorem PowAt.fr {B : Nat} {us : List Nat} {w w' : World} (h : PowAt B w) (hf : Fr us w w') (hu : ∀ k ∈ us, B ≤ k) : PowAt B w' := by
  obtain ⟨w0, h0, h1, h2, hb⟩ := h
  have := hf.size
  exact ⟨w0, h0, h1, by omega, hb.trans (hf.below (B := w0.heap.size) (by omega) (fun k hk => by have := hu k hk; omega))⟩
theorem PowAt.below {B : Nat} {w w' : World} (h : PowAt B w) (hf : Below w.heap.size w w') : PowAt B w' := h.fr (us := []) (Fr.of hf) (by simp)
theorem PowAt.up {B B' : Nat} {w : World} (h : PowAt B w) (h1 : B ≤ B') (h2 : B' ≤ w.heap.size) : PowAt B' w := by
  obtain ⟨w0, h0, h3, h4, hb⟩ := h
  exact ⟨w0, h0, by omega, h2, hb⟩
theorem Pow.at {w : World} (h : Pow w) : PowAt w.heap.size w := ⟨w, h, Nat.le_refl _, Nat.le_refl _, Below.refl _ _⟩

/-- a variable's letters -/
def varL (n : Nat) : List UInt8 := UInt8.ofNat (65 + n % 26) :: (if n < 26 then [] else Lib.decDigits (n / 26))

theorem itoa_nat (n : Nat) : Lib.itoa ((n : Int) / 26) = Lib.decDigits (n / 26) := by
  have h : ¬ ((n : Int) / 26 < 0) := by omega
  rw [Lib.itoa, if_neg h]
  congr 1
theorem varL_small {n : Nat} (h : n < 26) : varL n = [UInt8.ofNat (65 + n % 26)] := by rw [varL, if_pos h]
theorem varL_great {n : Nat} (h : ¬ n < 26) : varL n = UInt8.ofNat (65 + n % 26) :: Lib.decDigits (n / 26) := by rw [varL, if_neg h]
set_option maxHeartbeats 1000000 in
theorem variable_w (B b : Nat) (g : Option Nat) (l : List UInt8) (n : Nat) (w : World) (h : Wr b g l w) (hp : PowAt B w) (hb : B ≤ b) (hg : ∀ k, g = some k → B ≤ k) (hn : n ≤ 1000000) (hlen : l.length + (varL n).length ≤ 140737488355328) :
    Calls Tryd.prog 43 #[.pointer (some ⟨b, 0, none⟩), .int .i64 (n : Int)] w fun e w' => e = .returned (.tuple #[]) ∧ Wrote b g (l ++ varL n) w w' := by
  have HW := mkHid h
  have HP := mkHid hp
  have HG := mkHid hg
  have HL := mkHid hlen
  have hc : ((UInt8.ofNat (65 + n % 26)).toNat : Int) = 65 + (n : Int) % 26 := by
    rw [UInt8.toNat_ofNat']; omega
  have hl1 : l.length + 1 ≤ 140737488355328 := by
    have : 1 ≤ (varL n).length := by simp [varL]
    omega
  have h1 := byte_w b g l (UInt8.ofNat (65 + n % 26)) w h hl1
  rw [hc] at h1
  have H1 := mkHid h1
  clear h hp hg hc h1 hl1 hlen
  by_cases hs : n < 26
  · have HV := mkHid (varL_small hs)
    go_enter Tryd.func43, Tryd.ntmps43
    go_wp2_with fail
    refine H1.out.mono ?_; rintro e w1 ⟨rfl, hw1⟩
    have A1 := mkHid hw1
    clear hw1
    go_wp2
    go_end0
    exact ⟨rfl, by rw [HV.out]; exact A1.out⟩
  · have HV := mkHid (varL_great hs)
    have HQ : Hid (IntKind.i64.wrap ((n : Int) / 26) = (n : Int) / 26) := mkHid (IntWalk.i64_in _ (by omega))
    have HI : Hid (∀ W, PowAt B W → Calls Tryd.prog 60 #[.int .i64 ((n : Int) / 26)] W fun e w' => e = .returned (.string ⟨(Lib.decDigits (n / 26)).toArray⟩) ∧ Below W.heap.size W w') := mkHid fun W hW => by
      have h := itoa_any ((n : Int) / 26) (by omega) (by omega) W hW.pow
      rw [itoa_nat] at h
      exact h
    go_enter Tryd.func43, Tryd.ntmps43
    go_wp2_with fail
    refine H1.out.mono ?_; rintro e w1 ⟨rfl, g1, hw1, hf1, hn1⟩
    have hu : ∀ k ∈ wus b g, B ≤ k := by
      intro k hk
      rcases mem_wus.1 hk with rfl | hk
      · exact hb
      · exact HG.out k hk
    have P1 := mkHid (HP.out.fr hf1 hu)
    have A1 := mkHid hw1
    have B1 := mkHid hf1
    have C1 := mkHid hn1
    clear hw1 hf1 hn1 hu
    have mixed : Tryd.prog.follows Departure.mixedOrders = true := by kernel_rfl
    have P1' := mkHid (P1.out.below (Below.refl _ _).drew)
    have A1' := mkHid A1.out.drew
    have HS : Hid ((l ++ [UInt8.ofNat (65 + n % 26)]).length + (⟨(Lib.decDigits (n / 26)).toArray⟩ : ByteArray).size ≤ 140737488355328) := by
      have := HL.out
      rw [HV.out] at this
      rw [Hid, ← lenS]
      simp at this ⊢
      omega
    go_wp2
    go_region_with (first
      | (go_at_call 60; rw [HQ.out]; refine (HI.out _ P1'.out).mono ?_; rintro e w2 ⟨rfl, hb2⟩; have B2 := mkHid hb2; clear hb2)
      | (go_at_call 52; refine (string_w b g1 _ _ _ (A1'.out.below B2.out) HS.out).mono ?_; rintro e w3 ⟨rfl, hw3⟩; have A3 := mkHid hw3; clear hw3))
    all_goals
      go_wp2
      go_end0
      refine ⟨rfl, ?_⟩
      have hlt : ∀ k, g1 = some k → k < w1.heap.size := A1.out.ltg
      refine Wrote.on B1.out C1.out (Wrote.as (Wrote.after (Below.refl _ _).drew (Wrote.after B2.out A3.out hlt) hlt) ?_)
      rw [HV.out]; simp
end Go.Proofs.YtabjghmfjoefpaaDoor
set_option linter.unusedVariables false
namespace Go.Proofs.YtabjghmfjoefpaaDoor
open Go.RowKit

/-- the writer that a call begins with -/
abbrev w0 (w : World) : World := w.alloc (.cells #[.pointer none, .slice none 0 0] 70)
theorem bad_none {B : Nat} : ∀ k, (none : Option Nat) = some k → B ≤ k := fun k e => by cases e
/-- what a new writer has written is the call's own -/
theorem new_own {w w' : World} {l : List UInt8} {b : Nat} (hb : b = w.heap.size) (h : Wrote b none l (w0 w) w') : ∃ g, Wr b g l w' ∧ (∀ k, g = some k → w.heap.size ≤ k) ∧ Below w.heap.size w w' := by
  obtain ⟨g, h1, h2, h3⟩ := h
  have e : (w0 w).heap.size = w.heap.size + 1 := World.size_alloc _ _
  refine ⟨g, h1, fun k hk => ?_, ?_⟩
  · rcases h3 k hk with e' | e'
    · cases e'
    · omega
  · exact ((Below.refl _ _).new _).trans (h2.below (B := w.heap.size) (by omega) (by intro k hk; rcases mem_wus.1 hk with rfl | hk; omega; cases hk))

set_option maxHeartbeats 1000000 in
theorem quote_any (s : ByteArray) (w : World) (hs : s.size ≤ 1000000) :
    Calls Tryd.prog 20 #[.string s] w fun e w' => e = .returned (.string ⟨(nameL s.data.toList).toArray⟩) ∧ Below w.heap.size w w' := by
  have HW := mkHid (Wr.new w)
  go_enter Tryd.func20, Tryd.ntmps20
  go_wp2_with fail
  refine (name_w _ none [] s _ HW.out hs (by simp; omega)).mono ?_; rintro e w1 ⟨rfl, hw1⟩
  obtain ⟨g, h1, h2, h3⟩ := new_own rfl hw1
  have A1 := mkHid h1
  have A2 := mkHid h2
  have A3 := mkHid h3
  clear h1 h2 h3 hw1
  go_wp2_with fail
  refine (str_w w.heap.size w.heap.size g _ _ A1.out (Nat.le_refl _) A2.out A3.out.size).mono ?_; rintro e w2 ⟨rfl, hb2⟩
  have A4 := mkHid hb2
  clear hb2
  go_wp2
  go_ret
  exact ⟨rfl, A3.out.trans A4.out⟩

theorem nDig_le {u : Nat} (h : u < 18446744073709551616) : Lib.nDigits u ≤ 20 := by
  by_cases h1 : 1 ≤ u
  · have := Lib.numDigits_eq u h1 h; split at this <;> omega
  · rw [Lib.nDigits_small (by omega)]; omega
set_option maxHeartbeats 1000000 in
theorem varName_any (n : Nat) (w : World) (hn : n ≤ 1000000) (hp : Pow w) :
    Calls Tryd.prog 22 #[.int .i64 (n : Int)] w fun e w' => e = .returned (.string ⟨(varL n).toArray⟩) ∧ Below w.heap.size w w' := by
  have HW := mkHid (Wr.new w)
  have HP : Hid (PowAt w.heap.size (w0 w)) := mkHid (hp.at.below ((Below.refl _ _).new _))
  have hl : ([] : List UInt8).length + (varL n).length ≤ 140737488355328 := by
    have : (Lib.decDigits (n / 26)).length ≤ 20 := by rw [Lib.decDigits_length]; exact nDig_le (by omega)
    rw [varL]; split <;> simp <;> omega
  have HL := mkHid hl
  clear hp hl
  go_enter Tryd.func22, Tryd.ntmps22
  go_wp2_with fail
  refine (variable_w w.heap.size _ none [] n _ HW.out HP.out (Nat.le_refl _) bad_none hn HL.out).mono ?_; rintro e w1 ⟨rfl, hw1⟩
  obtain ⟨g, h1, h2, h3⟩ := new_own rfl hw1
  have A1 := mkHid h1
  have A2 := mkHid h2
  have A3 := mkHid h3
  clear h1 h2 h3 hw1
  go_wp2_with fail
  refine (str_w w.heap.size w.heap.size g _ _ A1.out (Nat.le_refl _) A2.out A3.out.size).mono ?_; rintro e w2 ⟨rfl, hb2⟩
  have A4 := mkHid hb2
  clear hb2
  go_wp2
  go_ret
  exact ⟨rfl, A3.out.trans A4.out⟩
end Go.Proofs.YtabjghmfjoefpaaDoor
set_option linter.unusedVariables false
namespace Go.Proofs.YtabjghmfjoefpaaDoor
open Go.RowKit

/-- print.fun: a Fun's cell -/
theorem pfun_any (s : ByteArray) (n : Int) (w : World) :
    Calls Tryd.prog 79 #[.string s, .int .i64 n] w fun e w' => e = .returned (.agg #[.int .i64 3, .string s, .int .i64 n]) ∧ Below w.heap.size w w' := by
  go_enter Tryd.func79, Tryd.ntmps79
  go_wp2
  refine bodyPost_ret (v := .agg #[.int .i64 3, .string s, .int .i64 n]) (by simp [results, Tryd.results79, go_sem]) rfl ⟨rfl, ?_⟩
  exact (Below.refl _ _).new _

/-- a name that stands between two arguments -/
def signs : List (List UInt8) := [[61], [60], [43], [45], [42]]
def infixB (c : Cel) : Bool := signs.contains c.s.data.toList && decide (c.n = 2)
theorem infixB_way (c : Cel) : infixB c = ((c.s.toList == [61] || c.s.toList == [60] || c.s.toList == [43] || c.s.toList == [45] || c.s.toList == [42]) && (c.n == 2)) := by
  rw [infixB, ByteArray.toList_eq, Bool.eq_iff_iff]
  simp [signs, or_assoc]
theorem infix_any (c : Cel) (w : World) :
    Calls Tryd.prog 76 #[c.v] w fun e w' => e = .returned (.bool (infixB c)) ∧ Below w.heap.size w w' := by
  have HB := mkHid (infixB_way c)
  obtain ⟨k, s, n⟩ := c
  dsimp only at HB
  cases h1 : (s.toList == [61]) <;> cases h2 : (s.toList == [60]) <;> cases h3 : (s.toList == [43]) <;> cases h4 : (s.toList == [45]) <;> cases h5 : (s.toList == [42]) <;> rw [h1, h2, h3, h4, h5] at HB
  all_goals
    go_enter Tryd.func76, Tryd.ntmps76
    go_wp2
    go_ret
    exact ⟨by rw [HB.out]; rfl, (Below.refl _ _).new _⟩

set_option maxHeartbeats 400000 in
/-- two cells, are they the same? -/
theorem run_eql_cel (x y : Cel) (w : World) : (binOp .eql 62 (.agg #[.int .i64 x.k, .string x.s, .int .i64 x.n]) (.agg #[.int .i64 y.k, .string y.s, .int .i64 y.n])).run Tryd.prog w = .ok (.bool (decide (x = y))) w := by
  by_cases h1 : x.k = y.k
  · by_cases h2 : x.s = y.s
    · by_cases h3 : x.n = y.n
      · go_simp
        exact (Cel.eq_iff x y).2 ⟨h1, h2, h3⟩
      · have h4 : ¬ x = y := fun e => h3 (by rw [e])
        have h5 : (x.n == y.n) = false := by simp [h3]
        go_simp
    · have h4 : ¬ x = y := fun e => h2 (by rw [e])
      have h5 : (x.s.toList == y.s.toList) = false := by simp [toList_inj, h2]
      go_simp
  · have h4 : ¬ x = y := fun e => h1 (by rw [e])
    have h5 : (x.k == y.k) = false := by simp [h1]
    go_simp
end Go.Proofs.YtabjghmfjoefpaaDoor
namespace Go.Proofs.YtabjghmfjoefpaaDoor
open Go.RowKit

theorem sk_pos {m : Nat} {l r : List Cel} (h : sk (m + 1) l = some r) : r.length < l.length := by
  cases l with
  | nil => simp [sk] at h
  | cons c l =>
    simp only [sk] at h
    split at h
    · have := (sk_suffix _ _ _ h).1; simp; omega
    · cases h
theorem right_sk {xs : List Cel} (h : rightB xs = true) : ∃ c l, xs = c :: l ∧ cellOk c = true ∧ sk (ar c) l = some [] ∧ xs.length ≤ 200 := by
  simp only [rightB, Bool.and_eq_true, decide_eq_true_eq] at h
  obtain ⟨h1, h2⟩ := h
  cases xs with
  | nil => simp [endI, sk] at h2
  | cons c l =>
    refine ⟨c, l, rfl, ?_⟩
    unfold endI at h2
    rw [List.drop_zero] at h2
    have hs : sk 1 (c :: l) = if cellOk c then sk (0 + ar c) l else none := rfl
    rw [hs] at h2
    by_cases hc : cellOk c = true
    · rw [if_pos hc, Nat.zero_add] at h2
      cases hr : sk (ar c) l with
      | none => rw [hr] at h2; simp at h2; omega
      | some r =>
        rw [hr] at h2
        simp only at h2
        have : r.length = 0 := by omega
        exact ⟨hc, by rw [List.eq_nil_of_length_eq_zero this], by omega⟩
    · rw [if_neg hc] at h2; simp at h2; omega
theorem right_of_sk {c : Cel} {l : List Cel} (hc : cellOk c = true) (h : sk (ar c) l = some []) (hl : (c :: l).length ≤ 200) : rightB (c :: l) = true := by
  simp only [rightB, Bool.and_eq_true, decide_eq_true_eq]
  refine ⟨by omega, ?_⟩
  unfold endI
  rw [List.drop_zero]
  have hs : sk 1 (c :: l) = if cellOk c then sk (0 + ar c) l else none := rfl
  rw [hs, if_pos hc, Nat.zero_add, h]; simp

def ar0 : List Cel → Nat
  | [] => 0
  | c :: _ => ar c
/-- where the j-th argument begins -/
def aN (xs : List Cel) (j : Nat) : Nat := (afterI xs 1 j).toNat
def partJ (xs : List Cel) (j : Nat) : List Cel := (xs.drop (aN xs j)).take (aN xs (j + 1) - aN xs j)
def partsL (xs : List Cel) : List (List Cel) := (List.range (ar0 xs)).map (partJ xs)

theorem right_after {xs : List Cel} (h : rightB xs = true) {j : Nat} (hj : j ≤ ar0 xs) : afterI xs 1 j = aN xs j ∧ 1 ≤ aN xs j ∧ aN xs j ≤ xs.length ∧ sk j (xs.drop 1) = some (xs.drop (aN xs j)) := by
  obtain ⟨c, l, rfl, hc, hs, hl⟩ := right_sk h
  simp only [ar0] at hj
  have h1 : sk (j + (ar c - j)) l = some [] := by rw [show j + (ar c - j) = ar c by omega]; exact hs
  rw [sk_add] at h1
  have hd : (c :: l).drop 1 = l := rfl
  cases hr : sk j l with
  | none => rw [hr] at h1; simp at h1
  | some r =>
    have := sk_at (xs := c :: l) (i := 1) (j := j) (r := r) (by simp) (by rw [hd]; exact hr)
    obtain ⟨k1, k2⟩ := this
    have e : afterI (c :: l) 1 j = (c :: l).length - r.length := by unfold afterI; rw [hd, hr]
    have e2 : aN (c :: l) j = (c :: l).length - r.length := by unfold aN; rw [e]; omega
    refine ⟨by rw [e, e2]; simp at k1 ⊢; omega, by rw [e2]; simp at k1 ⊢; omega, by rw [e2]; omega, ?_⟩
    rw [hd, hr, e2, k2]
theorem right_next {xs : List Cel} (h : rightB xs = true) {j : Nat} (hj : j < ar0 xs) : aN xs j < aN xs (j + 1) ∧ endI xs (aN xs j) = aN xs (j + 1) := by
  obtain ⟨a1, a2, a3, a4⟩ := right_after h (Nat.le_of_lt hj)
  obtain ⟨b1, b2, b3, b4⟩ := right_after h (show j + 1 ≤ ar0 xs from hj)
  have hs : sk 1 (xs.drop (aN xs j)) = some (xs.drop (aN xs (j + 1))) := by
    rw [sk_add, a4] at b4; simpa using b4
  have := sk_pos hs
  simp at this
  refine ⟨by omega, ?_⟩
  unfold endI
  rw [hs]; simp; omega
theorem right_last {xs : List Cel} (h : rightB xs = true) : aN xs (ar0 xs) = xs.length := by
  obtain ⟨a1, a2, a3, a4⟩ := right_after h (Nat.le_refl (ar0 xs))
  obtain ⟨c, l, rfl, hc, hs, hl⟩ := right_sk h
  have : sk (ar0 (c :: l)) ((c :: l).drop 1) = some [] := hs
  rw [a4] at this
  have h2 := congrArg List.length (Option.some.inj this)
  simp at h2 a3 ⊢
  omega
theorem parts_succ (xs : List Cel) (j : Nat) : (List.range (j + 1)).map (partJ xs) = (List.range j).map (partJ xs) ++ [partJ xs j] := by
  rw [List.range_succ, List.map_append]; rfl
theorem partJ_length {xs : List Cel} (h : rightB xs = true) {j : Nat} (hj : j < ar0 xs) : (partJ xs j).length = aN xs (j + 1) - aN xs j := by
  obtain ⟨b1, b2, b3, b4⟩ := right_after h (show j + 1 ≤ ar0 xs from hj)
  have := right_next h hj
  unfold partJ; simp; omega
theorem ar_le6 {xs : List Cel} (h : rightB xs = true) : ar0 xs ≤ 6 := by
  obtain ⟨c, l, rfl, hc, _⟩ := right_sk h
  exact ar_le c hc
end Go.Proofs.YtabjghmfjoefpaaDoor
namespace Go.Proofs.YtabjghmfjoefpaaDoor
open Go.RowKit

/-- a term as a tree -/
inductive Tm where
  | mk (c : Cel) (args : List Tm)
def Tm.hd : Tm → Cel | .mk c _ => c
def Tm.args : Tm → List Tm | .mk _ ts => ts
mutual
def Tm.flat : Tm → List Cel
  | .mk c ts => c :: flats ts
def flats : List Tm → List Cel
  | [] => []
  | t :: ts => t.flat ++ flats ts
end
mutual
def Tm.ok : Tm → Prop
  | .mk c ts => cellOk c = true ∧ ts.length = ar c ∧ oks ts
def oks : List Tm → Prop
  | [] => True
  | t :: ts => t.ok ∧ oks ts
end
mutual
def Tm.depth : Tm → Nat
  | .mk _ ts => depths ts + 1
def depths : List Tm → Nat
  | [] => 0
  | t :: ts => max t.depth (depths ts)
end
theorem flats_append (a b : List Tm) : flats (a ++ b) = flats a ++ flats b := by
  induction a with
  | nil => simp [flats]
  | cons t a ih => simp [flats, ih]
theorem depths_append (a b : List Tm) : depths (a ++ b) = max (depths a) (depths b) := by
  induction a with
  | nil => simp [depths]
  | cons t a ih => simp [depths, ih, Nat.max_assoc]
theorem oks_append {a b : List Tm} : oks (a ++ b) ↔ oks a ∧ oks b := by
  induction a with
  | nil => simp [oks]
  | cons t a ih => simp [oks, ih, and_assoc]
theorem oks_mem {ts : List Tm} (h : oks ts) : ∀ t ∈ ts, t.ok := by
  induction ts with
  | nil => intro t ht; simp at ht
  | cons t ts ih =>
    intro u hu
    rcases List.mem_cons.1 hu with rfl | hu
    · exact h.1
    · exact ih h.2 u hu
theorem flat_cons (t : Tm) : t.flat = t.hd :: flats t.args := by cases t; rfl
theorem ok_iff (t : Tm) : t.ok ↔ cellOk t.hd = true ∧ t.args.length = ar t.hd ∧ oks t.args := by cases t; rfl
theorem depth_eq (t : Tm) : t.depth = depths t.args + 1 := by cases t; rfl
theorem flat_pos (t : Tm) : 0 < t.flat.length := by rw [flat_cons]; simp

/-- what is skipped is made of terms -/
theorem sk_parse (l : List Cel) : ∀ (m : Nat) (r : List Cel), sk m l = some r → ∃ ts : List Tm, ts.length = m ∧ oks ts ∧ l = flats ts ++ r := by
  induction l with
  | nil =>
    intro m r h
    cases m with
    | zero => simp [sk] at h; subst h; exact ⟨[], rfl, trivial, rfl⟩
    | succ m => simp [sk] at h
  | cons c l ih =>
    intro m r h
    cases m with
    | zero => simp [sk] at h; subst h; exact ⟨[], rfl, trivial, rfl⟩
    | succ m =>
      simp only [sk] at h
      split at h
      · rename_i hc
        obtain ⟨ts, hl, ho, e⟩ := ih _ _ h
        have hsplit : ts = ts.take (ar c) ++ ts.drop (ar c) := (List.take_append_drop _ _).symm
        rw [hsplit] at ho e
        rw [oks_append] at ho
        refine ⟨.mk c (ts.take (ar c)) :: ts.drop (ar c), by simp; omega, ⟨⟨hc, by simp; omega, ho.1⟩, ho.2⟩, ?_⟩
        rw [e, flats_append]
        simp [flats, Tm.flat]
      · cases h
mutual
theorem sk_flat : ∀ (t : Tm), t.ok → ∀ (m : Nat) (r : List Cel), sk (m + 1) (t.flat ++ r) = sk m r
  | .mk c ts, h, m, r => by
    obtain ⟨h1, h2, h3⟩ := h
    simp only [Tm.flat, List.cons_append, sk, h1, if_true]
    rw [← h2, Nat.add_comm, sk_flats ts h3]
theorem sk_flats : ∀ (ts : List Tm), oks ts → ∀ (m : Nat) (r : List Cel), sk (ts.length + m) (flats ts ++ r) = sk m r
  | [], _, m, r => by simp [flats]
  | t :: ts, h, m, r => by
    obtain ⟨h1, h2⟩ := h
    simp only [flats, List.append_assoc, List.length_cons]
    rw [show ts.length + 1 + m = ts.length + m + 1 by omega, sk_flat t h1, sk_flats ts h2]
end
theorem right_flat {t : Tm} (h : t.ok) (hl : t.flat.length ≤ 200) : rightB t.flat = true := by
  have h' := (ok_iff t).1 h
  rw [flat_cons] at hl ⊢
  refine right_of_sk h'.1 ?_ hl
  have := sk_flats t.args h'.2.2 0 []
  rw [List.append_nil, Nat.add_zero, h'.2.1] at this
  rw [this]; rfl
theorem right_tm {xs : List Cel} (h : rightB xs = true) : ∃ t : Tm, t.ok ∧ xs = t.flat ∧ xs.length ≤ 200 := by
  obtain ⟨c, l, rfl, hc, hs, hl⟩ := right_sk h
  obtain ⟨ts, h1, h2, h3⟩ := sk_parse l _ _ hs
  exact ⟨.mk c ts, ⟨hc, h1, h2⟩, by rw [h3]; simp [Tm.flat], hl⟩

/-- where the arguments lie -/
theorem after_flat {t : Tm} (h : t.ok) {j : Nat} (hj : j ≤ t.args.length) : afterI t.flat 1 j = 1 + (flats (t.args.take j)).length := by
  obtain ⟨_, _, h3⟩ := (ok_iff t).1 h
  have hs : t.args = t.args.take j ++ t.args.drop j := (List.take_append_drop _ _).symm
  have ho : oks (t.args.take j) := by rw [hs] at h3; exact (oks_append.1 h3).1
  have e := sk_flats (t.args.take j) ho 0 (flats (t.args.drop j))
  rw [Nat.add_zero, List.length_take, Nat.min_eq_left hj, ← flats_append, ← hs] at e
  unfold afterI
  rw [flat_cons, List.drop_one, List.tail_cons, e]
  simp only [sk, List.length_cons]
  have := congrArg List.length (congrArg flats hs)
  rw [flats_append, List.length_append] at this
  omega
theorem aN_flat {t : Tm} (h : t.ok) {j : Nat} (hj : j ≤ t.args.length) : aN t.flat j = 1 + (flats (t.args.take j)).length := by
  unfold aN; rw [after_flat h hj]; omega
theorem part_flat {t : Tm} (h : t.ok) {j : Nat} (hj : j < t.args.length) : partJ t.flat j = t.args[j].flat := by
  unfold partJ
  rw [aN_flat h (Nat.le_of_lt hj), aN_flat h hj]
  have hs : t.args = t.args.take j ++ (t.args[j] :: t.args.drop (j + 1)) := by
    rw [← List.drop_eq_getElem_cons hj, List.take_append_drop]
  have hf : flats t.args = flats (t.args.take j) ++ (t.args[j].flat ++ flats (t.args.drop (j + 1))) := by
    conv => lhs; rw [hs]
    rw [flats_append]; rfl
  have ht : flats (t.args.take (j + 1)) = flats (t.args.take j) ++ t.args[j].flat := by
    rw [List.take_succ_eq_append_getElem hj, flats_append]; simp [flats]
  rw [ht, flat_cons t, hf, Nat.add_comm 1 (flats (t.args.take j)).length, List.drop_succ_cons, List.drop_left, List.length_append]
  rw [show 1 + ((flats (t.args.take j)).length + t.args[j].flat.length) - ((flats (t.args.take j)).length + 1) = t.args[j].flat.length by omega]
  exact List.take_left
theorem ar0_flat {t : Tm} (h : t.ok) : ar0 t.flat = t.args.length := by
  rw [flat_cons]; exact ((ok_iff t).1 h).2.1.symm
theorem parts_flat {t : Tm} (h : t.ok) : partsL t.flat = t.args.map Tm.flat := by
  unfold partsL
  rw [ar0_flat h]
  refine List.ext_getElem (by simp) (fun j h1 h2 => ?_)
  simp at h1
  simp [part_flat h h1]
theorem flat_arg_lt {t : Tm} {u : Tm} (hu : u ∈ t.args) : u.flat.length < t.flat.length := by
  rw [flat_cons t]
  have : ∀ ts : List Tm, u ∈ ts → u.flat.length ≤ (flats ts).length := by
    intro ts h
    induction ts with
    | nil => simp at h
    | cons v ts ih =>
      simp only [flats, List.length_append]
      rcases List.mem_cons.1 h with e | h
      · rw [e]; omega
      · have := ih h; omega
  have := this _ hu
  simp only [List.length_cons]; omega
mutual
theorem depth_le : ∀ t : Tm, t.depth ≤ t.flat.length
  | .mk c ts => by
    have := depths_le ts
    simp only [Tm.depth, Tm.flat, List.length_cons]; omega
theorem depths_le : ∀ ts : List Tm, depths ts ≤ (flats ts).length
  | [] => by simp [depths]
  | t :: ts => by
    have h1 := depth_le t
    have h2 := depths_le ts
    simp only [depths, flats, List.length_append]; omega
end
theorem depth_pos (t : Tm) : 1 ≤ t.depth := by rw [depth_eq]; omega
end Go.Proofs.YtabjghmfjoefpaaDoor
set_option linter.unusedVariables false
namespace Go.Proofs.YtabjghmfjoefpaaDoor
open Go.RowKit

/-! ### a term's text, over trees -/
/-- texts with a sign between any two -/
def sepL (s : List UInt8) : List (List UInt8) → List UInt8
  | [] => []
  | x :: r => x ++ (r.map fun y => s ++ y).flatten
theorem sepL_one (s x : List UInt8) : sepL s [x] = x := by simp [sepL]
theorem sepL_snoc (s : List UInt8) {l : List (List UInt8)} (h : l ≠ []) (x : List UInt8) : sepL s (l ++ [x]) = sepL s l ++ (s ++ x) := by
  cases l with
  | nil => exact absurd rfl h
  | cons y r => simp [sepL]
/-- a cell of that name and number -/
def isC (c : Cel) (s : List UInt8) (n : Int) : Bool := decide (c.k = 3) && decide (c.s.data.toList = s) && decide (c.n = n)
/-- the texts of a list's item with what stands behind it -/
def item : List (List UInt8 × List UInt8) → List UInt8
  | [a, b] => a.1 ++ b.2
  | _ => []
/-- a term's text, from its arguments' -/
def ownL (c : Cel) (ps : List (List UInt8 × List UInt8)) : List UInt8 :=
  if c.k = 1 then varL c.n.toNat
  else if c.k = 2 then Lib.itoa c.n
  else if infixB c then 40 :: (sepL (32 :: c.s.data.toList ++ [32]) (ps.map Prod.fst) ++ [41])
  else if isC c [45] 1 then 45 :: 40 :: (sepL [] (ps.map Prod.fst) ++ [41])
  else if isC c [91, 93] 0 then [91, 93]
  else if isC c [46] 2 then 91 :: item ps
  else nameL c.s.data.toList ++ (if 0 < c.n then 40 :: (sepL [44] (ps.map Prod.fst) ++ [41]) else [])
/-- what stands behind a list's item, whose second argument the term is -/
def behL (c : Cel) (ps : List (List UInt8 × List UInt8)) : List UInt8 :=
  if isC c [46] 2 then 44 :: item ps
  else if isC c [91, 93] 0 then [93]
  else 124 :: (ownL c ps ++ [93])
mutual
def both : Tm → List UInt8 × List UInt8
  | .mk c ts => (ownL c (boths ts), behL c (boths ts))
def boths : List Tm → List (List UInt8 × List UInt8)
  | [] => []
  | t :: ts => both t :: boths ts
end
def textT (t : Tm) : List UInt8 := (both t).1
def behT (t : Tm) : List UInt8 := (both t).2
def textsT (ts : List Tm) : List (List UInt8) := ts.map textT
theorem boths_map (ts : List Tm) : boths ts = ts.map both := by
  induction ts with
  | nil => rfl
  | cons t ts ih => rw [boths, ih]; rfl
theorem boths_fst (ts : List Tm) : (boths ts).map Prod.fst = textsT ts := by
  rw [boths_map, textsT, List.map_map]; rfl
theorem item_two (a b : Tm) : item (boths [a, b]) = textT a ++ behT b := rfl
section
variable {c : Cel} {ts : List Tm}
theorem textT_mk : textT (.mk c ts) = ownL c (boths ts) := by rw [textT, both]
theorem behT_mk : behT (.mk c ts) = behL c (boths ts) := by rw [behT, both]
theorem text_var (h : c.k = 1) : textT (.mk c ts) = varL c.n.toNat := by rw [textT_mk, ownL, if_pos h]
theorem text_int (h : c.k = 2) : textT (.mk c ts) = Lib.itoa c.n := by rw [textT_mk, ownL, if_neg (by omega), if_pos h]
theorem text_infix (h : c.k = 3) (hi : infixB c = true) : textT (.mk c ts) = 40 :: (sepL (32 :: c.s.data.toList ++ [32]) (textsT ts) ++ [41]) := by
  rw [textT_mk, ownL, if_neg (by omega), if_neg (by omega), if_pos hi, boths_fst]
theorem text_minus (h : c.k = 3) (hi : infixB c = false) (hm : isC c [45] 1 = true) : textT (.mk c ts) = 45 :: 40 :: (sepL [] (textsT ts) ++ [41]) := by
  rw [textT_mk, ownL, if_neg (by omega), if_neg (by omega), if_neg (by rw [hi]; decide), if_pos hm, boths_fst]
theorem text_nil (h : c.k = 3) (hi : infixB c = false) (hm : isC c [45] 1 = false) (hn : isC c [91, 93] 0 = true) : textT (.mk c ts) = [91, 93] := by
  rw [textT_mk, ownL, if_neg (by omega), if_neg (by omega), if_neg (by rw [hi]; decide), if_neg (by rw [hm]; decide), if_pos hn]
theorem text_list (h : c.k = 3) (hi : infixB c = false) (hm : isC c [45] 1 = false) (hn : isC c [91, 93] 0 = false) (hd : isC c [46] 2 = true) : textT (.mk c ts) = 91 :: item (boths ts) := by
  rw [textT_mk, ownL, if_neg (by omega), if_neg (by omega), if_neg (by rw [hi]; decide), if_neg (by rw [hm]; decide), if_neg (by rw [hn]; decide), if_pos hd]
theorem text_plain (h : c.k = 3) (hi : infixB c = false) (hm : isC c [45] 1 = false) (hn : isC c [91, 93] 0 = false) (hd : isC c [46] 2 = false) :
    textT (.mk c ts) = nameL c.s.data.toList ++ (if 0 < c.n then 40 :: (sepL [44] (textsT ts) ++ [41]) else []) := by
  rw [textT_mk, ownL, if_neg (by omega), if_neg (by omega), if_neg (by rw [hi]; decide), if_neg (by rw [hm]; decide), if_neg (by rw [hn]; decide), if_neg (by rw [hd]; decide), boths_fst]
theorem beh_list (h : isC c [46] 2 = true) : behT (.mk c ts) = 44 :: item (boths ts) := by rw [behT_mk, behL, if_pos h]
theorem beh_nil (h : isC c [46] 2 = false) (hn : isC c [91, 93] 0 = true) : behT (.mk c ts) = [93] := by rw [behT_mk, behL, if_neg (by rw [h]; decide), if_pos hn]
theorem beh_bar (h : isC c [46] 2 = false) (hn : isC c [91, 93] 0 = false) : behT (.mk c ts) = 124 :: (textT (.mk c ts) ++ [93]) := by
  rw [behT_mk, behL, if_neg (by rw [h]; decide), if_neg (by rw [hn]; decide), textT_mk]
end
/-- a list's text so far: the items that were taken off, and the term that is left -/
def LitTo (t : Tm) (items : List Tm) (cur : Tm) : Prop := items ≠ [] ∧ textT t = 91 :: (sepL [44] (textsT items) ++ behT cur)
theorem lit_start {c : Cel} {a b : Tm} (h : c.k = 3) (hi : infixB c = false) (hm : isC c [45] 1 = false) (hn : isC c [91, 93] 0 = false) (hd : isC c [46] 2 = true) : LitTo (.mk c [a, b]) [a] b := by
  refine ⟨by simp, ?_⟩
  rw [text_list h hi hm hn hd, item_two, textsT, List.map_cons, List.map_nil, sepL_one]
theorem lit_step {t : Tm} {items : List Tm} {c : Cel} {a b : Tm} (hl : LitTo t items (.mk c [a, b])) (hd : isC c [46] 2 = true) : LitTo t (items ++ [a]) b := by
  obtain ⟨h1, h2⟩ := hl
  refine ⟨by simp, ?_⟩
  have e : textsT (items ++ [a]) = textsT items ++ [textT a] := by simp [textsT]
  rw [h2, beh_list hd, item_two, e, sepL_snoc _ (by simpa [textsT] using h1)]
  simp
/-- the sign is a Fun's cell -/
theorem isC_iff (c : Cel) (s : ByteArray) (n : Int) : decide (c = ⟨3, s, n⟩) = isC c s.data.toList n := by
  rw [isC, Bool.eq_iff_iff]
  simp only [Bool.and_eq_true, decide_eq_true_eq]
  rw [Cel.eq_iff]
  constructor
  · rintro ⟨h1, h2, h3⟩; exact ⟨⟨h1, by rw [h2]⟩, h3⟩
  · rintro ⟨⟨h1, h2⟩, h3⟩
    refine ⟨h1, ?_, h3⟩
    rw [← toList_inj, ByteArray.toList_eq, ByteArray.toList_eq]; exact h2
end Go.Proofs.YtabjghmfjoefpaaDoor
set_option linter.unusedVariables false
namespace Go.Proofs.YtabjghmfjoefpaaDoor
open Go.RowKit

/-- one byte's text -/
theorem dig_nat (n : Nat) : ((UInt8.ofNat (48 + n % 10)).toNat : Int) = 48 + (n : Int) % 10 := by
  rw [UInt8.toNat_ofNat']; omega
theorem decDigits_step {n : Nat} (h : 10 ≤ n) : Lib.decDigits n = Lib.decDigits (n / 10) ++ [UInt8.ofNat (48 + n % 10)] := by
  rw [Lib.decDigits, dif_neg (by omega)]
theorem decDigits_one {n : Nat} (h : n < 10) : Lib.decDigits n = [UInt8.ofNat (48 + n)] := by
  rw [Lib.decDigits, dif_pos h]

/-- a row of one byte as a text -/
theorem one_text (W : World) (c : UInt8) (x : Int) (hx : (c.toNat : Int) = x) :
    (convert 66 9 (.slice (some ⟨W.heap.size, 0, none⟩) 1 1)).run Tryd.prog (W.alloc (.cells #[.int .u8 x] 5)) = .ok (.string ⟨#[c]⟩) (W.alloc (.cells #[.int .u8 x] 5)) := by
  subst hx
  have hu : Tryd.prog.underlying 5 = some (.int .u8) := by kernel_rfl
  exact run_convert_bytes_back (P := Tryd.prog) _ 66 9 5 ⟨W.heap.size, 0, none⟩ 1 [c] w_bytes hu w_string (fun j hj => by
    have : j = 0 := by simpa using hj
    subst this
    simp [Addr.add, go_sem])
theorem text_cons (c : UInt8) (t : List UInt8) : (⟨#[c]⟩ : ByteArray) ++ ⟨t.toArray⟩ = ⟨(c :: t).toArray⟩ := by
  apply ByteArray.ext
  apply Array.ext'
  simp

set_option maxHeartbeats 2000000 in
set_option maxRecDepth 100000 in
theorem rDigits_nat (n : Nat) (w : World) (hn : n < 9223372036854775808) :
    Calls Tryd.prog 37 #[.int .i64 (n : Int)] w fun e w' => e = .returned (.string ⟨(Lib.decDigits n).toArray⟩) ∧ Below w.heap.size w w' := by
  go_enter Tryd.func37, Tryd.ntmps37
  go_wp2
  go_loopw [0, 3] (fun a s wr => ∃ (m : Nat) (t : List UInt8), m ≤ n ∧ a = .int .i64 (m : Int) ∧ s = .string ⟨t.toArray⟩ ∧ Hid (Lib.decDigits n = Lib.decDigits m ++ t) ∧ Below w.heap.size w wr) (fun a _ _ => (intOf a).toNat)
  case atStart => exact ⟨n, [], Nat.le_refl _, rfl, rfl, mkHid (by simp), Below.refl _ _⟩
  case round =>
    obtain ⟨m, t, hm, rfl, rfl, HD, hb⟩ := hrel
    rename World => W
    have HB := mkHid hb
    clear hb
    have hts : (⟨t.toArray⟩ : ByteArray).size ≤ 20 := by
      have h1 := congrArg List.length HD.out
      rw [Lib.decDigits_length, List.length_append] at h1
      have h2 := nDig_le (u := n) (by omega)
      show t.toArray.size ≤ 20
      rw [List.size_toArray]; omega
    have htl : t.length ≤ 20 := by
      have : t.toArray.size ≤ 20 := hts
      rwa [List.size_toArray] at this
    by_cases h10 : 10 ≤ m
    · obtain ⟨c, hc⟩ : ∃ c, c = UInt8.ofNat (48 + m % 10) := ⟨_, rfl⟩
      have hcv := one_text W c (48 + (m : Int) % 10) (by rw [hc]; exact dig_nat m)
      have HT := mkHid (text_cons c t)
      have HC : Hid (Lib.decDigits n = Lib.decDigits (m / 10) ++ c :: t) := mkHid (by rw [HD.out, decDigits_step h10, hc]; simp)
      clear hc HD
      go_wp2
      go_round
      case rel =>
        exact ⟨m / 10, c :: t, by omega, by go_num, by rw [HT.out], HC, HB.out.alloc HB.out.size _⟩
      case measure => simp [intOf]; omega
    · obtain ⟨c, hc⟩ : ∃ c, c = UInt8.ofNat (48 + m) := ⟨_, rfl⟩
      have hcv := one_text W c (48 + (m : Int)) (by rw [hc, UInt8.toNat_ofNat']; omega)
      have HT := mkHid (text_cons c t)
      have HC : Hid (Lib.decDigits n = c :: t) := mkHid (by rw [HD.out, decDigits_one (by omega), hc]; rfl)
      clear hc HD
      go_wp2
      go_ret
      exact ⟨by rw [HT.out, HC.out]; rfl, HB.out.alloc HB.out.size _⟩
end Go.Proofs.YtabjghmfjoefpaaDoor
set_option linter.unusedVariables false
namespace Go.Proofs.YtabjghmfjoefpaaDoor
open Go.RowKit

theorem itoa_neg {z : Int} (h : z < 0) : Lib.itoa z = 45 :: Lib.decDigits z.natAbs := by rw [Lib.itoa, if_pos h]
theorem itoa_pos {z : Int} (h : ¬ z < 0) : Lib.itoa z = Lib.decDigits z.toNat := by rw [Lib.itoa, if_neg h]
theorem itoa_len {z : Int} (h : z.natAbs < 9223372036854775808) : (Lib.itoa z).length ≤ 21 := by
  by_cases hz : z < 0
  · rw [itoa_neg hz, List.length_cons, Lib.decDigits_length]
    have := nDig_le (u := z.natAbs) (by omega); omega
  · rw [itoa_pos hz, Lib.decDigits_length]
    have := nDig_le (u := z.toNat) (by omega); omega
set_option maxHeartbeats 2000000 in
set_option maxRecDepth 100000 in
/-- the document's digits -/
theorem rDigits_any (z : Int) (w : World) (hz : z.natAbs < 9223372036854775808) :
    Calls Tryd.prog 37 #[.int .i64 z] w fun e w' => e = .returned (.string ⟨(Lib.itoa z).toArray⟩) ∧ Below w.heap.size w w' := by
  by_cases h : z < 0
  · obtain ⟨m, hm⟩ : ∃ m : Nat, m = z.natAbs := ⟨_, rfl⟩
    obtain rfl : z = -(m : Int) := by omega
    have HI : Hid (Lib.itoa (-(m : Int)) = 45 :: Lib.decDigits m) := mkHid (by rw [itoa_neg h, ← hm])
    have HT := mkHid (text_cons 45 (Lib.decDigits m))
    have hd' : (Lib.decDigits m).length ≤ 20 := by
      rw [Lib.decDigits_length]; exact nDig_le (by omega)
    have hd : (⟨(Lib.decDigits m).toArray⟩ : ByteArray).size ≤ 20 := hd'
    clear hm
    go_enter Tryd.func37, Tryd.ntmps37
    go_wp2_with fail
    refine (rDigits_nat m _ (by omega)).mono ?_; rintro e w2 ⟨rfl, hb2⟩
    have HB := mkHid hb2
    clear hb2
    go_wp2
    go_ret
    exact ⟨by rw [HT.out, HI.out]; rfl, HB.out⟩
  · rw [itoa_pos h]
    obtain ⟨m, rfl⟩ : ∃ m : Nat, z = (m : Int) := ⟨z.toNat, by omega⟩
    exact rDigits_nat m w (by omega)
end Go.Proofs.YtabjghmfjoefpaaDoor
set_option linter.unusedVariables false
namespace Go.Proofs.YtabjghmfjoefpaaDoor
open Go.RowKit

theorem varL_one (n : Nat) : varL n = UInt8.ofNat (65 + n % 26) :: (if n < 26 then [] else Lib.decDigits (n / 26)) := rfl
set_option maxHeartbeats 2000000 in
set_option maxRecDepth 100000 in
/-- the document's own letters of a variable -/
theorem rVarName_any (n : Nat) (w : World) (hn : n ≤ 1000000) :
    Calls Tryd.prog 23 #[.int .i64 (n : Int)] w fun e w' => e = .returned (.string ⟨(varL n).toArray⟩) ∧ Below w.heap.size w w' := by
  obtain ⟨c, hc⟩ : ∃ c, c = UInt8.ofNat (65 + n % 26) := ⟨_, rfl⟩
  have hcv := one_text w c (65 + (n : Int) % 26) (by rw [hc, UInt8.toNat_ofNat']; omega)
  by_cases hs : n < 26
  · have HV : Hid (varL n = [c]) := mkHid (by rw [varL_one, if_pos hs, hc])
    clear hc
    go_enter Tryd.func23, Tryd.ntmps23
    go_wp2
    go_ret
    exact ⟨by rw [HV.out]; rfl, (Below.refl _ _).new _⟩
  · have HV : Hid (varL n = c :: Lib.decDigits (n / 26)) := mkHid (by rw [varL_one, if_neg hs, hc])
    have HT := mkHid (text_cons c (Lib.decDigits (n / 26)))
    have hd : (⟨(Lib.decDigits (n / 26)).toArray⟩ : ByteArray).size ≤ 20 := by
      have h2 := nDig_le (u := n / 26) (by omega)
      show (Lib.decDigits (n / 26)).toArray.size ≤ 20
      rw [List.size_toArray, Lib.decDigits_length]; exact h2
    have hd' : (Lib.decDigits (n / 26)).length ≤ 20 := hd
    have HQ : Hid ((n : Int) / 26 = ((n / 26 : Nat) : Int)) := mkHid (by omega)
    clear hc
    go_enter Tryd.func23, Tryd.ntmps23
    go_wp2_with fail
    have h9 := fun W => rDigits_nat (n / 26) W (by omega)
    simp only [← HQ.out] at h9
    refine (h9 _).mono ?_; rintro e w2 ⟨rfl, hb2⟩
    have HB := mkHid hb2
    clear hb2 h9
    go_wp2
    go_ret
    exact ⟨by rw [HT.out, HV.out]; rfl, ((Below.refl _ _).new _).then HB.out⟩
end Go.Proofs.YtabjghmfjoefpaaDoor
set_option linter.unusedVariables false
namespace Go.Proofs.YtabjghmfjoefpaaDoor
open Go.RowKit

theorem eqB_nat (c : UInt8) : (c == 95) = decide (c.toNat = 95) := by
  rw [Bool.eq_iff_iff]; simp [← UInt8.toNat_inj]
theorem letterB_nat (c : UInt8) : letterB c = (decide (97 ≤ c.toNat ∧ c.toNat ≤ 122) || decide (65 ≤ c.toNat ∧ c.toNat ≤ 90) || decide (48 ≤ c.toNat ∧ c.toNat ≤ 57) || decide (c.toNat = 95)) := by
  rw [letterB_way, eqB_nat, smallB, Bool.eq_iff_iff]
  simp [UInt8.le_iff_toNat_le]
theorem smallB_nat (c : UInt8) : smallB c = decide (97 ≤ c.toNat ∧ c.toNat ≤ 122) := by
  rw [smallB, Bool.eq_iff_iff]
  simp [UInt8.le_iff_toNat_le]
theorem letter_yes {c : UInt8} (h : (97 ≤ c.toNat ∧ c.toNat ≤ 122) ∨ (65 ≤ c.toNat ∧ c.toNat ≤ 90) ∨ (48 ≤ c.toNat ∧ c.toNat ≤ 57) ∨ c.toNat = 95) : letterB c = true := by
  rw [letterB_nat]; simp only [Bool.or_eq_true, decide_eq_true_eq]; omega
theorem letter_no {c : UInt8} (h : ¬ ((97 ≤ c.toNat ∧ c.toNat ≤ 122) ∨ (65 ≤ c.toNat ∧ c.toNat ≤ 90) ∨ (48 ≤ c.toNat ∧ c.toNat ≤ 57) ∨ c.toNat = 95)) : letterB c = false := by
  rw [letterB_nat]; simp only [Bool.or_eq_false_iff, decide_eq_false_iff_not]; omega
theorem letter_ways (n : Nat) : n < 48 ∨ (48 ≤ n ∧ n ≤ 57) ∨ (57 < n ∧ n < 65) ∨ (65 ≤ n ∧ n ≤ 90) ∨ (90 < n ∧ n < 95) ∨ n = 95 ∨ (95 < n ∧ n < 97) ∨ (97 ≤ n ∧ n ≤ 122) ∨ 122 < n := by omega

/-- so far plain -/
def plainTo (s : ByteArray) (k : Nat) : Bool := (match s.data.toList with | [] => false | c :: _ => smallB c) && (s.data.toList.take k).all letterB
theorem plainTo_zero {s : ByteArray} (h : 0 < s.size) : plainTo s 0 = smallB s[0] := by
  have := bareB_cons h
  unfold plainTo
  have e : s.data.toList = s[0] :: s.data.toList.tail := by
    have h' : 0 < s.data.toList.length := by simpa using h
    cases hl : s.data.toList with
    | nil => rw [hl] at h'; cases h'
    | cons c r =>
      have : s[0] = c := by
        have : s.data.toList[0]'h' = c := by simp [hl]
        rw [← this]; simp [ByteArray.getElem_eq_getElem_data]
      rw [this]; rfl
  generalize s[0] = c at e ⊢
  rw [e]; simp
theorem plainTo_all {s : ByteArray} : plainTo s s.size = bareB s.data.toList := by
  unfold plainTo
  rw [List.take_of_length_le (by simp)]
  cases s.data.toList with
  | nil => rfl
  | cons c r => rfl
theorem plainTo_succ {s : ByteArray} {k : Nat} (h : k < s.size) : plainTo s (k + 1) = (plainTo s k && letterB s[k]) := by
  unfold plainTo
  rw [all_takeS s k h, Bool.and_assoc]
theorem quote_text (s : ByteArray) : ((⟨#[39]⟩ : ByteArray) ++ s ++ ⟨#[39]⟩) = ⟨(39 :: s.data.toList ++ [39]).toArray⟩ := by
  apply ByteArray.ext
  apply Array.ext'
  simp

set_option maxHeartbeats 2000000 in
set_option maxRecDepth 100000 in
theorem rQuote_any (s : ByteArray) (w : World) (hs : s.size ≤ 1000000) (h0 : 0 < s.size) :
    Calls Tryd.prog 21 #[.string s] w fun e w' => e = .returned (.string ⟨(nameL s.data.toList).toArray⟩) ∧ w = w' := by
  have HZ := mkHid (plainTo_zero h0)
  have HA := mkHid (@plainTo_all s)
  have hb1 : decide ((97 : Int) ≤ (s[0].toNat : Int)) = decide ((97 : UInt8) ≤ s[0]) := leU 97 s[0]
  have hb2 : decide ((s[0].toNat : Int) ≤ 122) = decide (s[0] ≤ (122 : UInt8)) := leU s[0] 122
  have HB : Hid (smallB s[0] = (decide ((97 : UInt8) ≤ s[0]) && decide (s[0] ≤ (122 : UInt8)))) := rfl
  cases g1 : decide ((97 : UInt8) ≤ s[0]) <;> cases g2 : decide (s[0] ≤ (122 : UInt8)) <;> rw [g1] at hb1 HB <;> rw [g2] at hb2 HB <;> clear g1 g2
  all_goals
    go_enter Tryd.func21, Tryd.ntmps21
    go_wp2
    go_loop [3, 4] (fun p i => ∃ k : Nat, k ≤ s.size ∧ i = .int .i64 k ∧ p = .bool (plainTo s k)) (fun _ i => s.size - (intOf i).toNat)
    case atStart => exact ⟨0, Nat.zero_le _, rfl, by rw [HZ.out, HB.out]; rfl⟩
    case round =>
      obtain ⟨k, hk, rfl, rfl⟩ := hrel
      clear hb1 hb2
      by_cases hlt : k < s.size
      · have HN := mkHid (plainTo_succ hlt)
        cases hp : plainTo s k with
        | false =>
          have HP : Hid (plainTo s (k + 1) = false) := by rw [Hid, HN.out, hp]; rfl
          clear hp HN
          go_wp2
          go_round
          case rel => exact ⟨k + 1, by omega, by go_num, by rw [HP.out]; all_goals (first | rfl | (congr 1; simp; omega))⟩
          case measure => simp [intOf]; omega
        | true =>
          rw [hp] at HN
          clear hp
          rcases letter_ways s[k].toNat with h | h | h | h | h | h | h | h | h
          all_goals
            first
              | have HP : Hid (plainTo s (k + 1) = true) := (by rw [Hid, HN.out, letter_yes (by omega)]; rfl)
              | have HP : Hid (plainTo s (k + 1) = false) := (by rw [Hid, HN.out, letter_no (by omega)]; rfl)
            go_wp2
            go_round
            case rel => exact ⟨k + 1, by omega, by go_num, by rw [HP.out]; all_goals (first | rfl | (congr 1; simp; omega))⟩
            case measure => simp [intOf]; omega
      · have hke : k = s.size := by omega
        subst hke
        rw [HA.out]
        cases hp : bareB s.data.toList with
        | true =>
          have HQ : Hid (nameL s.data.toList = s.data.toList) := by rw [Hid, nameL, if_pos hp]
          clear hp
          go_wp2
          go_ret
          exact ⟨by rw [HQ.out]; exact congrArg (fun x => Ending.returned (Value.string ⟨x⟩)) Array.toArray_toList.symm, rfl⟩
        | false =>
          have HQ : Hid (nameL s.data.toList = 39 :: s.data.toList ++ [39]) := by rw [Hid, nameL, if_neg (by rw [hp]; decide)]
          have HT := mkHid (quote_text s)
          clear hp
          go_wp2
          go_ret
          exact ⟨by rw [HQ.out, ← HT.out]; all_goals rfl, rfl⟩
end Go.Proofs.YtabjghmfjoefpaaDoor
namespace Go.Proofs.YtabjghmfjoefpaaDoor
open Go.RowKit

/-- block b of w is a map from int to bool of at most n entries; what is not there is the zero value -/
def MapIB (P : Program) (k e : TypeId) (w : World) (b n : Nat) (f : Int → Bool) : Prop :=
  ∃ D : DataW Unit, w.ownsMap P k (plainElem P e) b n D ∧ ∀ i, (Lit.int .i64 i).wf = true → D.atKey (.int .i64 i) (.lit (.bool false)) = .lit (.bool (f i))
theorem MapIB.made (P : Program) (k e : TypeId) (w : World) : MapIB P k e (w.alloc (.map #[] 0)) w.heap.size 0 (fun _ => false) :=
  ⟨.map [], World.ownsMap_made w P k _, fun _ _ => rfl⟩
section
variable {P : Program} {k e t : TypeId} {w w' : World} {b n : Nat} {f : Int → Bool}
theorem MapIB.lt (h : MapIB P k e w b n f) : b < w.heap.size := let ⟨_, h, _⟩ := h; h.lt
theorem MapIB.kept {row : Option Nat} (h : MapIB P k e w b n f) (hg : w.grownBy w' row) (hne : some b ≠ row) : MapIB P k e w' b n f :=
  let ⟨D, h, hf⟩ := h; ⟨D, h.kept hg hne, hf⟩
theorem MapIB.below (h : MapIB P k e w b n f) (hb : Below w.heap.size w w') : MapIB P k e w' b n f :=
  h.kept (row := none) ⟨hb.os, hb.tape, hb.output, hb.size, fun k hk _ => hb.block k hk⟩ (by simp)
theorem MapIB.alloc (h : MapIB P k e w b n f) (o : Obj) : MapIB P k e (w.alloc o) b n f := let ⟨D, h, hf⟩ := h; ⟨D, h.alloc o, hf⟩
theorem MapIB.mono (h : MapIB P k e w b n f) : MapIB P k e w b (n + 1) f := let ⟨D, h, hf⟩ := h; ⟨D, h.mono (Nat.le_succ _), hf⟩
theorem MapIB.run_lookup (h : MapIB P k e w b n f) (hk : P.underlying k = some (.int .i64)) (ht : P.underlying t = some (.map k e)) (he : P.underlying e = some (.bool)) (hz : (zeroValue e).run P w = .ok (.bool false) w)
    {i : Int} (hi : (Lit.int .i64 i).wf = true) : (Instr.lookup t (.map (some b)) (.int .i64 i) false).run P w = .ok (.bool (f i)) w := by
  obtain ⟨D, h, hf⟩ := h
  obtain ⟨v, ps, hrun, hv⟩ := h.lookup (Go.Maps.int_keyed hk) ht hz (z := .bool false) (zd := .lit (.bool false)) (zp := []) (plainElem_bool he false) (Go.Maps.keyOf_int_mk hk hi)
  rw [hf i hi] at hv
  rw [hrun]
  unfold plainElem at hv
  rw [he] at hv
  cases v <;> simp at hv
  rw [hv.1]
theorem MapIB.wp_lookup {o : Oper} {a : Act} {Q : Exit → Act → World → Prop}
    (m x : Operand) (hop : o.op = Op.lookup t m x false)
    (hk : P.underlying k = some (.int .i64)) (ht : P.underlying t = some (.map k e)) (he : P.underlying e = some (.bool)) (hz : (zeroValue e).run P w = .ok (.bool false) w)
    (hm : a.eval m = .map (some b)) (h : MapIB P k e w b n f) (i : Int) (hx : a.eval x = .int .i64 i) (hi : (Lit.int .i64 i).wf = true) {K : Act → World → Prop}
    (hK : K (a.put o.dst (.bool (f i))) w) :
    o.wp P a w K Q := by
  unfold Oper.wp
  simp [execOp, hop, hm, hx, h.run_lookup hk ht he hz hi, Result.andThen]
  exact hK
theorem MapIB.wpl_lookup {ops : Array Oper} {rest : List Oper} {o : Oper} {a : Act} {Q : Exit → Act → World → Prop}
    (hg : o.guard = none) (m x : Operand) (hop : o.op = Op.lookup t m x false)
    (hk : P.underlying k = some (.int .i64)) (ht : P.underlying t = some (.map k e)) (he : P.underlying e = some (.bool)) (hz : (zeroValue e).run P w = .ok (.bool false) w)
    (hm : a.eval m = .map (some b)) (h : MapIB P k e w b n f) (i : Int) (hx : a.eval x = .int .i64 i) (hi : (Lit.int .i64 i).wf = true)
    (hK : wpList P ops Q rest (a.put o.dst (.bool (f i))) w) :
    wpList P ops Q (o :: rest) a w := by
  refine wpList_plain hg fun K' hK' => ?_
  unfold Oper.wp
  simp [execOp, hop, hm, hx, h.run_lookup hk ht he hz hi, Result.andThen]
  exact hK' _ _ hK
theorem MapIB.put_at {D : DataW Unit} (hD : Go.Maps.IsMap D) (hf : ∀ i, (Lit.int .i64 i).wf = true → D.atKey (.int .i64 i) (.lit (.bool false)) = .lit (.bool (f i))) (i : Int) (x : Bool) :
    ∀ j, (Lit.int .i64 j).wf = true → (D.put (.int .i64 i) (.lit (.bool x))).atKey (.int .i64 j) (.lit (.bool false)) = .lit (.bool (if j = i then x else f j)) := by
  intro j hj
  by_cases e : j = i
  · subst e; rw [if_pos rfl]; exact Go.Maps.atKey_put_same hD (by simp [WideAt.IsKeyLit]) _ _
  · rw [if_neg e, ← hf j hj]; exact Go.Maps.atKey_put_other (by simp; exact e) _ _
theorem MapIB.wpl_update {ops : Array Oper} {rest : List Oper} {o : Oper} {a : Act} {Q : Exit → Act → World → Prop}
    (hg : o.guard = none) (m x y : Operand) (hop : o.op = Op.mapUpdate t m x y)
    (hk : P.underlying k = some (.int .i64)) (ht : P.underlying t = some (.map k e)) (he : P.underlying e = some (.bool))
    (hm : a.eval m = .map (some b)) (h : MapIB P k e w b n f) (hn : n < 9223372036854775807) (i : Int) (hx : a.eval x = .int .i64 i) (hi : (Lit.int .i64 i).wf = true) (z : Bool) (hy : a.eval y = .bool z)
    (hK : ∀ w', MapIB P k e w' b (n + 1) (fun j => if j = i then z else f j) → w.grownBy w' (some b) → wpList P ops Q rest (a.put o.dst undef) w') :
    wpList P ops Q (o :: rest) a w := by
  obtain ⟨D, h, hf⟩ := h
  refine wpList_mapUpdate_own w hg m x y t hop k e (Go.Maps.int_keyed hk) ht _ b n D hm h (by unfold maxLen; omega) _ _ _ hx hy (Go.Maps.keyOf_int_mk hk hi) (.lit (.bool z)) [] (plainElem_bool he z) ?_
  intro w' h' hg'
  exact hK w' ⟨_, h', MapIB.put_at h.isMap hf i z⟩ hg'
end

/-- block b of w is a map from int to int of at most n entries; what is not there is the zero value -/
def MapII (P : Program) (k e : TypeId) (w : World) (b n : Nat) (f : Int → Int) : Prop :=
  ∃ D : DataW Unit, w.ownsMap P k (plainElem P e) b n D ∧ ∀ i, (Lit.int .i64 i).wf = true → D.atKey (.int .i64 i) (.lit (.int .i64 0)) = .lit (.int .i64 (f i))
theorem MapII.made (P : Program) (k e : TypeId) (w : World) : MapII P k e (w.alloc (.map #[] 0)) w.heap.size 0 (fun _ => 0) :=
  ⟨.map [], World.ownsMap_made w P k _, fun _ _ => rfl⟩
section
variable {P : Program} {k e t : TypeId} {w w' : World} {b n : Nat} {f : Int → Int}
theorem MapII.lt (h : MapII P k e w b n f) : b < w.heap.size := let ⟨_, h, _⟩ := h; h.lt
theorem MapII.kept {row : Option Nat} (h : MapII P k e w b n f) (hg : w.grownBy w' row) (hne : some b ≠ row) : MapII P k e w' b n f :=
  let ⟨D, h, hf⟩ := h; ⟨D, h.kept hg hne, hf⟩
theorem MapII.below (h : MapII P k e w b n f) (hb : Below w.heap.size w w') : MapII P k e w' b n f :=
  h.kept (row := none) ⟨hb.os, hb.tape, hb.output, hb.size, fun k hk _ => hb.block k hk⟩ (by simp)
theorem MapII.alloc (h : MapII P k e w b n f) (o : Obj) : MapII P k e (w.alloc o) b n f := let ⟨D, h, hf⟩ := h; ⟨D, h.alloc o, hf⟩
theorem MapII.mono (h : MapII P k e w b n f) : MapII P k e w b (n + 1) f := let ⟨D, h, hf⟩ := h; ⟨D, h.mono (Nat.le_succ _), hf⟩
theorem MapII.run_lookup (h : MapII P k e w b n f) (hk : P.underlying k = some (.int .i64)) (ht : P.underlying t = some (.map k e)) (he : P.underlying e = some (.int .i64)) (hz : (zeroValue e).run P w = .ok (.int .i64 0) w)
    {i : Int} (hi : (Lit.int .i64 i).wf = true) : (Instr.lookup t (.map (some b)) (.int .i64 i) false).run P w = .ok (.int .i64 (f i)) w := by
  obtain ⟨D, h, hf⟩ := h
  obtain ⟨v, ps, hrun, hv⟩ := h.lookup (Go.Maps.int_keyed hk) ht hz (z := .int .i64 0) (zd := .lit (.int .i64 0)) (zp := []) (plainElem_int he rfl) (Go.Maps.keyOf_int_mk hk hi)
  rw [hf i hi] at hv
  rw [hrun]
  obtain ⟨c, rfl, hc, _⟩ := plainElem_int_inv he hv
  simp at hc
  rw [hc.1]
theorem MapII.wp_lookup {o : Oper} {a : Act} {Q : Exit → Act → World → Prop}
    (m x : Operand) (hop : o.op = Op.lookup t m x false)
    (hk : P.underlying k = some (.int .i64)) (ht : P.underlying t = some (.map k e)) (he : P.underlying e = some (.int .i64)) (hz : (zeroValue e).run P w = .ok (.int .i64 0) w)
    (hm : a.eval m = .map (some b)) (h : MapII P k e w b n f) (i : Int) (hx : a.eval x = .int .i64 i) (hi : (Lit.int .i64 i).wf = true) {K : Act → World → Prop}
    (hK : K (a.put o.dst (.int .i64 (f i))) w) :
    o.wp P a w K Q := by
  unfold Oper.wp
  simp [execOp, hop, hm, hx, h.run_lookup hk ht he hz hi, Result.andThen]
  exact hK
theorem MapII.wpl_lookup {ops : Array Oper} {rest : List Oper} {o : Oper} {a : Act} {Q : Exit → Act → World → Prop}
    (hg : o.guard = none) (m x : Operand) (hop : o.op = Op.lookup t m x false)
    (hk : P.underlying k = some (.int .i64)) (ht : P.underlying t = some (.map k e)) (he : P.underlying e = some (.int .i64)) (hz : (zeroValue e).run P w = .ok (.int .i64 0) w)
    (hm : a.eval m = .map (some b)) (h : MapII P k e w b n f) (i : Int) (hx : a.eval x = .int .i64 i) (hi : (Lit.int .i64 i).wf = true)
    (hK : wpList P ops Q rest (a.put o.dst (.int .i64 (f i))) w) :
    wpList P ops Q (o :: rest) a w := by
  refine wpList_plain hg fun K' hK' => ?_
  unfold Oper.wp
  simp [execOp, hop, hm, hx, h.run_lookup hk ht he hz hi, Result.andThen]
  exact hK' _ _ hK
theorem MapII.put_at {D : DataW Unit} (hD : Go.Maps.IsMap D) (hf : ∀ i, (Lit.int .i64 i).wf = true → D.atKey (.int .i64 i) (.lit (.int .i64 0)) = .lit (.int .i64 (f i))) (i : Int) (x : Int) :
    ∀ j, (Lit.int .i64 j).wf = true → (D.put (.int .i64 i) (.lit (.int .i64 x))).atKey (.int .i64 j) (.lit (.int .i64 0)) = .lit (.int .i64 (if j = i then x else f j)) := by
  intro j hj
  by_cases e : j = i
  · subst e; rw [if_pos rfl]; exact Go.Maps.atKey_put_same hD (by simp [WideAt.IsKeyLit]) _ _
  · rw [if_neg e, ← hf j hj]; exact Go.Maps.atKey_put_other (by simp; exact e) _ _
theorem MapII.wpl_update {ops : Array Oper} {rest : List Oper} {o : Oper} {a : Act} {Q : Exit → Act → World → Prop}
    (hg : o.guard = none) (m x y : Operand) (hop : o.op = Op.mapUpdate t m x y)
    (hk : P.underlying k = some (.int .i64)) (ht : P.underlying t = some (.map k e)) (he : P.underlying e = some (.int .i64))
    (hm : a.eval m = .map (some b)) (h : MapII P k e w b n f) (hn : n < 9223372036854775807) (i : Int) (hx : a.eval x = .int .i64 i) (hi : (Lit.int .i64 i).wf = true) (z : Int) (hy : a.eval y = .int .i64 z) (hz : (Lit.int .i64 z).wf = true)
    (hK : ∀ w', MapII P k e w' b (n + 1) (fun j => if j = i then z else f j) → w.grownBy w' (some b) → wpList P ops Q rest (a.put o.dst undef) w') :
    wpList P ops Q (o :: rest) a w := by
  obtain ⟨D, h, hf⟩ := h
  refine wpList_mapUpdate_own w hg m x y t hop k e (Go.Maps.int_keyed hk) ht _ b n D hm h (by unfold maxLen; omega) _ _ _ hx hy (Go.Maps.keyOf_int_mk hk hi) (.lit (.int .i64 z)) [] (plainElem_int he hz) ?_
  intro w' h' hg'
  exact hK w' ⟨_, h', MapII.put_at h.isMap hf i z⟩ hg'
end
end Go.Proofs.YtabjghmfjoefpaaDoor
namespace Go.Proofs.YtabjghmfjoefpaaDoor
open Go.RowKit
theorem Tryd.zeroBool (w : World) : (zeroValue 4).run Tryd.prog w = .ok (.bool false) w := by kernel_rfl
theorem wf64 {n : Int} (h1 : -9223372036854775808 ≤ n) (h2 : n ≤ 9223372036854775807) : (Lit.int .i64 n).wf = true := WalkArith.wf_i64 ⟨h1, h2⟩

theorem own_ne {w : World} {B e size : Nat} {v : Value} {n : Nat} {xs : List Value} (h : w.ownsRow (B + 1) e size v n xs) : some B ≠ v.ownBlock := by
  intro hv
  have := h.lt B hv.symm
  omega
theorem own_map {w w' : World} {B e size : Nat} {v : Value} {n : Nat} {xs : List Value} (h : w.ownsRow (B + 1) e size v n xs) (hg : w.grownBy w' (some B)) : w'.ownsRow (B + 1) e size v n xs :=
  h.kept hg (.inr (fun e => own_ne h e.symm))
theorem grown_at {w w' : World} {g B : Nat} (hg : w.grownBy w' (some g)) (hB : B ≤ w.heap.size) (h : B ≤ g) : Below B w w' :=
  (Below.refl B w).grown hg hB (fun k hk => by simp at hk; omega)

end Go.Proofs.YtabjghmfjoefpaaDoor
namespace Go.Proofs.YtabjghmfjoefpaaDoor
open Go.RowKit

def cmpI (a b : Int) : Int := if a < b then -1 else if b < a then 1 else 0
theorem bytesLess_irrefl (l : List UInt8) : Op.bytesLess l l = false := by
  induction l with
  | nil => rfl
  | cons a l ih => simp [Op.bytesLess, ih]
def cmpS (s t : ByteArray) : Int := if Op.bytesLess s.toList t.toList then -1 else if s = t then 0 else 1
def cellCmp (x y : Cel) : Int := if x.k = y.k then (if x.n = y.n then cmpS x.s y.s else cmpI x.n y.n) else cmpI x.k y.k
def compP : List Cel → List Cel → Int
  | [], [] => 0
  | [], _ :: _ => -1
  | _ :: _, [] => 1
  | x :: xs, y :: ys => if x = y then compP xs ys else cellCmp x y
theorem compP_step {xs ys : List Cel} {k : Nat} (hx : k < xs.length) (hy : k < ys.length) : compP (xs.drop k) (ys.drop k) = if xs[k] = ys[k] then compP (xs.drop (k + 1)) (ys.drop (k + 1)) else cellCmp xs[k] ys[k] := by
  rw [List.drop_eq_getElem_cons hx, List.drop_eq_getElem_cons hy]; rfl
theorem compP_end {xs ys : List Cel} {k : Nat} (h : k = min xs.length ys.length) : compP (xs.drop k) (ys.drop k) = cmpI xs.length ys.length := by
  by_cases hx : xs.length ≤ k
  · rw [List.drop_eq_nil_of_le hx]
    by_cases hy : ys.length ≤ k
    · rw [List.drop_eq_nil_of_le hy]; unfold cmpI compP; rw [if_neg (by omega), if_neg (by omega)]
    · rw [List.drop_eq_getElem_cons (by omega : k < ys.length)]; unfold cmpI compP; rw [if_pos (by omega)]
  · have hy : ys.length ≤ k := by omega
    rw [List.drop_eq_nil_of_le hy, List.drop_eq_getElem_cons (by omega : k < xs.length)]; unfold cmpI compP; rw [if_neg (by omega), if_pos (by omega)]
theorem min_i (a b : Nat) : min (a : Int) b = ((min a b : Nat) : Int) := by omega

end Go.Proofs.YtabjghmfjoefpaaDoor
namespace Go.Proofs.YtabjghmfjoefpaaDoor
open Go.RowKit

def compR : List Cel → List Cel → Int
  | x :: xs, y :: ys => if x = y then compR xs ys else cellCmp x y
  | _, _ => 0
theorem compR_step {xs ys : List Cel} {k : Nat} (hx : k < xs.length) (hy : k < ys.length) : compR (xs.drop k) (ys.drop k) = if xs[k] = ys[k] then compR (xs.drop (k + 1)) (ys.drop (k + 1)) else cellCmp xs[k] ys[k] := by
  rw [List.drop_eq_getElem_cons hx, List.drop_eq_getElem_cons hy]; rfl
theorem compR_end {xs ys : List Cel} {k : Nat} (h : xs.length ≤ k ∨ ys.length ≤ k) : compR (xs.drop k) (ys.drop k) = 0 := by
  rcases h with h | h
  · rw [List.drop_eq_nil_of_le h]; simp [compR]
  · rw [List.drop_eq_nil_of_le h]; cases xs.drop k <;> simp [compR]
theorem cmp_neg {x y : Cel} (h : x.k < y.k ∨ x.k = y.k ∧ (x.n < y.n ∨ x.n = y.n ∧ Op.bytesLess x.s.toList y.s.toList = true)) : cellCmp x y = -1 := by
  unfold cellCmp cmpI cmpS
  rcases h with h | ⟨h1, h | ⟨h2, h3⟩⟩
  · rw [if_neg (by omega), if_pos h]
  · rw [if_pos h1, if_neg (by omega), if_pos h]
  · rw [if_pos h1, if_pos h2, if_pos h3]
theorem cmp_pos {x y : Cel} (he : ¬ x = y) (h1 : ¬ x.k < y.k) (h : ¬ x.k = y.k ∨ ¬ x.n < y.n ∧ (¬ x.n = y.n ∨ Op.bytesLess x.s.toList y.s.toList = false)) : cellCmp x y = 1 := by
  unfold cellCmp cmpI cmpS
  by_cases h2 : x.k = y.k
  · rw [if_pos h2]
    obtain ⟨h3, h4⟩ := h.resolve_left (fun h => h h2)
    by_cases h5 : x.n = y.n
    · rw [if_pos h5, if_neg (by rw [h4.resolve_left (fun h => h h5)]; simp)]
      rw [if_neg]
      intro e
      exact he ((Cel.eq_iff x y).2 ⟨h2, e, h5⟩)
    · rw [if_neg h5, if_neg h3, if_pos (by omega)]
  · rw [if_neg h2, if_neg h1, if_pos (by omega)]

theorem ground_take {xs : List Cel} {k : Nat} (h : k < xs.length) (h1 : groundB (xs.take k) = true) (h2 : ¬ xs[k].k = 1) : groundB (xs.take (k + 1)) = true := by
  rw [List.take_succ_eq_append_getElem h]
  unfold groundB at h1 ⊢
  rw [List.all_append, h1]; simp [h2]
theorem ground_bad {xs : List Cel} {k : Nat} (h : k < xs.length) (h2 : xs[k].k = 1) : groundB xs = false := by
  unfold groundB
  rw [List.all_eq_false]
  exact ⟨xs[k], List.getElem_mem h, by simp [h2]⟩

end Go.Proofs.YtabjghmfjoefpaaDoor
namespace Go.Proofs.YtabjghmfjoefpaaDoor
open Go.RowKit

theorem Tryd.infoSl : (Tryd.prog.info? 22).map (fun i => (i.zero, i.size, i.bytes)) = some (some (.slice none 0 0), 1, 24) := by kernel_rfl
theorem passI_at {xs : List Cel} {j : Nat} (h : rightB xs = true) (hj : j < ar0 xs) : passI xs (aN xs j) = aN xs (j + 1) := by
  unfold passI; rw [if_pos (by omega), Int.toNat_natCast, (right_next h hj).2]
theorem take_drop_len {xs : List Cel} {j : Nat} (h : rightB xs = true) (hj : j < ar0 xs) : aN xs (j + 1) - aN xs j = (partJ xs j).length := (partJ_length h hj).symm

set_option maxHeartbeats 1600000 in
theorem parts_any (a : Option Addr) (cap : Nat) (w : World) (xs : List Cel) (hr : Row w a cap xs) (hR : rightB xs = true) :
    Calls Tryd.prog 78 #[.slice a xs.length cap] w fun e w' => ∃ a' cap', e = .returned (.slice a' (partsL xs).length cap') ∧ Row w' a' cap' (partsL xs) ∧ Below w.heap.size w w' := by
  have hm := hr.max
  have hle := hr.le
  have h6 := ar_le6 hR
  obtain ⟨c, l, e0, hc, _, h200⟩ := right_sk hR
  have h0 : 0 < xs.length := by rw [e0]; simp
  have hc0 : xs[0] = c := by simp [e0]
  have har : ar0 xs = ar xs[0] := by rw [hc0, e0]; rfl
  have HA : Hid (arI xs[0] = ar0 xs) := by rw [Hid, har, hc0]; exact arI_ar hc
  have HR := mkHid hR
  clear hR e0 hc hc0 har
  obtain ⟨b, off, rfl, hb, hat⟩ := hr.cases.resolve_left (fun e => by simp [e] at h0)
  go_enter Tryd.func78, Tryd.ntmps78
  go_wp2_with (first
    | (go_at_call 56; refine (right_any _ cap _ xs hr).mono ?_; rintro e w1 ⟨rfl, hb1⟩; rw [HR.out]; obtain ⟨c0, c1, c2, hf⟩ := cel_at hat hb1 h0; simp only [Nat.zero_mul, Nat.add_zero] at c0 c1 c2)
    | (go_at_call 94; refine (arguments_any xs[0] _).mono ?_; rintro e w2 ⟨rfl, hb2⟩; rw [HA.out]))
  have hb12 := hb1.then hb2
  clear c0 c1 c2
  go_loopw [3, 4, 13] (fun v i j wr => ∃ (k : Nat) (vs : List Value), k ≤ ar0 xs ∧ j = .int .i64 k ∧ i = .int .i64 (aN xs k) ∧ wr.ownsRow w.heap.size 22 1 v k vs ∧ Below w.heap.size w wr ∧ Hid (SlRows (hide v.ownBlock wr) vs ((List.range k).map (partJ xs)))) (fun v i j wr => ar0 xs - (intOf j).toNat)
  case atStart => exact ⟨0, [], Nat.zero_le _, rfl, by unfold aN; rw [afterI_zero (by omega)]; rfl, World.ownsRow_nil _ _ _ _, hb12, SlRows.nil _⟩
  case round =>
    obtain ⟨k, vs, hk, rfl, rfl, hown, hbl, HS⟩ := hrel
    by_cases hlt : k < ar0 xs
    · have hra := (right_after HR.out hk).2
      have hrb := (right_after HR.out (show k + 1 ≤ ar0 xs from hlt)).2
      have hrn := (right_next HR.out hlt).1
      have HP := mkHid (passI_at HR.out hlt)
      obtain ⟨q1, q2, _⟩ := hra
      obtain ⟨q3, q4, _⟩ := hrb
      have hr1 := hr.below hbl
      go_wp2_with (go_at_call 75; refine (behind_any _ cap (aN xs k) _ xs hr1 (by omega) (by omega) (by omega)).mono ?_; rintro e w3 ⟨rfl, hb3⟩; rw [HP.out])
      have hrow3 := (hr1.below hb3).slice (i := aN xs k) (j := aN xs (k + 1)) (by omega) q4
      have hfit : ∀ c ∈ partJ xs k, c.fit := hrow3.fit
      refine (clone_any' _ _ _ _ (partJ xs k) (take_drop_len HR.out hlt) hrow3 (by have := partJ_length HR.out hlt; omega)).mono ?_
      rintro e w4 ⟨v1, rfl, hown4, hb4⟩
      have hown1 := own_below (own_below hown hb3) hb4
      have hlt4 := hown4.lt
      obtain ⟨a1, cap1, rfl, hrow4⟩ := own_row (own_hide (r := u3.ownBlock) hown4 (fun g hg => (own_below hown hb3).lt g hg |>.2)) hfit
      have hbl4 := (hbl.then hb3).then hb4
      have HS4 := mkHid (((HS.out.keeps (below_hide hb3 _)).keeps (below_hide hb4 _)).snoc hrow4)
      go_wp2_with (at_builtin; refine wpList_app2 rfl _ _ 58 rfl w.heap.size 22 1 24 _ Tryd.underlying58 Tryd.infoSl rfl (by decide) (by decide) _ k _ rfl (hown1.alloc _) ⟨_, 0, none⟩ 1 1 [.slice a1 (partJ xs k).length cap1] rfl (src_new _ #[.slice a1 (partJ xs k).length cap1] _ 1 rfl (by simp [Value.oneCell'])) (by omega) (Nat.le_trans hbl4.size (by simp)) ?_; intro v' w5 hown5 _ hb5 hk5)
      go_round
      case rel => exact ⟨k + 1, vs ++ [.slice a1 (partJ xs k).length cap1], by omega, by go_num, rfl, hown5, (hbl4.new _).trans hb5, by rw [parts_succ]; exact (HS4.out.keeps (alloc_hide _ _ _)).keeps hk5⟩
      case measure => simp [intOf]; omega
    · obtain rfl : k = ar0 xs := by omega
      have hS := HS.out.keeps (hide_keeps _ _)
      have hl : (partsL xs).length = ar0 xs := by simp [partsL]
      obtain ⟨a', cap', rfl, hrow'⟩ := own_rowL (e := 22) (B := w.heap.size) (v := u3) (ps := partsL xs) (by rw [hl]; exact hown) hS
      have HL := mkHid hl
      clear hl
      go_wp2
      go_ret
      exact ⟨a', cap', rfl, hrow', hbl⟩
end Go.Proofs.YtabjghmfjoefpaaDoor
namespace Go.Proofs.YtabjghmfjoefpaaDoor
open Go.RowKit

set_option maxHeartbeats 1600000 in
theorem refparts_any (a : Option Addr) (cap : Nat) (w : World) (xs : List Cel) (hr : Row w a cap xs) (hR : rightB xs = true) :
    Calls Tryd.prog 38 #[.slice a xs.length cap] w fun e w' => ∃ a' cap', e = .returned (.slice a' (partsL xs).length cap') ∧ Row w' a' cap' (partsL xs) ∧ Below w.heap.size w w' := by
  have hm := hr.max
  have hle := hr.le
  have h6 := ar_le6 hR
  obtain ⟨c, l, e0, hc, _, h200⟩ := right_sk hR
  have h0 : 0 < xs.length := by rw [e0]; simp
  have hc0 : xs[0] = c := by simp [e0]
  have har : ar0 xs = ar xs[0] := by rw [hc0, e0]; rfl
  have hm0 := World.ownsRow_made (base := w.heap.size) (e := 22) (size := 1) w #[] 0 (Nat.le_refl _) (by unfold maxLen; omega) rfl
  have hb0 := (Below.refl w.heap.size w).new (.cells #[] 22)
  have hl0 : ((xs.length : Int) == 0) = false := by simp; intro e; simp [e] at h0
  obtain ⟨b, off, rfl, hb, hat⟩ := hr.cases.resolve_left (fun e => by simp [e] at h0)
  obtain ⟨c0, c1, c2, hf⟩ := cel_at hat (Below.refl _ _) h0
  simp only [Nat.zero_mul, Nat.add_zero] at c0 c1 c2
  by_cases h3 : xs[0].k = 3
  · have t3 : (xs[0].k != 3) = false := by simp [h3]
    have hn : xs[0].n = ar0 xs := by
      have := arI_ar hc; rw [← hc0] at this; rw [har, ← this]; unfold arI; rw [if_pos h3]
    have HN := mkHid hn
    have HR := mkHid hR
    clear hR e0 hc hc0 har h3 hn
    go_enter Tryd.func38, Tryd.ntmps38
    go_wp2_with fail
    go_loopw [3, 4, 5] (fun v i j wr => ∃ (k : Nat) (vs : List Value), k ≤ ar0 xs ∧ j = .int .i64 k ∧ i = .int .i64 (aN xs k) ∧ wr.ownsRow w.heap.size 22 1 v k vs ∧ Below w.heap.size w wr ∧ Hid (SlRows w vs ((List.range k).map (partJ xs)))) (fun v i j wr => ar0 xs - (intOf j).toNat)
    case atStart => exact ⟨0, [], Nat.zero_le _, rfl, by unfold aN; rw [afterI_zero (by omega)]; rfl, hm0, hb0, SlRows.nil _⟩
    case round =>
      obtain ⟨k, vs, hk, rfl, rfl, hown, hbl, HS⟩ := hrel
      have d2 : wr.cell? ⟨b, off + 2, none⟩ = some (.int .i64 (ar0 xs)) := by rw [← HN.out]; exact keep c2 hbl
      clear c0 c1 c2
      by_cases hlt : k < ar0 xs
      · have hra := (right_after HR.out hk).2
        have hrb := (right_after HR.out (show k + 1 ≤ ar0 xs from hlt)).2
        have hrn := (right_next HR.out hlt).1
        have HP := mkHid (right_next HR.out hlt).2
        obtain ⟨q1, q2, _⟩ := hra
        obtain ⟨q3, q4, _⟩ := hrb
        have hr1 := hr.below hbl
        have hrow3 := hr.slice (i := aN xs k) (j := aN xs (k + 1)) (by omega) q4
        have HS4 := mkHid (HS.out.snoc hrow3)
        have HL := mkHid (take_drop_len HR.out hlt)
        go_wp2_with (first
          | (go_at_call 51; refine (refend_any _ cap (aN xs k) _ xs hr1 (by omega) (by omega)).mono ?_; rintro e w3 ⟨rfl, hb3⟩; rw [HP.out]; have hown3 := own_below hown hb3; have hbl3 := hbl.then hb3)
          | (at_builtin; refine wpList_app rfl _ _ 58 rfl w.heap.size 22 1 24 _ Tryd.underlying58 Tryd.infoSl rfl (by decide) (by decide) _ k _ rfl (hown3.alloc _) (some ⟨_, 0, none⟩) 1 1 [.slice (some ⟨b, off + aN xs k * 3, none⟩) (aN xs (k + 1) - aN xs k) (cap - aN xs k)] rfl (src_new _ #[.slice (some ⟨b, off + aN xs k * 3, none⟩) (aN xs (k + 1) - aN xs k) (cap - aN xs k)] _ 1 rfl (by simp [Value.oneCell'])) (by omega) (Nat.le_trans hbl3.size (by simp)) ?_; intro v' w5 hown5 _ hb5))
        go_round
        case rel => exact ⟨k + 1, vs ++ [.slice (some ⟨b, off + aN xs k * 3, none⟩) (aN xs (k + 1) - aN xs k) (cap - aN xs k)], by omega, by go_num, rfl, hown5, (hbl3.new _).trans hb5, by rw [parts_succ, HL.out]; exact HS4.out⟩
        case measure => simp [intOf]; omega
      · obtain rfl : k = ar0 xs := by omega
        have hl : (partsL xs).length = ar0 xs := by simp [partsL]
        obtain ⟨a', cap', rfl, hrow'⟩ := own_rowL (e := 22) (B := w.heap.size) (v := u3) (ps := partsL xs) (by rw [hl]; exact hown) (HS.out.keeps (Keeps.of hbl))
        have HL := mkHid hl
        clear hl
        go_wp2
        go_ret
        exact ⟨a', cap', rfl, hrow', hbl⟩
  · have t3 : (xs[0].k != 3) = true := by simp [h3]
    have hp : partsL xs = [] := by unfold partsL; rw [har]; unfold ar; rw [if_neg h3]; rfl
    have HP := mkHid hp
    clear hR e0 hc hc0 har h3 hp
    go_enter Tryd.func38, Tryd.ntmps38
    go_wp2_with fail
    go_ret
    rw [HP.out]
    exact ⟨_, _, rfl, Row.empty _ _ _ (by omega) (by simp), hb0⟩

theorem sameall_ne {xs ys : List (List Cel)} {k : Nat} (hx : k < xs.length) (hy : k < ys.length) (h : ¬ xs[k] = ys[k]) : ¬ xs = ys := by
  intro e; subst e; exact h rfl
end Go.Proofs.YtabjghmfjoefpaaDoor
set_option linter.unusedVariables false
namespace Go.Proofs.YtabjghmfjoefpaaDoor
open Go.RowKit

/-- a text of these bytes -/
def tx (l : List UInt8) : ByteArray := ⟨l.toArray⟩
theorem tx_size (l : List UInt8) : (tx l).size = l.length := by show l.toArray.size = _; simp
theorem tx_append (a b : List UInt8) : tx a ++ tx b = tx (a ++ b) := by
  apply ByteArray.ext; apply Array.ext'; simp [tx]
/-- the document's text of terms of so many cells -/
def RefT (N : Nat) : Prop := ∀ (t : Tm) (a : Option Addr) (cap : Nat) (w : World), t.ok → t.flat.length ≤ N → (textT t).length ≤ 1000000000 → Row w a cap t.flat →
  Calls Tryd.prog 17 #[.slice a t.flat.length cap] w fun e w' => e = .returned (.string (tx (textT t))) ∧ Below w.heap.size w w'
def sepT (ts : List Tm) (k : Nat) : List UInt8 := sepL [44] (textsT (ts.take k))
theorem sepT_zero (ts : List Tm) : sepT ts 0 = [] := rfl
theorem sepT_one (ts : List Tm) (h : 0 < ts.length) : sepT ts 1 = textT ts[0] := by
  cases ts with
  | nil => cases h
  | cons t r => simp [sepT, textsT, sepL]
theorem sepT_succ (ts : List Tm) {k : Nat} (h : k < ts.length) (h0 : 0 < k) : sepT ts (k + 1) = sepT ts k ++ ([44] ++ textT ts[k]) := by
  unfold sepT
  have e : textsT (ts.take (k + 1)) = textsT (ts.take k) ++ [textT ts[k]] := by
    rw [List.take_succ_eq_append_getElem h, textsT, List.map_append]; rfl
  rw [e, sepL_snoc]
  intro e'
  have := congrArg List.length e'
  rw [textsT, List.length_map, List.length_take, Nat.min_eq_left (by omega), List.length_nil] at this
  omega
theorem sepT_step (ts : List Tm) {k : Nat} (h : k < ts.length) : (sepT ts k).length ≤ (sepT ts (k + 1)).length ∧ (textT ts[k]).length ≤ (sepT ts (k + 1)).length := by
  by_cases h0 : 0 < k
  · rw [sepT_succ ts h h0]; simp; omega
  · obtain rfl : k = 0 := by omega
    rw [sepT_zero, sepT_one ts h]; simp
theorem sepT_mono (ts : List Tm) {j k : Nat} (hjk : j ≤ k) (hk : k ≤ ts.length) : (sepT ts j).length ≤ (sepT ts k).length := by
  induction k with
  | zero => have : j = 0 := by omega
            rw [this]; exact Nat.le_refl _
  | succ k ih =>
    by_cases e : j = k + 1
    · rw [e]; exact Nat.le_refl _
    · exact Nat.le_trans (ih (by omega) (by omega)) (sepT_step ts (by omega)).1
theorem sepT_all (ts : List Tm) : sepT ts ts.length = sepL [44] (textsT ts) := by unfold sepT; rw [List.take_length]

set_option maxHeartbeats 2000000 in
set_option maxRecDepth 100000 in
theorem rTexts_any {N : Nat} (H : RefT N) (ts : List Tm) (a : Option Addr) (cap : Nat) (w : World) (hok : oks ts) (hN : ∀ t ∈ ts, t.flat.length ≤ N) (hlen : (sepL [44] (textsT ts)).length ≤ 1000000000) (hr : Row w a cap (ts.map Tm.flat)) :
    Calls Tryd.prog 40 #[.slice a ts.length cap] w fun e w' => e = .returned (.string (tx (sepL [44] (textsT ts)))) ∧ Below w.heap.size w w' := by
  have hm := hr.max
  have hle := hr.le
  rw [List.length_map] at hle
  have HH := mkHid H
  have HO := mkHid hok
  have HNN := mkHid hN
  have HS : Hid (∀ k, k ≤ ts.length → (sepT ts k).length ≤ 1000000000) := mkHid fun k hk => by
    have := sepT_mono ts hk (Nat.le_refl _)
    rw [sepT_all] at this; omega
  have HA := mkHid (sepT_all ts)
  clear hlen hok hN H
  go_enter Tryd.func40, Tryd.ntmps40
  go_wp2
  go_loopw [3, 4] (fun s i wr => ∃ k : Nat, k ≤ ts.length ∧ i = .int .i64 k ∧ s = .string (tx (sepT ts k)) ∧ Below w.heap.size w wr) (fun s i wr => ts.length - (intOf i).toNat)
  case atStart => exact ⟨0, Nat.zero_le _, rfl, rfl, Below.refl _ _⟩
  case round =>
    obtain ⟨k, hk, rfl, rfl, hb⟩ := hrel
    rename World => W
    by_cases hlt : k < ts.length
    · have hlt' : k < (ts.map Tm.flat).length := by simpa using hlt
      obtain ⟨b, off, rfl, hbl, hat⟩ := hr.cases.resolve_left (fun e => by rw [e] at hlt'; simp at hlt')
      obtain ⟨a1, cap1, d0, r1⟩ := list_at hat hb hlt'
      rw [List.getElem_map] at d0 r1
      have hsz := HS.out (k + 1) (by omega)
      have hst := sepT_step ts hlt
      have HC := mkHid (HH.out ts[k] a1 cap1 W (oks_mem HO.out _ (List.getElem_mem hlt)) (HNN.out _ (List.getElem_mem hlt)) (by omega) r1)
      have HB := mkHid hb
      obtain ⟨s, hs⟩ : ∃ s, s = tx (sepT ts k) := ⟨_, rfl⟩
      obtain ⟨u, hu⟩ : ∃ u, u = tx (textT ts[k]) := ⟨_, rfl⟩
      have hs1 : s.size ≤ 1000000000 := by rw [hs, tx_size]; omega
      have hu1 : u.size ≤ 1000000000 := by rw [hu, tx_size]; omega
      rw [← hu] at HC
      have HSK := mkHid hs
      have HUK := mkHid hu
      rw [← hs]
      clear hs hu hst hsz hb hat r1 hbl hr
      by_cases h0 : 0 < k
      · have HE : Hid (s ++ tx [44] ++ u = tx (sepT ts (k + 1))) := mkHid (by rw [HSK.out, HUK.out, sepT_succ ts hlt h0, tx_append, tx_append, List.append_assoc])
        go_wp2_with fail
        refine HC.out.mono ?_; rintro e w2 ⟨rfl, hb2⟩
        have HB2 := mkHid hb2
        clear hb2
        go_wp2
        go_round
        case rel => exact ⟨k + 1, by omega, by go_num, by rw [← HE.out]; rfl, HB.out.then HB2.out⟩
        case measure => simp [intOf]; omega
      · obtain rfl : k = 0 := by omega
        have d0' : W.cell? ⟨b, off, none⟩ = some (.slice a1 ts[0].flat.length cap1) := by
          have h := d0
          simp only [Nat.zero_mul, Nat.add_zero] at h
          exact h
        clear d0
        have HE : Hid (s ++ u = tx (sepT ts (0 + 1))) := mkHid (by rw [HSK.out, HUK.out, sepT_zero, sepT_one ts hlt, tx_append]; rfl)
        go_wp2_with fail
        refine HC.out.mono ?_; rintro e w2 ⟨rfl, hb2⟩
        have HB2 := mkHid hb2
        clear hb2
        go_wp2
        go_round
        case rel => exact ⟨0 + 1, by omega, by go_num, by rw [← HE.out], HB.out.then HB2.out⟩
        case measure => simp [intOf]; omega
    · obtain rfl : k = ts.length := by omega
      have HB := mkHid hb
      clear hb
      go_wp2
      go_ret
      exact ⟨by rw [← HA.out]; rfl, HB.out⟩
end Go.Proofs.YtabjghmfjoefpaaDoor
set_option linter.unusedVariables false
namespace Go.Proofs.YtabjghmfjoefpaaDoor
open Go.RowKit

/-! ### names made of any bytes -/
namespace Md
/-- a name's byte, made of any -/
def nameByte (c : UInt8) : UInt8 := if 32 + c.toNat % 95 = 39 then 120 else UInt8.ofNat (32 + c.toNat % 95)
def nameMade (s : List UInt8) : List UInt8 := if s = [] then [97] else (s.take 12).map nameByte
theorem nameByte_ok (c : UInt8) : okByte (nameByte c) = true := by
  have h : ∀ i : Fin 256, okByte (nameByte (UInt8.ofFin i)) = true := by decide +kernel
  exact h c.toFin
theorem nameByte_val (c : UInt8) : (if (32 : Int) + (c.toNat : Int) % 95 = 39 then 120 else (32 : Int) + (c.toNat : Int) % 95) = ((nameByte c).toNat : Int) := by
  have h : ∀ i : Fin 256, (if (32 : Int) + ((UInt8.ofFin i).toNat : Int) % 95 = 39 then 120 else (32 : Int) + ((UInt8.ofFin i).toNat : Int) % 95) = ((nameByte (UInt8.ofFin i)).toNat : Int) := by decide +kernel
  exact h c.toFin
theorem nameMade_len (s : List UInt8) : 1 ≤ (nameMade s).length ∧ (nameMade s).length ≤ 12 := by
  unfold nameMade
  split
  · simp
  · next h =>
    have := List.length_pos_iff.2 h
    simp; omega
theorem nameMade_ok (s : List UInt8) : nameOk (tx (nameMade s)) = true := by
  have hl := nameMade_len s
  unfold nameOk
  rw [tx_size]
  simp only [Bool.and_eq_true, decide_eq_true_eq]
  refine ⟨⟨?_, by omega⟩, by omega⟩
  rw [List.all_eq_true]
  intro c hc
  have hc' : c ∈ nameMade s := by simpa [tx] using hc
  unfold nameMade at hc'
  split at hc'
  · simp at hc'; subst hc'; decide +kernel
  · obtain ⟨d, _, rfl⟩ := List.mem_map.1 hc'
    exact nameByte_ok d

/-- append of one byte, laid just ahead of it -/
theorem wpList_layB {w : World} {ops : Array Oper} {rest : List Oper} {o : Oper} {a : Act} {Q : Exit → Act → World → Prop} (hg : o.guard = none) (s x : Operand) (hop : o.op = Op.call { callee := Callee.builtin Builtin.append, args := #[s, x], argTypes := #[66, 66] })
    (B : Nat) (v : Value) (l : List UInt8) (c : UInt8) (z : Int) (hz : z = (c.toNat : Int)) (hT : w.ownsRow B 5 1 v l.length (Lib.byteCells l)) (hs : a.eval s = v) (hx : a.eval x = .slice (some ⟨w.heap.size, 0, none⟩) 1 1) (hB : B ≤ w.heap.size) (hl : l.length ≤ 1000000)
    (hK : ∀ v' w', w'.ownsRow B 5 1 v' (l.length + 1) (Lib.byteCells (l ++ [c])) → Below B w w' → (∃ g cap, v' = .slice (some ⟨g, 0, none⟩) (l.length + 1) cap) → wpList Tryd.prog ops Q rest (a.put o.dst v') w') :
    wpList Tryd.prog ops Q (o :: rest) a (w.alloc (.cells #[.int .u8 z] 5)) := by
  subst hz
  refine wpList_plain hg fun K hK' => ?_
  obtain ⟨i, hi, hz0, hz1, hz2⟩ := info_parts w_byte
  obtain ⟨v', w', hrun, h2, h3, h4⟩ := run_append_own (P := Tryd.prog) (w.alloc (.cells #[.int .u8 (c.toNat : Int)] 5)) B 66 o.type 5 i _ 1 1 w_bytes hi hz0 hz1 hz2 rfl (by omega) _ l.length _ (World.ownsRow.alloc hT _)
    ⟨w.heap.size, 0, none⟩ 1 1 [.int .u8 (c.toNat : Int)] rfl (by
      intro j u hj
      match j, hj with
      | 0, hj => simp at hj; subst hj; simp [Addr.add, World.cell?_alloc_at]
      | j + 1, hj => simp at hj) (by intro u hu; simp at hu; subst hu; rfl) (by unfold maxLen; omega) (by omega) (by simp; omega)
  have hlt := World.ownsRow.lt hT
  have hb : Below B w w' := by
    refine ⟨h3.os, h3.tape, h3.output, by have := h3.size; simp at this; omega, fun k hk => ?_⟩
    exact (h3.block k (by simp; omega) (fun e => by have := (hlt k e.symm).1; omega)).trans (heap_alloc_old _ _ (by omega))
  have hlast : ∃ g cap, v' = .slice (some ⟨g, 0, none⟩) (l.length + 1) cap := by
    rcases h2.2 with ⟨_, h0⟩ | ⟨g, cap, _, e, _⟩
    · omega
    · exact ⟨g, cap, e⟩
  unfold Oper.wp execOp
  simp [hop, resolve, invoke, builtin, hs, hx, hrun, Result.andThen]
  exact hK' _ _ (hK v' w' (by simpa [Lib.byteCells] using h2) hb hlast)
/-- the bytes of a row that is the call's own, as a text -/
theorem own_text {w : World} {B : Nat} {v : Value} {l : List UInt8} (h : w.ownsRow B 5 1 v l.length (Lib.byteCells l)) (g cap : Nat) (hv : v = .slice (some ⟨g, 0, none⟩) l.length cap) :
    (convert 66 9 (.slice (some ⟨g, 0, none⟩) l.length cap)).run Tryd.prog w = .ok (.string (tx l)) w := by
  have hu : Tryd.prog.underlying 5 = some (.int .u8) := by kernel_rfl
  refine run_convert_bytes_back (P := Tryd.prog) _ 66 9 5 ⟨g, 0, none⟩ cap l w_bytes hu w_string (fun j hj => ?_)
  have := World.ownsRow.cells h (g := g) (by rw [hv]; rfl) j (.int .u8 (l[j].toNat : Int)) (by simp [Lib.byteCells, hj])
  simpa using this
end Md
open Md
set_option maxHeartbeats 2000000 in
set_option maxRecDepth 100000 in
theorem rname_any (s : ByteArray) (w : World) :
    Calls Tryd.prog 33 #[.string s] w fun e w' => e = .returned (.string (tx (nameMade s.data.toList))) ∧ Below w.heap.size w w' := by
  have hown0 : (w.alloc (.cells #[] 5)).ownsRow w.heap.size 5 1 (.slice (some ⟨w.heap.size, 0, none⟩) 0 0) ([] : List UInt8).length (Lib.byteCells []) := World.ownsRow_made (base := w.heap.size) (e := 5) (size := 1) w #[] 0 (Nat.le_refl _) (by unfold maxLen; omega) rfl
  have HO := mkHid hown0
  have hb0 := (Below.refl w.heap.size w).new (.cells #[] 5)
  clear hown0
  go_enter Tryd.func33, Tryd.ntmps33
  go_wp2
  go_loopw [3, 4, 5] (fun v i cc wr => ∃ (k g cap : Nat), i = .int .i64 k ∧ v = .slice (some ⟨g, 0, none⟩) k cap ∧ k ≤ 12 ∧ k ≤ s.size ∧ Hid (wr.ownsRow w.heap.size 5 1 (.slice (some ⟨g, 0, none⟩) k cap) k (Lib.byteCells ((s.data.toList.take k).map nameByte))) ∧ Below w.heap.size w wr) (fun v i cc wr => 12 - (intOf i).toNat)
  case atStart => exact ⟨0, w.heap.size, 0, rfl, rfl, by omega, by omega, HO, hb0⟩
  case round =>
    obtain ⟨k, g, cap, rfl, rfl, hk1, hk2, HOWN, hb⟩ := hrel
    have hsl : s.data.toList.length = s.size := by simp
    by_cases hlt : k < s.size
    · by_cases h12 : k < 12
      · have HTK := mkHid (take_snocB s k hlt)
        have HLK : Hid (((s.data.toList.take k).map nameByte).length = k) := by rw [Hid, List.length_map, List.length_take]; omega
        have HO2 : Hid (wr.ownsRow w.heap.size 5 1 (.slice (some ⟨g, 0, none⟩) k cap) ((s.data.toList.take k).map nameByte).length (Lib.byteCells ((s.data.toList.take k).map nameByte))) := by rw [Hid, HLK.out]; exact HOWN.out
        have HV := mkHid (nameByte_val s[k])
        have HB := mkHid hb
        clear hb HOWN hsl
        by_cases hc : (32 : Int) + (s[k].toNat : Int) % 95 = 39
        · have HZ : Hid ((120 : Int) = ((nameByte s[k]).toNat : Int)) := by rw [Hid, ← HV.out, if_pos hc]
          go_wp2_with (at_builtin; refine wpList_layB rfl _ _ rfl w.heap.size _ ((s.data.toList.take k).map nameByte) (nameByte s[k]) _ HZ.out HO2.out rfl rfl HB.out.size (by rw [HLK.out]; omega) ?_; intro v2 w2 h1 h2 h3; obtain ⟨g2, cap2, rfl⟩ := h3)
          rw [HLK.out] at h1
          go_round
          case rel => exact ⟨k + 1, g2, cap2, by go_num, rfl, by omega, by omega, by rw [Hid, HTK.out, List.map_append]; exact h1, HB.out.trans h2⟩
          case measure => simp [intOf]; omega
        · have HZ : Hid ((32 : Int) + (s[k].toNat : Int) % 95 = ((nameByte s[k]).toNat : Int)) := by rw [Hid, ← HV.out, if_neg hc]
          go_wp2_with (at_builtin; refine wpList_layB rfl _ _ rfl w.heap.size _ ((s.data.toList.take k).map nameByte) (nameByte s[k]) _ HZ.out HO2.out rfl rfl HB.out.size (by rw [HLK.out]; omega) ?_; intro v2 w2 h1 h2 h3; obtain ⟨g2, cap2, rfl⟩ := h3)
          rw [HLK.out] at h1
          go_round
          case rel => exact ⟨k + 1, g2, cap2, by go_num, rfl, by omega, by omega, by rw [Hid, HTK.out, List.map_append]; exact h1, HB.out.trans h2⟩
          case measure => simp [intOf]; omega
      · have hne : s.data.toList ≠ [] := fun e => by rw [e] at hsl; simp at hsl; omega
        have HN : Hid (nameMade s.data.toList = (s.data.toList.take k).map nameByte) := by rw [Hid, nameMade, if_neg hne, show k = 12 by omega]
        have HLK : Hid (((s.data.toList.take k).map nameByte).length = k) := by rw [Hid, List.length_map, List.length_take]; omega
        have HT := mkHid (own_text (l := (s.data.toList.take k).map nameByte) (by rw [HLK.out]; exact HOWN.out) g cap (by rw [HLK.out]))
        have htt := HT.out
        rw [HLK.out] at htt
        have HB := mkHid hb
        have hk3 : 12 ≤ k := by omega
        clear hb hne hsl
        go_wp2
        go_ret
        exact ⟨by rw [HN.out, List.map_take]; rfl, HB.out⟩
    · have hk0 : k = s.size := by omega
      subst hk0
      have HLK : Hid ((s.data.toList.map nameByte).length = s.size) := by rw [Hid, List.length_map]; exact hsl
      have HOWN' : Hid (wr.ownsRow w.heap.size 5 1 (.slice (some ⟨g, 0, none⟩) s.size cap) s.size (Lib.byteCells (s.data.toList.map nameByte))) := by have h := HOWN.out; rwa [List.take_of_length_le (by omega)] at h
      have htt := own_text (l := s.data.toList.map nameByte) (by rw [HLK.out]; exact HOWN'.out) g cap (by rw [HLK.out])
      rw [HLK.out] at htt
      have HB := mkHid hb
      by_cases h0 : s.size = 0
      · have HN : Hid (nameMade s.data.toList = [97]) := by rw [Hid, nameMade, if_pos (List.eq_nil_of_length_eq_zero (by omega))]
        clear hb hsl HOWN HOWN' htt
        have h0' : s.size ≤ 0 := by omega
        clear h0
        go_wp2
        go_ret
        exact ⟨by rw [HN.out]; rfl, HB.out⟩
      · have HN : Hid (nameMade s.data.toList = s.data.toList.map nameByte) := by rw [Hid, nameMade, if_neg (fun e => h0 (by rw [← hsl, e]; rfl)), List.take_of_length_le (by omega)]
        have h0' : 0 < s.size := by omega
        clear hb hsl HOWN HOWN' h0
        go_wp2
        go_ret
        exact ⟨by rw [HN.out]; rfl, HB.out⟩
end Go.Proofs.YtabjghmfjoefpaaDoor
namespace Go.Proofs.YtabjghmfjoefpaaDoor
open Go.RowKit

/-- a literal -/
structure Lt where
  neg : Bool
  t : List Cel
  deriving DecidableEq
/-- a clause -/
structure Cl where
  h : List Cel
  b : List Lt
  deriving DecidableEq
/-- a predicate -/
structure Pd where
  s : ByteArray
  n : Int
  deriving DecidableEq
/-- a link -/
structure Lk where
  f : Int
  t : Int
  neg : Bool
  deriving DecidableEq

structure LtE (w : World) (b o : Nat) (x : Lt) : Prop where
  ex : ∃ a cap, w.cell? ⟨b, o, none⟩ = some (.bool x.neg) ∧ w.cell? ⟨b, o + 1, none⟩ = some (.slice a x.t.length cap) ∧ Row w a cap x.t
instance instRepCLt : RepC Lt where
  sz := 2
  E := LtE
  mono h hb := let ⟨a, cap, h0, h1, hr⟩ := h.ex; ⟨⟨a, cap, hb _ _ _ h0, hb _ _ _ h1, hr.keeps hb⟩⟩
  lt h := let ⟨_, _, h0, _⟩ := h.ex; cell_lt h0
  C w cs x := ∃ a cap, cs = [.bool x.neg, .slice a x.t.length cap] ∧ Row w a cap x.t
  len := by rintro w cs x ⟨a, cap, rfl, _⟩; rfl
  one := by rintro w cs x ⟨a, cap, rfl, _⟩ u hu; simp at hu; rcases hu with rfl | rfl <;> rfl
  cmono := by rintro w w' cs x ⟨a, cap, rfl, h⟩ hk; exact ⟨a, cap, rfl, h.keeps hk⟩
  toE := by
    rintro w cs x b o ⟨a, cap, rfl, h⟩ hat
    exact ⟨a, cap, hat 0 _ rfl, hat 1 _ rfl, h⟩
  ofE := by
    rintro w x b o ⟨a, cap, h0, h1, h⟩
    refine ⟨_, ⟨a, cap, rfl, h⟩, fun j u hj => ?_⟩
    match j with
    | 0 => simp at hj; subst hj; exact h0
    | 1 => simp at hj; subst hj; exact h1
    | j + 2 => simp at hj
  pos := by decide
structure ClE (w : World) (b o : Nat) (x : Cl) : Prop where
  ex : ∃ a cap a' cap', w.cell? ⟨b, o, none⟩ = some (.slice a x.h.length cap) ∧ w.cell? ⟨b, o + 1, none⟩ = some (.slice a' x.b.length cap') ∧ Row w a cap x.h ∧ Row w a' cap' x.b
instance instRepCCl : RepC Cl where
  sz := 2
  E := ClE
  mono h hb := let ⟨a, cap, a', cap', h0, h1, hr, hr'⟩ := h.ex; ⟨⟨a, cap, a', cap', hb _ _ _ h0, hb _ _ _ h1, hr.keeps hb, hr'.keeps hb⟩⟩
  lt h := let ⟨_, _, _, _, h0, _⟩ := h.ex; cell_lt h0
  C w cs x := ∃ a cap a' cap', cs = [.slice a x.h.length cap, .slice a' x.b.length cap'] ∧ Row w a cap x.h ∧ Row w a' cap' x.b
  len := by rintro w cs x ⟨a, cap, a', cap', rfl, _⟩; rfl
  one := by rintro w cs x ⟨a, cap, a', cap', rfl, _⟩ u hu; simp at hu; rcases hu with rfl | rfl <;> rfl
  cmono := by rintro w w' cs x ⟨a, cap, a', cap', rfl, h, h'⟩ hk; exact ⟨a, cap, a', cap', rfl, h.keeps hk, h'.keeps hk⟩
  toE := by
    rintro w cs x b o ⟨a, cap, a', cap', rfl, h, h'⟩ hat
    exact ⟨a, cap, a', cap', hat 0 _ rfl, hat 1 _ rfl, h, h'⟩
  ofE := by
    rintro w x b o ⟨a, cap, a', cap', h0, h1, h, h'⟩
    refine ⟨_, ⟨a, cap, a', cap', rfl, h, h'⟩, fun j u hj => ?_⟩
    match j with
    | 0 => simp at hj; subst hj; exact h0
    | 1 => simp at hj; subst hj; exact h1
    | j + 2 => simp at hj
  pos := by decide
structure Pd.fit (p : Pd) : Prop where
  s : p.s.size ≤ 9223372036854775807
  n1 : -9223372036854775808 ≤ p.n
  n2 : p.n ≤ 9223372036854775807
structure PdE (w : World) (b o : Nat) (x : Pd) : Prop where
  c0 : w.cell? ⟨b, o, none⟩ = some (.string x.s)
  c1 : w.cell? ⟨b, o + 1, none⟩ = some (.int .i64 x.n)
  fit : x.fit
abbrev Pd.v (p : Pd) : Value := .agg #[.string p.s, .int .i64 p.n]
instance instRepCPd : RepC Pd where
  sz := 2
  E := PdE
  mono h hb := ⟨hb _ _ _ h.c0, hb _ _ _ h.c1, h.fit⟩
  lt h := cell_lt h.c0
  C _ cs x := cs = [.string x.s, .int .i64 x.n] ∧ x.fit
  len := by rintro w cs x ⟨rfl, _⟩; rfl
  one := by rintro w cs x ⟨rfl, _⟩ u hu; simp at hu; rcases hu with rfl | rfl <;> rfl
  cmono := by rintro w w' cs x h _; exact h
  toE := by
    rintro w cs x b o ⟨rfl, h⟩ hat
    exact ⟨hat 0 _ rfl, hat 1 _ rfl, h⟩
  ofE := by
    rintro w x b o ⟨h0, h1, h⟩
    refine ⟨_, ⟨rfl, h⟩, fun j u hj => ?_⟩
    match j with
    | 0 => simp at hj; subst hj; exact h0
    | 1 => simp at hj; subst hj; exact h1
    | j + 2 => simp at hj
  pos := by decide
structure Lk.fit (p : Lk) : Prop where
  f1 : -9223372036854775808 ≤ p.f
  f2 : p.f ≤ 9223372036854775807
  t1 : -9223372036854775808 ≤ p.t
  t2 : p.t ≤ 9223372036854775807
structure LkE (w : World) (b o : Nat) (x : Lk) : Prop where
  c0 : w.cell? ⟨b, o, none⟩ = some (.int .i64 x.f)
  c1 : w.cell? ⟨b, o + 1, none⟩ = some (.int .i64 x.t)
  c2 : w.cell? ⟨b, o + 2, none⟩ = some (.bool x.neg)
  fit : x.fit
abbrev Lk.v (p : Lk) : Value := .agg #[.int .i64 p.f, .int .i64 p.t, .bool p.neg]
instance instRepCLk : RepC Lk where
  sz := 3
  E := LkE
  mono h hb := ⟨hb _ _ _ h.c0, hb _ _ _ h.c1, hb _ _ _ h.c2, h.fit⟩
  lt h := cell_lt h.c0
  C _ cs x := cs = [.int .i64 x.f, .int .i64 x.t, .bool x.neg] ∧ x.fit
  len := by rintro w cs x ⟨rfl, _⟩; rfl
  one := by rintro w cs x ⟨rfl, _⟩ u hu; simp at hu; rcases hu with rfl | rfl | rfl <;> rfl
  cmono := by rintro w w' cs x h _; exact h
  toE := by
    rintro w cs x b o ⟨rfl, h⟩ hat
    exact ⟨hat 0 _ rfl, hat 1 _ rfl, hat 2 _ rfl, h⟩
  ofE := by
    rintro w x b o ⟨h0, h1, h2, h⟩
    refine ⟨_, ⟨rfl, h⟩, fun j u hj => ?_⟩
    match j with
    | 0 => simp at hj; subst hj; exact h0
    | 1 => simp at hj; subst hj; exact h1
    | 2 => simp at hj; subst hj; exact h2
    | j + 3 => simp at hj
  pos := by decide

section
variable {w wr : World} {b off : Nat}
theorem lt_at {xs : List Lt} (hat : ∀ i (hi : i < xs.length), Rep.E w b (off + i * Rep.sz Lt) xs[i]) (hb : Below w.heap.size w wr) {k : Nat} (hk : k < xs.length) :
    ∃ a cap, wr.cell? ⟨b, off + k * 2, none⟩ = some (.bool xs[k].neg) ∧ wr.cell? ⟨b, off + k * 2 + 1, none⟩ = some (.slice a xs[k].t.length cap) ∧ Row wr a cap xs[k].t := by
  have h : LtE w b (off + k * 2) xs[k] := hat k hk
  obtain ⟨a, cap, h0, h1, hr⟩ := h.ex
  exact ⟨a, cap, keep h0 hb, keep h1 hb, hr.below hb⟩
theorem cl_at {xs : List Cl} (hat : ∀ i (hi : i < xs.length), Rep.E w b (off + i * Rep.sz Cl) xs[i]) (hb : Below w.heap.size w wr) {k : Nat} (hk : k < xs.length) :
    ∃ a cap a' cap', wr.cell? ⟨b, off + k * 2, none⟩ = some (.slice a xs[k].h.length cap) ∧ wr.cell? ⟨b, off + k * 2 + 1, none⟩ = some (.slice a' xs[k].b.length cap') ∧ Row wr a cap xs[k].h ∧ Row wr a' cap' xs[k].b := by
  have h : ClE w b (off + k * 2) xs[k] := hat k hk
  obtain ⟨a, cap, a', cap', h0, h1, hr, hr'⟩ := h.ex
  exact ⟨a, cap, a', cap', keep h0 hb, keep h1 hb, hr.below hb, hr'.below hb⟩
theorem pd_at {xs : List Pd} (hat : ∀ i (hi : i < xs.length), Rep.E w b (off + i * Rep.sz Pd) xs[i]) (hb : Below w.heap.size w wr) {k : Nat} (hk : k < xs.length) : PdE wr b (off + k * 2) xs[k] := by
  have h : PdE w b (off + k * 2) xs[k] := hat k hk
  exact ⟨keep h.c0 hb, keep h.c1 hb, h.fit⟩
theorem lk_at {xs : List Lk} (hat : ∀ i (hi : i < xs.length), Rep.E w b (off + i * Rep.sz Lk) xs[i]) (hb : Below w.heap.size w wr) {k : Nat} (hk : k < xs.length) : LkE wr b (off + k * 3) xs[k] := by
  have h : LkE w b (off + k * 3) xs[k] := hat k hk
  exact ⟨keep h.c0 hb, keep h.c1 hb, keep h.c2 hb, h.fit⟩
end

end Go.Proofs.YtabjghmfjoefpaaDoor
