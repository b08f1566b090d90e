import Derived.Test.YtinfefmoiimomaaDoorVP2
import Derived.Test.YtinfefmoiimomaaDoorVP3
namespace Go.Proofs.YtinfefmoiimomaaDoor

/-! ### tokens, written and read again -/
def plainB (l : List UInt8) : Bool := match l with
  | [] => false
  | c :: r => (c :: r).all letterB && smallB c
/-- a token's text, by its kind -/
inductive TokW : Int → List UInt8 → Int → Prop where
  | name {t : List UInt8} (h : plainB t = true) (hl : t.length ≤ 12) : TokW 1 t 0
  | var {c : UInt8} {t : List UInt8} (h : greatB c = true) (ha : (c :: t).all letterB = true) (hl : (c :: t).length ≤ 20000) : TokW 2 (c :: t) 0
  | num {c : UInt8} {t : List UInt8} (h : digitB c = true) (ha : (c :: t).all digitB = true) (hl : decN (c :: t) ≤ 2147483647) : TokW 3 (c :: t) (decN (c :: t))
  | quo {t : List UInt8} (h1 : 1 ≤ t.length) (h2 : t.length ≤ 12) (h3 : t.all seenB = true) (h4 : t.all notQ = true) : TokW 1 t 0
  | punct {c : UInt8} (h : punctB c = true) : TokW 5 [c] 0
  | stop : TokW 6 [46] 0
  | sign {c : UInt8} {t : List UInt8} (h : signB c = true) (ha : (c :: t).all signB = true) (hl : (c :: t).length ≤ 12) : TokW 4 (c :: t) 0
theorem takeWhile_all0 {p : UInt8 → Bool} (l : List UInt8) : (l.takeWhile p).all p = true := by
  induction l with
  | nil => rfl
  | cons c r ih =>
    by_cases h : p c = true
    · rw [List.takeWhile_cons_of_pos h]; simp [h]
    · rw [List.takeWhile_cons_of_neg h]; rfl
theorem TokIs.w {l : List UInt8} {k : Int} {t : List UInt8} {n : Int} {len : Nat} (h : TokIs l k t n len) : TokW k t n := by
  cases h with
  | @name c r h hl =>
    have ha := takeWhile_all0 (p := letterB) (c :: r)
    have hl' : ((c :: r).takeWhile letterB).length ≤ 12 := hl
    rw [List.takeWhile_cons_of_pos (small_letter h)] at ha hl' ⊢
    exact .name (by simp only [plainB, Bool.and_eq_true]; exact ⟨ha, h⟩) hl'
  | @var c r h hl =>
    have ha := takeWhile_all0 (p := letterB) (c :: r)
    have hl' : ((c :: r).takeWhile letterB).length ≤ 20000 := hl
    rw [List.takeWhile_cons_of_pos (great_letter h)] at ha hl' ⊢
    exact .var h ha hl'
  | @num c r h hl =>
    have ha := takeWhile_all0 (p := digitB) (c :: r)
    rw [List.takeWhile_cons_of_pos h] at ha hl ⊢
    exact .num h ha hl
  | quo h =>
    simp only [quoB, Bool.and_eq_true, decide_eq_true_eq] at h
    exact .quo h.1.1.2 h.1.2 h.2 (takeWhile_all0 _)
  | punct h => exact .punct h
  | stop h => exact .stop
  | @sign c r h hs hl =>
    have ha := takeWhile_all0 (p := signB) (c :: r)
    have hl' : ((c :: r).takeWhile signB).length ≤ 12 := hl
    rw [List.takeWhile_cons_of_pos h] at ha hl' ⊢
    exact .sign h ha hl'
theorem tw_whole {p : UInt8 → Bool} {d : UInt8} {t : List UInt8} (h : t.all p = true) (hd : p d = false) (y : List UInt8) : (t ++ d :: y).takeWhile p = t := by
  induction t with
  | nil => simp [hd]
  | cons c r ih =>
    simp only [List.all_cons, Bool.and_eq_true] at h
    rw [List.cons_append, List.takeWhile_cons_of_pos h.1, ih h.2]
theorem runS_whole {p : UInt8 → Bool} {c : UInt8} {t : List UInt8} {k : Int} {most : Nat} (h : (c :: t).all p = true) (hd : p 32 = false) (hl : (c :: t).length ≤ most) (y : List UInt8) :
    runS k p most (c :: (t ++ 32 :: y)) = .tok k (c :: t) 0 (c :: t).length := by
  have e := tw_whole h hd y
  have e2 : span p (c :: (t ++ 32 :: y)) = (c :: t).length := by unfold span; rw [show c :: (t ++ 32 :: y) = (c :: t) ++ 32 :: y from rfl, e]
  unfold runS
  rw [e2, if_neg (by omega), show c :: (t ++ 32 :: y) = (c :: t) ++ 32 :: y from rfl, e]
def writeTok (k : Int) (t : List UInt8) : List UInt8 := if k = 1 ∧ plainB t = false then 39 :: (t ++ [39, 32]) else t ++ [32]
def again (u : Tok) (p : Nat) : Tok := if u.k = 4 ∧ u.s = mkB [46] then ⟨6, u.s, u.n, p⟩ else ⟨u.k, u.s, u.n, p⟩
def ndl (c : UInt8) : Bool := !(smallB c || greatB c || digitB c || punctB c || signB c || c == 39) || (!(blankB c) && !(c == 37))
theorem ndl_all : (List.range 256).all (fun i => ndl (UInt8.ofNat i)) = true := by decide +kernel
theorem ndl_of {c : UInt8} (h : (smallB c || greatB c || digitB c || punctB c || signB c || c == 39) = true) : blankB c = false ∧ (c == 37) = false := by
  have := of_all ndl_all c
  rw [ndl, h] at this
  simp only [Bool.not_true, Bool.false_or, Bool.and_eq_true, Bool.not_eq_true'] at this
  exact this
def sgn (c : UInt8) : Bool := !(signB c) || (!(smallB c) && !(greatB c) && !(digitB c) && !(c == 39) && !(punctB c) && !(blankB c) && !(c == 37))
theorem sgn_all : (List.range 256).all (fun i => sgn (UInt8.ofNat i)) = true := by decide +kernel
def gsd (c : UInt8) : Bool := (!(greatB c) || !(smallB c)) && (!(digitB c) || (!(smallB c) && !(greatB c))) && (!(punctB c) || (!(smallB c) && !(greatB c) && !(digitB c) && !(c == 39)))
theorem gsd_all : (List.range 256).all (fun i => gsd (UInt8.ofNat i)) = true := by decide +kernel
/-- a token, written with a blank behind it, is read as it was -/
theorem lex_tok {k : Int} {t : List UInt8} {n : Int} (h : TokW k t n) (y : List UInt8) (q : Nat) :
    lexW false (writeTok k t ++ y) q = conR (again ⟨k, mkB t, n, 0⟩ q) (lexW false y (q + (writeTok k t).length)) := by
  have key : ∀ {c : UInt8} {x : List UInt8} {k' : Int} {t' : List UInt8} {n' : Int} {len : Nat}, (smallB c || greatB c || digitB c || punctB c || signB c || c == 39) = true → tokL (c :: x) = .tok k' t' n' len → (c :: x).drop len = 32 :: y → (c :: x).length = len + 1 + y.length →
      lexW false (c :: x) q = conR ⟨k', mkB t', n', q⟩ (lexW false y (q + (len + 1))) := by
    intro c x k' t' n' len hc ht hd hlen
    obtain ⟨h1, h2⟩ := ndl_of hc
    rw [lexW_tok h1 h2 ht, hd, lexW_blank (by decide)]
    rfl
  have plainCase : ∀ {t : List UInt8}, plainB t = true → t.length ≤ 12 → lexW false (t ++ [32] ++ y) q = conR ⟨1, mkB t, 0, q⟩ (lexW false y (q + (t ++ [32]).length)) := by
    intro t hp hl
    cases t with
    | nil => cases hp
    | cons c t =>
      simp only [plainB, Bool.and_eq_true] at hp
      have ht : tokL (c :: (t ++ 32 :: y)) = .tok 1 (c :: t) 0 (c :: t).length := by
        simp only [tokL, hp.2, if_true]
        exact runS_whole hp.1 (by decide) hl y
      have := key (c := c) (x := t ++ 32 :: y) (by simp [hp.2]) ht (by simp) (by simp; omega)
      rw [show c :: t ++ [32] ++ y = c :: (t ++ 32 :: y) by simp, this]
      simp
  cases h with
  | name hp hl =>
    have hw : writeTok 1 t = t ++ [32] := by unfold writeTok; rw [if_neg (by rw [hp]; simp)]
    rw [hw, plainCase hp hl]
    rfl
  | @var c t h ha hl =>
    have hg := of_all gsd_all c
    have hs : smallB c = false := by
      simp only [gsd, h, Bool.and_eq_true, Bool.not_true, Bool.false_or, Bool.not_eq_true'] at hg; exact hg.1.1
    have hw : writeTok 2 (c :: t) = (c :: t) ++ [32] := by unfold writeTok; rw [if_neg (by omega)]
    have ht : tokL (c :: (t ++ 32 :: y)) = .tok 2 (c :: t) 0 (c :: t).length := by
      simp only [tokL, hs, h, if_true, Bool.false_eq_true, if_false]
      exact runS_whole ha (by decide) hl y
    have := key (c := c) (x := t ++ 32 :: y) (by simp [h]) ht (by simp) (by simp; omega)
    rw [hw, show c :: t ++ [32] ++ y = c :: (t ++ 32 :: y) by simp, this]
    simp [again]
  | @num c t h ha hl =>
    have hg := of_all gsd_all c
    have hs : smallB c = false ∧ greatB c = false := by
      simp only [gsd, h, Bool.and_eq_true, Bool.not_true, Bool.false_or, Bool.not_eq_true'] at hg; exact hg.1.2
    have hw : writeTok 3 (c :: t) = (c :: t) ++ [32] := by unfold writeTok; rw [if_neg (by omega)]
    have e := tw_whole (p := digitB) (d := 32) ha (by decide) y
    have e2 : span digitB (c :: (t ++ 32 :: y)) = (c :: t).length := by unfold span; rw [show c :: (t ++ 32 :: y) = (c :: t) ++ 32 :: y from rfl, e]
    have ht : tokL (c :: (t ++ 32 :: y)) = .tok 3 (c :: t) (decN (c :: t)) (c :: t).length := by
      simp only [tokL, hs.1, hs.2, h, if_true, Bool.false_eq_true, if_false]
      unfold numS
      rw [e2, show c :: (t ++ 32 :: y) = (c :: t) ++ 32 :: y from rfl, e, if_neg (by omega)]
    have := key (c := c) (x := t ++ 32 :: y) (by simp [h]) ht (by simp) (by simp; omega)
    rw [hw, show c :: t ++ [32] ++ y = c :: (t ++ 32 :: y) by simp, this]
    simp [again]
  | quo h1 h2 h3 h4 =>
    cases hp : plainB t with
    | true =>
      have hw : writeTok 1 t = t ++ [32] := by unfold writeTok; rw [if_neg (by rw [hp]; simp)]
      rw [hw, plainCase hp h2]
      rfl
    | false =>
      have hw : writeTok 1 t = 39 :: (t ++ [39, 32]) := by unfold writeTok; rw [if_pos ⟨rfl, hp⟩]
      have e := tw_whole (p := notQ) (d := 39) h4 (by decide) (32 :: y)
      have e2 : span notQ (t ++ 39 :: 32 :: y) = t.length := by unfold span; rw [e]
      have ht : tokL (39 :: (t ++ 39 :: 32 :: y)) = .tok 1 t 0 (t.length + 2) := by
        have hq : quoB (t ++ 39 :: 32 :: y) = true := by
          unfold quoB
          rw [e, e2, h3, decide_eq_true (show t.length < (t ++ 39 :: 32 :: y).length by simp), decide_eq_true h1, decide_eq_true h2]; rfl
        have s1 : smallB 39 = false := by decide
        have s2 : greatB 39 = false := by decide
        have s3 : digitB 39 = false := by decide
        simp only [tokL, s1, s2, s3, quoS, hq, e, e2, beq_self_eq_true, if_true, Bool.false_eq_true, if_false]
      have := key (c := 39) (x := t ++ 39 :: 32 :: y) (by decide) ht (by
        show (t ++ 39 :: 32 :: y).drop (t.length + 1) = _
        rw [← List.drop_drop]; simp) (by simp; omega)
      rw [hw, show 39 :: (t ++ [39, 32]) ++ y = 39 :: (t ++ 39 :: 32 :: y) by simp, this]
      simp [again]
  | @punct c h =>
    have hg := of_all gsd_all c
    have hs : ((smallB c = false ∧ greatB c = false) ∧ digitB c = false) ∧ (c == 39) = false := by
      simp only [gsd, h, Bool.and_eq_true, Bool.not_true, Bool.false_or, Bool.not_eq_true'] at hg; exact hg.2
    have hw : writeTok 5 [c] = [c] ++ [32] := by unfold writeTok; rw [if_neg (by omega)]
    have ht : tokL (c :: 32 :: y) = .tok 5 [c] 0 1 := by
      simp only [tokL, hs.1.1.1, hs.1.1.2, hs.1.2, hs.2, h, if_true, Bool.false_eq_true, if_false]
    have := key (c := c) (x := 32 :: y) (by simp [h]) ht (by simp) (by simp; omega)
    rw [hw, show [c] ++ [32] ++ y = c :: 32 :: y by simp, this]
    simp [again]
  | stop =>
    have hw : writeTok 6 [46] = [46] ++ [32] := by unfold writeTok; rw [if_neg (by omega)]
    have ht : tokL (46 :: 32 :: y) = .tok 6 [46] 0 1 := by
      have s1 : smallB 46 = false := by decide
      have s2 : greatB 46 = false := by decide
      have s3 : digitB 46 = false := by decide
      have s4 : punctB 46 = false := by decide
      have s5 : stopL (32 :: y) = true := rfl
      simp [tokL, s1, s2, s3, s4, s5]
    have := key (c := 46) (x := 32 :: y) (by decide) ht (by simp) (by simp; omega)
    rw [hw, show [46] ++ [32] ++ y = 46 :: 32 :: y by simp, this]
    simp [again]
  | @sign c t h ha hl =>
    have hg := of_all sgn_all c
    simp only [sgn, h, Bool.and_eq_true, Bool.not_true, Bool.false_or, Bool.not_eq_true'] at hg
    obtain ⟨⟨⟨⟨⟨⟨g1, g2⟩, g3⟩, g4⟩, g5⟩, g6⟩, g7⟩ := hg
    have hw : writeTok 4 (c :: t) = (c :: t) ++ [32] := by unfold writeTok; rw [if_neg (by omega)]
    cases hst : (c == 46 && stopL (t ++ 32 :: y)) with
    | true =>
      simp only [Bool.and_eq_true, beq_iff_eq] at hst
      obtain ⟨rfl, hst⟩ := hst
      have htn : t = [] := by
        cases t with
        | nil => rfl
        | cons d t =>
          exfalso
          simp only [List.all_cons, Bool.and_eq_true] at ha
          have hg := of_all sgn_all d
          simp only [sgn, ha.2.1, Bool.and_eq_true, Bool.not_true, Bool.false_or, Bool.not_eq_true'] at hg
          simp only [List.cons_append, stopL, hg.1.2, hg.2] at hst
          cases hst
      subst htn
      have ht : tokL (46 :: 32 :: y) = .tok 6 [46] 0 1 := by
        have s5 : stopL (32 :: y) = true := rfl
        simp [tokL, g1, g2, g3, g5, s5]
      have := key (c := 46) (x := 32 :: y) (by decide) ht (by simp) (by simp; omega)
      rw [hw, show [46] ++ [32] ++ y = 46 :: 32 :: y by simp, this]
      simp [again]
    | false =>
      have hne : ¬ (mkB (c :: t) = mkB [46]) := by
        intro e
        have e1 := congrArg (fun b : ByteArray => b.data.toList) e
        simp only [mkB] at e1
        obtain ⟨rfl, rfl⟩ := List.cons.inj e1
        cases hst
      have ht : tokL (c :: (t ++ 32 :: y)) = .tok 4 (c :: t) 0 (c :: t).length := by
        simp only [tokL, g1, g2, g3, g4, g5, hst, h, if_true, Bool.false_eq_true, if_false]
        exact runS_whole ha (by decide) hl y
      have := key (c := c) (x := t ++ 32 :: y) (by simp [h]) ht (by simp) (by simp; omega)
      rw [hw, show c :: t ++ [32] ++ y = c :: (t ++ 32 :: y) by simp, this]
      simp [again, hne]
end Go.Proofs.YtinfefmoiimomaaDoor
