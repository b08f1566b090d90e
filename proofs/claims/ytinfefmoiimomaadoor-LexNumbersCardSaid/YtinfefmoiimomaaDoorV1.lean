import Derived.Test.YtinfefmoiimomaaDoorAcc
import Derived.Test.YtinfefmoiimomaaDoorV0
namespace Go.Proofs.YtinfefmoiimomaaDoor
open Go.RowKit

/-! ### tokens in memory -/
abbrev Tok.v (c : Tok) : Value := .agg #[.int .i64 c.k, .string c.s, .int .i64 c.n, .int .i64 c.p]
structure Tok.fit (c : Tok) : Prop where
  k1 : -9223372036854775808 ≤ c.k
  k2 : c.k ≤ 9223372036854775807
  n1 : -9223372036854775808 ≤ c.n
  n2 : c.n ≤ 9223372036854775807
  p1 : -9223372036854775808 ≤ c.p
  p2 : c.p ≤ 9223372036854775807
  s : c.s.size ≤ 9223372036854775807
structure TokAt (w : World) (b o : Nat) (c : Tok) : Prop where
  c0 : w.cell? ⟨b, o, none⟩ = some (.int .i64 c.k)
  c1 : w.cell? ⟨b, o + 1, none⟩ = some (.string c.s)
  c2 : w.cell? ⟨b, o + 2, none⟩ = some (.int .i64 c.n)
  c3 : w.cell? ⟨b, o + 3, none⟩ = some (.int .i64 c.p)
  fit : c.fit
theorem TokAt.keeps {w w' : World} {b o : Nat} {c : Tok} (h : TokAt w b o c) (hb : Keeps w w') : TokAt w' b o c :=
  ⟨hb _ _ _ h.c0, hb _ _ _ h.c1, hb _ _ _ h.c2, hb _ _ _ h.c3, h.fit⟩
instance : Rep Tok where
  sz := 4
  E := TokAt
  mono := TokAt.keeps
  lt h := cell_lt h.c0
instance : RepC Tok where
  C _ cs c := cs = [.int .i64 c.k, .string c.s, .int .i64 c.n, .int .i64 c.p] ∧ c.fit
  len := by rintro w cs c ⟨rfl, _⟩; rfl
  one := by rintro w cs c ⟨rfl, _⟩ u hu; simp at hu; rcases hu with rfl | rfl | rfl | rfl <;> rfl
  cmono := by rintro w w' cs c h _; exact h
  toE := by
    rintro w cs c b o ⟨rfl, hf⟩ hat
    exact ⟨hat 0 _ rfl, hat 1 _ rfl, hat 2 _ rfl, hat 3 _ rfl, hf⟩
  ofE := by
    rintro w c b o ⟨h0, h1, h2, h3, hf⟩
    refine ⟨_, ⟨rfl, hf⟩, fun j u hj => ?_⟩
    match j with
    | 0 => simp at hj; subst hj; exact h0
    | 1 => simp at hj; subst hj; exact h1
    | 2 => simp at hj; subst hj; exact h2
    | 3 => simp at hj; subst hj; exact h3
    | j + 4 => simp at hj
  pos := by decide

/-! ### bytes -/
theorem eqU (c d : UInt8) : ((c.toNat : Int) == (d.toNat : Int)) = (c == d) := by
  rw [Bool.eq_iff_iff]; simp only [beq_iff_eq, ← UInt8.toNat_inj]; omega
theorem leU (c d : UInt8) : decide ((c.toNat : Int) ≤ (d.toNat : Int)) = decide (c ≤ d) := by
  rw [Bool.eq_iff_iff]; simp [UInt8.le_iff_toNat_le]

/-- a function that tells bytes, and nothing else -/
abbrev Tells (f : Nat) (caps : Array Value) (p : UInt8 → Bool) (w : World) : Prop :=
  ∀ c : UInt8, Calls Tryd.prog f (#[.int .u8 (c.toNat : Int)] ++ caps) w fun e w' => e = .returned (.bool (p c)) ∧ w = w'
theorem blank_any (c : UInt8) (w : World) : Calls Tryd.prog 31 #[.int .u8 (c.toNat : Int)] w fun e w' => e = .returned (.bool (blankB c)) ∧ w = w' := by
  have h1 : ((c.toNat : Int) == 32) = (c == 32) := eqU c 32
  have h2 : ((c.toNat : Int) == 9) = (c == 9) := eqU c 9
  have h3 : ((c.toNat : Int) == 10) = (c == 10) := eqU c 10
  have h4 : ((c.toNat : Int) == 13) = (c == 13) := eqU c 13
  have HB : Hid (blankB c = (c == 32 || c == 9 || c == 10 || c == 13)) := rfl
  cases g1 : (c == 32) <;> cases g2 : (c == 9) <;> cases g3 : (c == 10) <;> cases g4 : (c == 13) <;> rw [g1] at h1 HB <;> rw [g2] at h2 HB <;> rw [g3] at h3 HB <;> rw [g4] at h4 HB <;> clear g1 g2 g3 g4
  all_goals
    go_enter Tryd.func31, Tryd.ntmps31
    go_wp2
    go_ret
    exact ⟨ret_bool HB.out.symm, rfl⟩
theorem small_any (c : UInt8) (w : World) : Calls Tryd.prog 35 #[.int .u8 (c.toNat : Int)] w fun e w' => e = .returned (.bool (smallB c)) ∧ w = w' := by
  have h1 : decide ((97 : Int) ≤ (c.toNat : Int)) = decide (97 ≤ c) := leU 97 c
  have h2 : decide ((c.toNat : Int) ≤ 122) = decide (c ≤ 122) := leU c 122
  have HB : Hid (smallB c = (decide (97 ≤ c) && decide (c ≤ 122))) := rfl
  cases g1 : decide (97 ≤ c) <;> cases g2 : decide (c ≤ 122) <;> rw [g1] at h1 HB <;> rw [g2] at h2 HB <;> clear g1 g2
  all_goals
    go_enter Tryd.func35, Tryd.ntmps35
    go_wp2
    go_ret
    exact ⟨ret_bool HB.out.symm, rfl⟩
theorem digit_any (c : UInt8) (w : World) : Calls Tryd.prog 39 #[.int .u8 (c.toNat : Int)] w fun e w' => e = .returned (.bool (digitB c)) ∧ w = w' := by
  have h1 : decide ((48 : Int) ≤ (c.toNat : Int)) = decide (48 ≤ c) := leU 48 c
  have h2 : decide ((c.toNat : Int) ≤ 57) = decide (c ≤ 57) := leU c 57
  have HB : Hid (digitB c = (decide (48 ≤ c) && decide (c ≤ 57))) := rfl
  cases g1 : decide (48 ≤ c) <;> cases g2 : decide (c ≤ 57) <;> rw [g1] at h1 HB <;> rw [g2] at h2 HB <;> clear g1 g2
  all_goals
    go_enter Tryd.func39, Tryd.ntmps39
    go_wp2
    go_ret
    exact ⟨ret_bool HB.out.symm, rfl⟩
theorem seen_any (c : UInt8) (w : World) : Calls Tryd.prog 62 #[.int .u8 (c.toNat : Int)] w fun e w' => e = .returned (.bool (seenB c)) ∧ w = w' := by
  have h1 : decide ((32 : Int) ≤ (c.toNat : Int)) = decide (32 ≤ c) := leU 32 c
  have h2 : decide ((c.toNat : Int) ≤ 126) = decide (c ≤ 126) := leU c 126
  have HB : Hid (seenB c = (decide (32 ≤ c) && decide (c ≤ 126))) := rfl
  cases g1 : decide (32 ≤ c) <;> cases g2 : decide (c ≤ 126) <;> rw [g1] at h1 HB <;> rw [g2] at h2 HB <;> clear g1 g2
  all_goals
    go_enter Tryd.func62, Tryd.ntmps62
    go_wp2
    go_ret
    exact ⟨ret_bool HB.out.symm, rfl⟩
theorem great_any (c : UInt8) (w : World) : Calls Tryd.prog 38 #[.int .u8 (c.toNat : Int)] w fun e w' => e = .returned (.bool (greatB c)) ∧ w = w' := by
  have h1 : decide ((65 : Int) ≤ (c.toNat : Int)) = decide (65 ≤ c) := leU 65 c
  have h2 : decide ((c.toNat : Int) ≤ 90) = decide (c ≤ 90) := leU c 90
  have h3 : ((c.toNat : Int) == 95) = (c == 95) := eqU c 95
  have HB : Hid (greatB c = (decide (65 ≤ c) && decide (c ≤ 90) || c == 95)) := rfl
  cases g1 : decide (65 ≤ c) <;> cases g2 : decide (c ≤ 90) <;> cases g3 : (c == 95) <;> rw [g1] at h1 HB <;> rw [g2] at h2 HB <;> rw [g3] at h3 HB <;> clear g1 g2 g3
  all_goals
    go_enter Tryd.func38, Tryd.ntmps38
    go_wp2
    go_ret
    exact ⟨ret_bool HB.out.symm, rfl⟩
theorem small_lit {c : UInt8} {w : World} {b : Bool} (hb : smallB c = b) : Calls Tryd.prog 35 #[.int .u8 (c.toNat : Int)] w fun e w' => e = .returned (.bool b) ∧ w = w' := by
  subst hb; exact small_any c w
theorem great_lit {c : UInt8} {w : World} {b : Bool} (hb : greatB c = b) : Calls Tryd.prog 38 #[.int .u8 (c.toNat : Int)] w fun e w' => e = .returned (.bool b) ∧ w = w' := by
  subst hb; exact great_any c w
theorem digit_lit {c : UInt8} {w : World} {b : Bool} (hb : digitB c = b) : Calls Tryd.prog 39 #[.int .u8 (c.toNat : Int)] w fun e w' => e = .returned (.bool b) ∧ w = w' := by
  subst hb; exact digit_any c w
theorem letter_any (c : UInt8) (w : World) : Calls Tryd.prog 37 #[.int .u8 (c.toNat : Int)] w fun e w' => e = .returned (.bool (letterB c)) ∧ w = w' := by
  have HB : Hid (letterB c = (smallB c || greatB c || digitB c)) := rfl
  cases g1 : smallB c <;> cases g2 : greatB c <;> cases g3 : digitB c <;> rw [g1, g2, g3] at HB
  all_goals
    have H1 := mkHid g1
    have H2 := mkHid g2
    have H3 := mkHid g3
    clear g1 g2 g3
    go_enter Tryd.func37, Tryd.ntmps37
    go_wp2_with (first
      | (go_at_call 35; refine (small_lit H1.out).mono ?_; rintro e w' ⟨rfl, rfl⟩)
      | (go_at_call 38; refine (great_lit H2.out).mono ?_; rintro e w' ⟨rfl, rfl⟩)
      | (go_at_call 39; refine (digit_lit H3.out).mono ?_; rintro e w' ⟨rfl, rfl⟩))
    go_ret
    exact ⟨ret_bool HB.out.symm, rfl⟩
theorem noNl_any (c : UInt8) (w : World) : Calls Tryd.prog 34 #[.int .u8 (c.toNat : Int)] w fun e w' => e = .returned (.bool (notNl c)) ∧ w = w' := by
  have h1 : ((c.toNat : Int) == 10) = (c == 10) := eqU c 10
  have h1' : ((c.toNat : Int) != 10) = !(c == 10) := by rw [bne, h1]
  have HB : Hid (notNl c = !(c == 10)) := rfl
  cases g1 : (c == 10) <;> rw [g1] at h1 h1' HB <;> clear g1
  all_goals
    go_enter Tryd.func34, Tryd.ntmps34
    go_wp2
    go_ret
    exact ⟨ret_bool HB.out.symm, rfl⟩
end Go.Proofs.YtinfefmoiimomaaDoor
