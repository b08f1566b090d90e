import Derived.Test.YtkbgdpgmnigcbaaC9
namespace Go.Proofs.Ytkbgdpgmnigcbaa
open Go.RowKit

/-- a way of comparing that is an order -/
structure CmpOk {α : Type} (f : α → α → Int) : Prop where
  range : ∀ x y, f x y = -1 ∨ f x y = 0 ∨ f x y = 1
  neg : ∀ x y, f y x = -(f x y)
  zero : ∀ x y, f x y = 0 ↔ x = y
  trans : ∀ x y z, f x y ≤ 0 → f y z ≤ 0 → f x z ≤ 0
theorem CmpOk.self {α : Type} {f : α → α → Int} (h : CmpOk f) (x : α) : f x x = 0 := (h.zero x x).2 rfl
theorem CmpOk.lt_le {α : Type} {f : α → α → Int} (h : CmpOk f) {x y z : α} (h1 : f x y < 0) (h2 : f y z ≤ 0) : f x z < 0 := by
  have h3 := h.trans x y z (by omega) h2
  by_cases e : f x z = 0
  · have := (h.zero x z).1 e
    subst this
    have := h.neg x y
    omega
  · omega
theorem CmpOk.le_lt {α : Type} {f : α → α → Int} (h : CmpOk f) {x y z : α} (h1 : f x y ≤ 0) (h2 : f y z < 0) : f x z < 0 := by
  have h3 := h.trans x y z h1 (by omega)
  by_cases e : f x z = 0
  · have := (h.zero x z).1 e
    subst this
    have := h.neg x y
    omega
  · omega

theorem cmpI_ok : CmpOk cmpI := by
  constructor
  · intro x y; unfold cmpI; split
    · exact .inl rfl
    · split
      · exact .inr (.inr rfl)
      · exact .inr (.inl rfl)
  · intro x y; unfold cmpI; split <;> split <;> (try split) <;> omega
  · intro x y; unfold cmpI; split
    · constructor <;> intro h <;> omega
    · split <;> constructor <;> intro h <;> omega
  · intro x y z; unfold cmpI; split <;> split <;> split <;> (try split) <;> (try split) <;> omega

theorem bl_nat (a b : UInt8) : (a < b) ↔ a.toNat < b.toNat := UInt8.lt_iff_toNat_lt
theorem bl_eq (a b : UInt8) : a = b ↔ a.toNat = b.toNat := ⟨fun h => by rw [h], fun h => UInt8.toNat_inj.1 h⟩
theorem bl_cons (a b : UInt8) (x y : List UInt8) : Op.bytesLess (a :: x) (b :: y) = true ↔ a.toNat < b.toNat ∨ a.toNat = b.toNat ∧ Op.bytesLess x y = true := by
  simp [Op.bytesLess, bl_nat, bl_eq]
theorem bl_total (x : List UInt8) : ∀ y, x = y ∨ Op.bytesLess x y = true ∨ Op.bytesLess y x = true := by
  induction x with
  | nil => intro y; cases y with
    | nil => exact .inl rfl
    | cons b y => exact .inr (.inl rfl)
  | cons a x ih => intro y; cases y with
    | nil => exact .inr (.inr rfl)
    | cons b y =>
      rw [bl_cons, bl_cons]
      rcases Nat.lt_trichotomy a.toNat b.toNat with h | h | h
      · exact .inr (.inl (.inl h))
      · rcases ih y with e | e | e
        · left; rw [e, (bl_eq a b).2 h]
        · exact .inr (.inl (.inr ⟨h, e⟩))
        · exact .inr (.inr (.inr ⟨h.symm, e⟩))
      · exact .inr (.inr (.inl h))
theorem bl_trans (x : List UInt8) : ∀ y z, Op.bytesLess x y = true → Op.bytesLess y z = true → Op.bytesLess x z = true := by
  induction x with
  | nil => intro y z h1 h2; cases z with
    | nil => cases y <;> simp [Op.bytesLess] at h2
    | cons c z => rfl
  | cons a x ih => intro y z h1 h2; cases y with
    | nil => simp [Op.bytesLess] at h1
    | cons b y => cases z with
      | nil => simp [Op.bytesLess] at h2
      | cons c z =>
        rw [bl_cons] at h1 h2 ⊢
        rcases h1 with h1 | ⟨h1, h1'⟩
        · rcases h2 with h2 | ⟨h2, h2'⟩
          · left; omega
          · left; omega
        · rcases h2 with h2 | ⟨h2, h2'⟩
          · left; omega
          · exact .inr ⟨by omega, ih y z h1' h2'⟩
theorem bl_asymm {x y : List UInt8} (h : Op.bytesLess x y = true) : Op.bytesLess y x = false := by
  cases h2 : Op.bytesLess y x with
  | false => rfl
  | true =>
    have := bl_trans x y x h h2
    rw [bytesLess_irrefl] at this; cases this
theorem cmpS_cases (s t : ByteArray) : (s = t ∧ cmpS s t = 0) ∨ (Op.bytesLess s.toList t.toList = true ∧ cmpS s t = -1) ∨ (Op.bytesLess t.toList s.toList = true ∧ cmpS s t = 1) := by
  rcases bl_total s.toList t.toList with h | h | h
  · left
    have := (toList_inj s t).1 h
    subst this
    exact ⟨rfl, by simp [cmpS, bytesLess_irrefl]⟩
  · right; left; exact ⟨h, by unfold cmpS; rw [if_pos h]⟩
  · right; right
    refine ⟨h, ?_⟩
    unfold cmpS
    rw [if_neg (by rw [bl_asymm h]; simp), if_neg]
    intro e; subst e; rw [bytesLess_irrefl] at h; cases h
theorem cmpS_ok : CmpOk cmpS := by
  constructor
  · intro x y
    rcases cmpS_cases x y with ⟨_, h⟩ | ⟨_, h⟩ | ⟨_, h⟩
    · exact .inr (.inl h)
    · exact .inl h
    · exact .inr (.inr h)
  · intro x y
    rcases cmpS_cases x y with ⟨e, h⟩ | ⟨e, h⟩ | ⟨e, h⟩
    · subst e; rw [h]; rfl
    · rw [h]
      rcases cmpS_cases y x with ⟨e2, h2⟩ | ⟨e2, h2⟩ | ⟨e2, h2⟩
      · subst e2; rw [bytesLess_irrefl] at e; cases e
      · rw [bl_asymm e] at e2; cases e2
      · rw [h2]; rfl
    · rw [h]
      rcases cmpS_cases y x with ⟨e2, h2⟩ | ⟨e2, h2⟩ | ⟨e2, h2⟩
      · subst e2; rw [bytesLess_irrefl] at e; cases e
      · rw [h2]
      · rw [bl_asymm e] at e2; cases e2
  · intro x y
    rcases cmpS_cases x y with ⟨e, h⟩ | ⟨e, h⟩ | ⟨e, h⟩
    · exact ⟨fun _ => e, fun _ => h⟩
    · refine ⟨fun h' => by omega, fun e2 => ?_⟩
      subst e2; rw [bytesLess_irrefl] at e; cases e
    · refine ⟨fun h' => by omega, fun e2 => ?_⟩
      subst e2; rw [bytesLess_irrefl] at e; cases e
  · intro x y z h1 h2
    rcases cmpS_cases x y with ⟨e, h⟩ | ⟨e, h⟩ | ⟨e, h⟩
    · subst e; exact h2
    · rcases cmpS_cases y z with ⟨e2, h'⟩ | ⟨e2, h'⟩ | ⟨e2, h'⟩
      · subst e2; exact h1
      · have := bl_trans _ _ _ e e2
        unfold cmpS; rw [if_pos this]; omega
      · omega
    · omega

theorem cellCmp_ok : CmpOk cellCmp := by
  constructor
  · intro x y; unfold cellCmp
    split
    · split
      · exact cmpS_ok.range _ _
      · exact cmpI_ok.range _ _
    · exact cmpI_ok.range _ _
  · intro x y; unfold cellCmp
    by_cases h1 : x.k = y.k
    · rw [if_pos h1, if_pos h1.symm]
      by_cases h2 : x.n = y.n
      · rw [if_pos h2, if_pos h2.symm]; exact cmpS_ok.neg _ _
      · rw [if_neg h2, if_neg (fun h => h2 h.symm)]; exact cmpI_ok.neg _ _
    · rw [if_neg h1, if_neg (fun h => h1 h.symm)]; exact cmpI_ok.neg _ _
  · intro x y; unfold cellCmp
    rw [Cel.eq_iff]
    split
    · rename_i h1
      split
      · rename_i h2
        rw [cmpS_ok.zero]; exact ⟨fun h => ⟨h1, h, h2⟩, fun h => h.2.1⟩
      · rename_i h2
        rw [cmpI_ok.zero]; exact ⟨fun h => absurd h h2, fun h => h.2.2⟩
    · rename_i h1
      rw [cmpI_ok.zero]; exact ⟨fun h => absurd h h1, fun h => h.1⟩
  · intro x y z
    unfold cellCmp
    by_cases h1 : x.k = y.k
    · rw [if_pos h1]
      by_cases h2 : y.k = z.k
      · rw [if_pos h2, if_pos (h1.trans h2)]
        by_cases h3 : x.n = y.n
        · rw [if_pos h3]
          by_cases h4 : y.n = z.n
          · rw [if_pos h4, if_pos (h3.trans h4)]; exact cmpS_ok.trans _ _ _
          · have h9 : ¬ x.n = z.n := by rw [h3]; exact h4
            rw [if_neg h4, if_neg h9, h3]; intro _ h; exact h
        · rw [if_neg h3]
          by_cases h4 : y.n = z.n
          · have h9 : ¬ x.n = z.n := by rw [← h4]; exact h3
            rw [if_pos h4, if_neg h9, ← h4]; intro h _; exact h
          · rw [if_neg h4]
            intro h5 h6
            have h7 := cmpI_ok.trans _ _ _ h5 h6
            by_cases h8 : x.n = z.n
            · exfalso
              have e := cmpI_ok.neg x.n y.n
              rw [← h8] at h6
              have := mt (cmpI_ok.zero x.n y.n).1 h3
              omega
            · rw [if_neg h8]; exact h7
      · have h9 : ¬ x.k = z.k := by rw [h1]; exact h2
        rw [if_neg h2, if_neg h9, h1]; intro _ h; exact h
    · rw [if_neg h1]
      by_cases h2 : y.k = z.k
      · have h9 : ¬ x.k = z.k := by rw [← h2]; exact h1
        rw [if_pos h2, if_neg h9, ← h2]; intro h _; exact h
      · rw [if_neg h2]
        intro h5 h6
        have h7 := cmpI_ok.trans _ _ _ h5 h6
        by_cases h8 : x.k = z.k
        · exfalso
          have e := cmpI_ok.neg x.k y.k
          rw [← h8] at h6
          have := mt (cmpI_ok.zero x.k y.k).1 h1
          omega
        · rw [if_neg h8]; exact h7

theorem compP_ok : CmpOk compP := by
  constructor
  · intro x
    induction x with
    | nil => intro y; cases y with
      | nil => exact .inr (.inl rfl)
      | cons b y => exact .inl rfl
    | cons a x ih => intro y; cases y with
      | nil => exact .inr (.inr rfl)
      | cons b y =>
        simp only [compP]; split
        · exact ih y
        · exact cellCmp_ok.range _ _
  · intro x
    induction x with
    | nil => intro y; cases y <;> rfl
    | cons a x ih => intro y; cases y with
      | nil => rfl
      | cons b y =>
        simp only [compP]
        by_cases h : a = b
        · rw [if_pos h, if_pos h.symm]; exact ih y
        · rw [if_neg h, if_neg (fun e => h e.symm)]; exact cellCmp_ok.neg _ _
  · intro x
    induction x with
    | nil => intro y; cases y with
      | nil => simp [compP]
      | cons b y => simp [compP]
    | cons a x ih => intro y; cases y with
      | nil => simp [compP]
      | cons b y =>
        simp only [compP]
        by_cases h : a = b
        · rw [if_pos h, ih y]; simp [h]
        · rw [if_neg h, cellCmp_ok.zero]; simp [h]
  · intro x
    induction x with
    | nil => intro y z _ _; cases z <;> simp [compP]
    | cons a x ih => intro y z; cases y with
      | nil => simp [compP]
      | cons b y => cases z with
        | nil => simp [compP]
        | cons c z =>
          simp only [compP]
          by_cases h1 : a = b
          · rw [if_pos h1]
            by_cases h2 : b = c
            · rw [if_pos h2, if_pos (h1.trans h2)]; exact ih y z
            · have h9 : ¬ a = c := by rw [h1]; exact h2
              rw [if_neg h2, if_neg h9, h1]; intro _ h; exact h
          · rw [if_neg h1]
            by_cases h2 : b = c
            · have h9 : ¬ a = c := by rw [← h2]; exact h1
              rw [if_pos h2, if_neg h9, ← h2]; intro h _; exact h
            · rw [if_neg h2]
              intro h5 h6
              have h7 := cellCmp_ok.trans _ _ _ h5 h6
              by_cases h8 : a = c
              · exfalso
                have e := cellCmp_ok.neg a b
                rw [← h8] at h6
                have := mt (cellCmp_ok.zero a b).1 h1
                omega
              · rw [if_neg h8]; exact h7
end Go.Proofs.Ytkbgdpgmnigcbaa
