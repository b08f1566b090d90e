import Derived.Test.YtkbgdpgmnigcbaaS1
namespace Go.Proofs.Ytkbgdpgmnigcbaa
open Go.RowKit

theorem sk_pos {m : Nat} {l r : List Cel} (h : sk (m + 1) l = some r) : r.length < l.length := by
  cases l with
  | nil => simp [sk] at h
  | cons c l =>
    simp only [sk] at h
    split at h
    · have := (sk_suffix _ _ _ h).1; simp; omega
    · cases h
theorem right_sk {xs : List Cel} (h : rightB xs = true) : ∃ c l, xs = c :: l ∧ cellOk c = true ∧ sk (ar c) l = some [] ∧ xs.length ≤ 200 := by
  simp only [rightB, Bool.and_eq_true, decide_eq_true_eq] at h
  obtain ⟨h1, h2⟩ := h
  cases xs with
  | nil => simp [endI, sk] at h2
  | cons c l =>
    refine ⟨c, l, rfl, ?_⟩
    unfold endI at h2
    rw [List.drop_zero] at h2
    have hs : sk 1 (c :: l) = if cellOk c then sk (0 + ar c) l else none := rfl
    rw [hs] at h2
    by_cases hc : cellOk c = true
    · rw [if_pos hc, Nat.zero_add] at h2
      cases hr : sk (ar c) l with
      | none => rw [hr] at h2; simp at h2; omega
      | some r =>
        rw [hr] at h2
        simp only at h2
        have : r.length = 0 := by omega
        exact ⟨hc, by rw [List.eq_nil_of_length_eq_zero this], by omega⟩
    · rw [if_neg hc] at h2; simp at h2; omega
theorem right_of_sk {c : Cel} {l : List Cel} (hc : cellOk c = true) (h : sk (ar c) l = some []) (hl : (c :: l).length ≤ 200) : rightB (c :: l) = true := by
  simp only [rightB, Bool.and_eq_true, decide_eq_true_eq]
  refine ⟨by omega, ?_⟩
  unfold endI
  rw [List.drop_zero]
  have hs : sk 1 (c :: l) = if cellOk c then sk (0 + ar c) l else none := rfl
  rw [hs, if_pos hc, Nat.zero_add, h]; simp

def ar0 : List Cel → Nat
  | [] => 0
  | c :: _ => ar c
/-- where the j-th argument begins -/
def aN (xs : List Cel) (j : Nat) : Nat := (afterI xs 1 j).toNat
def partJ (xs : List Cel) (j : Nat) : List Cel := (xs.drop (aN xs j)).take (aN xs (j + 1) - aN xs j)
def partsL (xs : List Cel) : List (List Cel) := (List.range (ar0 xs)).map (partJ xs)

theorem right_after {xs : List Cel} (h : rightB xs = true) {j : Nat} (hj : j ≤ ar0 xs) : afterI xs 1 j = aN xs j ∧ 1 ≤ aN xs j ∧ aN xs j ≤ xs.length ∧ sk j (xs.drop 1) = some (xs.drop (aN xs j)) := by
  obtain ⟨c, l, rfl, hc, hs, hl⟩ := right_sk h
  simp only [ar0] at hj
  have h1 : sk (j + (ar c - j)) l = some [] := by rw [show j + (ar c - j) = ar c by omega]; exact hs
  rw [sk_add] at h1
  have hd : (c :: l).drop 1 = l := rfl
  cases hr : sk j l with
  | none => rw [hr] at h1; simp at h1
  | some r =>
    have := sk_at (xs := c :: l) (i := 1) (j := j) (r := r) (by simp) (by rw [hd]; exact hr)
    obtain ⟨k1, k2⟩ := this
    have e : afterI (c :: l) 1 j = (c :: l).length - r.length := by unfold afterI; rw [hd, hr]
    have e2 : aN (c :: l) j = (c :: l).length - r.length := by unfold aN; rw [e]; omega
    refine ⟨by rw [e, e2]; simp at k1 ⊢; omega, by rw [e2]; simp at k1 ⊢; omega, by rw [e2]; omega, ?_⟩
    rw [hd, hr, e2, k2]
theorem right_next {xs : List Cel} (h : rightB xs = true) {j : Nat} (hj : j < ar0 xs) : aN xs j < aN xs (j + 1) ∧ endI xs (aN xs j) = aN xs (j + 1) := by
  obtain ⟨a1, a2, a3, a4⟩ := right_after h (Nat.le_of_lt hj)
  obtain ⟨b1, b2, b3, b4⟩ := right_after h (show j + 1 ≤ ar0 xs from hj)
  have hs : sk 1 (xs.drop (aN xs j)) = some (xs.drop (aN xs (j + 1))) := by
    rw [sk_add, a4] at b4; simpa using b4
  have := sk_pos hs
  simp at this
  refine ⟨by omega, ?_⟩
  unfold endI
  rw [hs]; simp; omega
theorem right_last {xs : List Cel} (h : rightB xs = true) : aN xs (ar0 xs) = xs.length := by
  obtain ⟨a1, a2, a3, a4⟩ := right_after h (Nat.le_refl (ar0 xs))
  obtain ⟨c, l, rfl, hc, hs, hl⟩ := right_sk h
  have : sk (ar0 (c :: l)) ((c :: l).drop 1) = some [] := hs
  rw [a4] at this
  have h2 := congrArg List.length (Option.some.inj this)
  simp at h2 a3 ⊢
  omega
theorem parts_succ (xs : List Cel) (j : Nat) : (List.range (j + 1)).map (partJ xs) = (List.range j).map (partJ xs) ++ [partJ xs j] := by
  rw [List.range_succ, List.map_append]; rfl
theorem partJ_length {xs : List Cel} (h : rightB xs = true) {j : Nat} (hj : j < ar0 xs) : (partJ xs j).length = aN xs (j + 1) - aN xs j := by
  obtain ⟨b1, b2, b3, b4⟩ := right_after h (show j + 1 ≤ ar0 xs from hj)
  have := right_next h hj
  unfold partJ; simp; omega
theorem ar_le6 {xs : List Cel} (h : rightB xs = true) : ar0 xs ≤ 6 := by
  obtain ⟨c, l, rfl, hc, _⟩ := right_sk h
  exact ar_le c hc
end Go.Proofs.Ytkbgdpgmnigcbaa
