import Derived.Test.YtkbgdpgmnigcbaaS2
namespace Go.Proofs.Ytkbgdpgmnigcbaa
open Go.RowKit

/-- a term as a tree -/
inductive Tm where
  | mk (c : Cel) (args : List Tm)
def Tm.hd : Tm → Cel | .mk c _ => c
def Tm.args : Tm → List Tm | .mk _ ts => ts
mutual
def Tm.flat : Tm → List Cel
  | .mk c ts => c :: flats ts
def flats : List Tm → List Cel
  | [] => []
  | t :: ts => t.flat ++ flats ts
end
mutual
def Tm.ok : Tm → Prop
  | .mk c ts => cellOk c = true ∧ ts.length = ar c ∧ oks ts
def oks : List Tm → Prop
  | [] => True
  | t :: ts => t.ok ∧ oks ts
end
mutual
def Tm.depth : Tm → Nat
  | .mk _ ts => depths ts + 1
def depths : List Tm → Nat
  | [] => 0
  | t :: ts => max t.depth (depths ts)
end
theorem flats_append (a b : List Tm) : flats (a ++ b) = flats a ++ flats b := by
  induction a with
  | nil => simp [flats]
  | cons t a ih => simp [flats, ih]
theorem depths_append (a b : List Tm) : depths (a ++ b) = max (depths a) (depths b) := by
  induction a with
  | nil => simp [depths]
  | cons t a ih => simp [depths, ih, Nat.max_assoc]
theorem oks_append {a b : List Tm} : oks (a ++ b) ↔ oks a ∧ oks b := by
  induction a with
  | nil => simp [oks]
  | cons t a ih => simp [oks, ih, and_assoc]
theorem oks_mem {ts : List Tm} (h : oks ts) : ∀ t ∈ ts, t.ok := by
  induction ts with
  | nil => intro t ht; simp at ht
  | cons t ts ih =>
    intro u hu
    rcases List.mem_cons.1 hu with rfl | hu
    · exact h.1
    · exact ih h.2 u hu
theorem flat_cons (t : Tm) : t.flat = t.hd :: flats t.args := by cases t; rfl
theorem ok_iff (t : Tm) : t.ok ↔ cellOk t.hd = true ∧ t.args.length = ar t.hd ∧ oks t.args := by cases t; rfl
theorem depth_eq (t : Tm) : t.depth = depths t.args + 1 := by cases t; rfl
theorem flat_pos (t : Tm) : 0 < t.flat.length := by rw [flat_cons]; simp

/-- what is skipped is made of terms -/
theorem sk_parse (l : List Cel) : ∀ (m : Nat) (r : List Cel), sk m l = some r → ∃ ts : List Tm, ts.length = m ∧ oks ts ∧ l = flats ts ++ r := by
  induction l with
  | nil =>
    intro m r h
    cases m with
    | zero => simp [sk] at h; subst h; exact ⟨[], rfl, trivial, rfl⟩
    | succ m => simp [sk] at h
  | cons c l ih =>
    intro m r h
    cases m with
    | zero => simp [sk] at h; subst h; exact ⟨[], rfl, trivial, rfl⟩
    | succ m =>
      simp only [sk] at h
      split at h
      · rename_i hc
        obtain ⟨ts, hl, ho, e⟩ := ih _ _ h
        have hsplit : ts = ts.take (ar c) ++ ts.drop (ar c) := (List.take_append_drop _ _).symm
        rw [hsplit] at ho e
        rw [oks_append] at ho
        refine ⟨.mk c (ts.take (ar c)) :: ts.drop (ar c), by simp; omega, ⟨⟨hc, by simp; omega, ho.1⟩, ho.2⟩, ?_⟩
        rw [e, flats_append]
        simp [flats, Tm.flat]
      · cases h
mutual
theorem sk_flat : ∀ (t : Tm), t.ok → ∀ (m : Nat) (r : List Cel), sk (m + 1) (t.flat ++ r) = sk m r
  | .mk c ts, h, m, r => by
    obtain ⟨h1, h2, h3⟩ := h
    simp only [Tm.flat, List.cons_append, sk, h1, if_true]
    rw [← h2, Nat.add_comm, sk_flats ts h3]
theorem sk_flats : ∀ (ts : List Tm), oks ts → ∀ (m : Nat) (r : List Cel), sk (ts.length + m) (flats ts ++ r) = sk m r
  | [], _, m, r => by simp [flats]
  | t :: ts, h, m, r => by
    obtain ⟨h1, h2⟩ := h
    simp only [flats, List.append_assoc, List.length_cons]
    rw [show ts.length + 1 + m = ts.length + m + 1 by omega, sk_flat t h1, sk_flats ts h2]
end
theorem right_flat {t : Tm} (h : t.ok) (hl : t.flat.length ≤ 200) : rightB t.flat = true := by
  have h' := (ok_iff t).1 h
  rw [flat_cons] at hl ⊢
  refine right_of_sk h'.1 ?_ hl
  have := sk_flats t.args h'.2.2 0 []
  rw [List.append_nil, Nat.add_zero, h'.2.1] at this
  rw [this]; rfl
theorem right_tm {xs : List Cel} (h : rightB xs = true) : ∃ t : Tm, t.ok ∧ xs = t.flat ∧ xs.length ≤ 200 := by
  obtain ⟨c, l, rfl, hc, hs, hl⟩ := right_sk h
  obtain ⟨ts, h1, h2, h3⟩ := sk_parse l _ _ hs
  exact ⟨.mk c ts, ⟨hc, h1, h2⟩, by rw [h3]; simp [Tm.flat], hl⟩

/-- where the arguments lie -/
theorem after_flat {t : Tm} (h : t.ok) {j : Nat} (hj : j ≤ t.args.length) : afterI t.flat 1 j = 1 + (flats (t.args.take j)).length := by
  obtain ⟨_, _, h3⟩ := (ok_iff t).1 h
  have hs : t.args = t.args.take j ++ t.args.drop j := (List.take_append_drop _ _).symm
  have ho : oks (t.args.take j) := by rw [hs] at h3; exact (oks_append.1 h3).1
  have e := sk_flats (t.args.take j) ho 0 (flats (t.args.drop j))
  rw [Nat.add_zero, List.length_take, Nat.min_eq_left hj, ← flats_append, ← hs] at e
  unfold afterI
  rw [flat_cons, List.drop_one, List.tail_cons, e]
  simp only [sk, List.length_cons]
  have := congrArg List.length (congrArg flats hs)
  rw [flats_append, List.length_append] at this
  omega
theorem aN_flat {t : Tm} (h : t.ok) {j : Nat} (hj : j ≤ t.args.length) : aN t.flat j = 1 + (flats (t.args.take j)).length := by
  unfold aN; rw [after_flat h hj]; omega
theorem part_flat {t : Tm} (h : t.ok) {j : Nat} (hj : j < t.args.length) : partJ t.flat j = t.args[j].flat := by
  unfold partJ
  rw [aN_flat h (Nat.le_of_lt hj), aN_flat h hj]
  have hs : t.args = t.args.take j ++ (t.args[j] :: t.args.drop (j + 1)) := by
    rw [← List.drop_eq_getElem_cons hj, List.take_append_drop]
  have hf : flats t.args = flats (t.args.take j) ++ (t.args[j].flat ++ flats (t.args.drop (j + 1))) := by
    conv => lhs; rw [hs]
    rw [flats_append]; rfl
  have ht : flats (t.args.take (j + 1)) = flats (t.args.take j) ++ t.args[j].flat := by
    rw [List.take_succ_eq_append_getElem hj, flats_append]; simp [flats]
  rw [ht, flat_cons t, hf, Nat.add_comm 1 (flats (t.args.take j)).length, List.drop_succ_cons, List.drop_left, List.length_append]
  rw [show 1 + ((flats (t.args.take j)).length + t.args[j].flat.length) - ((flats (t.args.take j)).length + 1) = t.args[j].flat.length by omega]
  exact List.take_left
theorem ar0_flat {t : Tm} (h : t.ok) : ar0 t.flat = t.args.length := by
  rw [flat_cons]; exact ((ok_iff t).1 h).2.1.symm
theorem parts_flat {t : Tm} (h : t.ok) : partsL t.flat = t.args.map Tm.flat := by
  unfold partsL
  rw [ar0_flat h]
  refine List.ext_getElem (by simp) (fun j h1 h2 => ?_)
  simp at h1
  simp [part_flat h h1]
theorem flat_arg_lt {t : Tm} {u : Tm} (hu : u ∈ t.args) : u.flat.length < t.flat.length := by
  rw [flat_cons t]
  have : ∀ ts : List Tm, u ∈ ts → u.flat.length ≤ (flats ts).length := by
    intro ts h
    induction ts with
    | nil => simp at h
    | cons v ts ih =>
      simp only [flats, List.length_append]
      rcases List.mem_cons.1 h with e | h
      · rw [e]; omega
      · have := ih h; omega
  have := this _ hu
  simp only [List.length_cons]; omega
mutual
theorem depth_le : ∀ t : Tm, t.depth ≤ t.flat.length
  | .mk c ts => by
    have := depths_le ts
    simp only [Tm.depth, Tm.flat, List.length_cons]; omega
theorem depths_le : ∀ ts : List Tm, depths ts ≤ (flats ts).length
  | [] => by simp [depths]
  | t :: ts => by
    have h1 := depth_le t
    have h2 := depths_le ts
    simp only [depths, flats, List.length_append]; omega
end
theorem depth_pos (t : Tm) : 1 ≤ t.depth := by rw [depth_eq]; omega
end Go.Proofs.Ytkbgdpgmnigcbaa
