import Derived.Test.YtkbgdpgmnigcbaaTm
import Derived.Test.YtkbgdpgmnigcbaaS3
namespace Go.Proofs.Ytkbgdpgmnigcbaa
open Go.RowKit

mutual
/-- a tree with its cells changed -/
def mapT (f : Cel → Cel) : Tm → Tm
  | .mk c ts => .mk (f c) (mapTs f ts)
def mapTs (f : Cel → Cel) : List Tm → List Tm
  | [] => []
  | t :: ts => mapT f t :: mapTs f ts
end
mutual
theorem mapT_flat (f : Cel → Cel) : ∀ t : Tm, (mapT f t).flat = t.flat.map f
  | .mk c ts => by simp only [mapT, Tm.flat, List.map_cons]; rw [mapTs_flat f ts]
theorem mapTs_flat (f : Cel → Cel) : ∀ ts : List Tm, flats (mapTs f ts) = (flats ts).map f
  | [] => rfl
  | t :: ts => by simp only [mapTs, flats, List.map_append]; rw [mapT_flat f t, mapTs_flat f ts]
end
theorem mapTs_length (f : Cel → Cel) (ts : List Tm) : (mapTs f ts).length = ts.length := by
  induction ts with
  | nil => rfl
  | cons t ts ih => simp [mapTs, ih]
mutual
theorem mapT_depth (f : Cel → Cel) : ∀ t : Tm, (mapT f t).depth = t.depth
  | .mk c ts => by simp only [mapT, Tm.depth]; rw [mapTs_depth f ts]
theorem mapTs_depth (f : Cel → Cel) : ∀ ts : List Tm, depths (mapTs f ts) = depths ts
  | [] => rfl
  | t :: ts => by simp only [mapTs, depths]; rw [mapT_depth f t, mapTs_depth f ts]
end
mutual
theorem mapT_ok (f : Cel → Cel) : ∀ t : Tm, t.ok → (∀ c ∈ t.flat, cellOk (f c) = true ∧ ar (f c) = ar c) → (mapT f t).ok
  | .mk c ts, h, hf => by
    obtain ⟨h1, h2, h3⟩ := h
    have hc := hf c (by simp [Tm.flat])
    exact ⟨hc.1, by rw [mapTs_length, h2, hc.2], mapTs_ok f ts h3 (fun d hd => hf d (by simp only [Tm.flat]; exact List.mem_cons_of_mem _ hd))⟩
theorem mapTs_ok (f : Cel → Cel) : ∀ ts : List Tm, oks ts → (∀ c ∈ flats ts, cellOk (f c) = true ∧ ar (f c) = ar c) → oks (mapTs f ts)
  | [], _, _ => trivial
  | t :: ts, h, hf => ⟨mapT_ok f t h.1 (fun c hc => hf c (by simp only [flats]; exact List.mem_append_left _ hc)), mapTs_ok f ts h.2 (fun c hc => hf c (by simp only [flats]; exact List.mem_append_right _ hc))⟩
end
mutual
theorem ok_cells : ∀ t : Tm, t.ok → ∀ c ∈ t.flat, cellOk c = true
  | .mk c ts, h, d, hd => by
    simp only [Tm.flat, List.mem_cons] at hd
    rcases hd with rfl | hd
    · exact h.1
    · exact oks_cells ts h.2.2 d hd
theorem oks_cells : ∀ ts : List Tm, oks ts → ∀ c ∈ flats ts, cellOk c = true
  | [], _, d, hd => by simp [flats] at hd
  | t :: ts, h, d, hd => by
    simp only [flats, List.mem_append] at hd
    rcases hd with hd | hd
    · exact ok_cells t h.1 d hd
    · exact oks_cells ts h.2 d hd
end
theorem right_cells {xs : List Cel} (h : rightB xs = true) : ∀ c ∈ xs, cellOk c = true := by
  obtain ⟨t, ht, rfl, _⟩ := right_tm h
  exact ok_cells t ht
theorem var_range {c : Cel} (h : cellOk c = true) (h1 : c.k = 1) : 0 ≤ c.n ∧ c.n ≤ 999 := by
  simp [cellOk, h1] at h; omega

/-- the variables of a term, shifted -/
def shiftI (d : Int) (c : Cel) : Cel := if c.k = 1 then ⟨c.k, c.s, c.n + d⟩ else c
theorem shiftC_eq {d : Int} (hd : -100000 ≤ d ∧ d ≤ 100000) {c : Cel} (h : c.k = 1 → -100000 ≤ c.n ∧ c.n ≤ 100000) : shiftC d c = shiftI d c := by
  unfold shiftC shiftI
  by_cases h1 : c.k = 1
  · have := h h1
    rw [if_pos h1, if_pos h1, IntWalk.wrap64_in _ (by constructor <;> omega)]
  · rw [if_neg h1, if_neg h1]
theorem map_shift {xs : List Cel} {d : Int} (hd : -100000 ≤ d ∧ d ≤ 100000) (h : ∀ c ∈ xs, c.k = 1 → -100000 ≤ c.n ∧ c.n ≤ 100000) : xs.map (shiftC d) = xs.map (shiftI d) :=
  List.map_congr_left (fun c hc => shiftC_eq hd (h c hc))
theorem varsGo_shift (d : Int) (xs : List Cel) : ∀ acc : List Int, varsGo (acc.map (· + d)) (xs.map (shiftI d)) = (varsGo acc xs).map (· + d) := by
  induction xs with
  | nil => intro acc; rfl
  | cons c xs ih =>
    intro acc
    simp only [List.map_cons, varsGo]
    have hk : (shiftI d c).k = c.k := by unfold shiftI; split <;> rfl
    have hm : ∀ n : Int, n + d ∈ acc.map (· + d) ↔ n ∈ acc := by
      intro n
      rw [List.mem_map]
      constructor
      · rintro ⟨m, hm, e⟩
        have : m = n := by omega
        rw [← this]; exact hm
      · intro h; exact ⟨n, h, rfl⟩
    by_cases h1 : c.k = 1
    · have hn : (shiftI d c).n = c.n + d := by unfold shiftI; rw [if_pos h1]
      by_cases h2 : c.n ∈ acc
      · rw [if_neg (by rw [hk, hn]; simp only [hm]; exact fun h => h.2 h2), if_neg (fun h => h.2 h2)]
        exact ih acc
      · rw [if_pos (by rw [hk, hn]; simp only [hm]; exact ⟨h1, h2⟩), if_pos ⟨h1, h2⟩, hn]
        have := ih (acc ++ [c.n])
        rw [List.map_append] at this
        exact this
    · rw [if_neg (by rw [hk]; exact fun h => h1 h.1), if_neg (fun h => h1 h.1)]
      exact ih acc
theorem vars_shift {xs : List Cel} (d : Int) : varsL (xs.map (shiftI d)) = (varsL xs).map (· + d) := varsGo_shift d xs []
theorem mem_vars_of (xs : List Cel) : ∀ (acc : List Int) (n : Int), n ∈ varsGo acc xs → n ∈ acc ∨ ∃ c ∈ xs, c.k = 1 ∧ c.n = n := by
  induction xs with
  | nil => intro acc n h; exact .inl h
  | cons c xs ih =>
    intro acc n h
    simp only [varsGo] at h
    rcases ih _ _ h with h | ⟨e, he, h1, h2⟩
    · split at h
      · rename_i hc
        rcases List.mem_append.1 h with h | h
        · exact .inl h
        · simp at h; exact .inr ⟨c, List.mem_cons_self, hc.1, h.symm⟩
      · exact .inl h
    · exact .inr ⟨e, List.mem_cons_of_mem _ he, h1, h2⟩
theorem vars_range {xs : List Cel} (h : rightB xs = true) : ∀ n ∈ varsL xs, 0 ≤ n ∧ n ≤ 999 := by
  intro n hn
  rcases mem_vars_of xs [] n hn with h' | ⟨c, hc, h1, rfl⟩
  · simp at h'
  · exact var_range (right_cells h c hc) h1
theorem shift_ok {c : Cel} {d : Int} (h : cellOk c = true) (hr : c.k = 1 → 0 ≤ c.n + d ∧ c.n + d ≤ 999) : cellOk (shiftI d c) = true ∧ ar (shiftI d c) = ar c := by
  unfold shiftI
  by_cases h1 : c.k = 1
  · rw [if_pos h1]
    have := hr h1
    refine ⟨?_, by simp [ar, h1]⟩
    simp [cellOk, h1] at h ⊢
    exact ⟨⟨h.1.1, this.1⟩, this.2⟩
  · rw [if_neg h1]; exact ⟨h, rfl⟩
theorem mem_varsL {xs : List Cel} {c : Cel} (hc : c ∈ xs) (h1 : c.k = 1) : c.n ∈ varsL xs := by
  have : ∀ (xs : List Cel) (acc : List Int), c ∈ xs → c.n ∈ varsGo acc xs := by
    intro xs
    induction xs with
    | nil => intro acc h; simp at h
    | cons e l ih =>
      intro acc h
      rcases List.mem_cons.1 h with rfl | h
      · simp only [varsGo]
        have sub : ∀ (l : List Cel) (acc : List Int) (n : Int), n ∈ acc → n ∈ varsGo acc l := by
          intro l
          induction l with
          | nil => intro acc n h; exact h
          | cons f l ih => intro acc n h; refine ih _ _ ?_; split; exact List.mem_append_left _ h; exact h
        refine sub _ _ _ ?_
        by_cases h2 : c.n ∈ acc
        · rw [if_neg (fun h => h.2 h2)]; exact h2
        · rw [if_pos ⟨h1, h2⟩]; simp
      · exact ih _ h
  exact this xs [] hc
theorem small_vars {xs : List Cel} (h : rightB xs = true) : ∀ c ∈ xs, c.k = 1 → -100000 ≤ c.n ∧ c.n ≤ 100000 := fun c hc h1 => by
  have := var_range (right_cells h c hc) h1; omega

/-- all variables stay within the limits -/
def stays (vs : List Int) (d : Int) : Bool := vs.all fun n => decide (0 ≤ n + d) && decide (n + d ≤ 999)
theorem shift_stays {t : Tm} (ht : t.ok) (h200 : t.flat.length ≤ 200) {d : Int} (hd : -100000 ≤ d ∧ d ≤ 100000) (h : stays (varsL t.flat) d = true) :
    shiftL t.flat d = (mapT (shiftI d) t).flat ∧ (mapT (shiftI d) t).ok ∧ (mapT (shiftI d) t).flat.length = t.flat.length := by
  have hR := right_flat ht h200
  have hok : (mapT (shiftI d) t).ok := mapT_ok _ t ht (fun c hc => shift_ok (ok_cells t ht c hc) (fun h1 => by
    have := List.all_eq_true.1 h c.n (mem_varsL hc h1)
    simpa using this))
  have hl : (mapT (shiftI d) t).flat.length = t.flat.length := by rw [mapT_flat, List.length_map]
  refine ⟨?_, hok, hl⟩
  unfold shiftL
  rw [map_shift hd (small_vars hR), ← mapT_flat, if_pos (right_flat hok (by omega))]
theorem shift_leaves {t : Tm} (ht : t.ok) (h200 : t.flat.length ≤ 200) {d : Int} (hd : -100000 ≤ d ∧ d ≤ 100000) (h : stays (varsL t.flat) d = false) : shiftL t.flat d = [] := by
  have hR := right_flat ht h200
  unfold shiftL
  rw [map_shift hd (small_vars hR), if_neg]
  intro hr
  obtain ⟨n, hn, hb⟩ := List.all_eq_false.1 h
  rcases mem_vars_of t.flat [] n hn with h' | ⟨c, hc, h1, rfl⟩
  · simp at h'
  · have h2 := right_cells hr (shiftI d c) (List.mem_map_of_mem hc)
    have h3 : (shiftI d c).k = 1 := by unfold shiftI; rw [if_pos h1]; exact h1
    have h4 := var_range h2 h3
    have h5 : (shiftI d c).n = c.n + d := by unfold shiftI; rw [if_pos h1]
    rw [h5] at h4
    exact hb (by simp; exact h4)
theorem shift_back {t : Tm} (ht : t.ok) (h200 : t.flat.length ≤ 200) {d : Int} (hd : -100000 ≤ d ∧ d ≤ 99000) (hd2 : -99000 ≤ d) (h : stays (varsL t.flat) d = true) : shiftL (mapT (shiftI d) t).flat (-d) = t.flat := by
  obtain ⟨_, hok, hl⟩ := shift_stays ht h200 ⟨hd.1, by omega⟩ h
  have hR := right_flat ht h200
  have hR2 := right_flat hok (by omega)
  have e : (mapT (shiftI d) t).flat.map (shiftC (-d)) = t.flat := by
    rw [map_shift ⟨by omega, by omega⟩ (small_vars hR2), mapT_flat, List.map_map]
    have : ∀ c ∈ t.flat, (shiftI (-d) ∘ shiftI d) c = c := by
      intro c _
      show shiftI (-d) (shiftI d c) = c
      unfold shiftI
      by_cases h1 : c.k = 1
      · rw [if_pos h1, if_pos h1]
        exact (Cel.eq_iff _ _).2 ⟨rfl, rfl, by show c.n + d + -d = c.n; omega⟩
      · rw [if_neg h1, if_neg h1]
    exact (List.map_congr_left this).trans (List.map_id _)
  unfold shiftL
  rw [e, if_pos hR]
theorem shift_zero {t : Tm} (ht : t.ok) (h200 : t.flat.length ≤ 200) : shiftL t.flat 0 = t.flat := by
  have hR := right_flat ht h200
  have e : t.flat.map (shiftC 0) = t.flat := by
    rw [map_shift ⟨by omega, by omega⟩ (small_vars hR)]
    have : ∀ c ∈ t.flat, shiftI 0 c = c := by
      intro c _
      unfold shiftI
      by_cases h1 : c.k = 1
      · rw [if_pos h1]
        exact (Cel.eq_iff _ _).2 ⟨rfl, rfl, by show c.n + 0 = c.n; omega⟩
      · rw [if_neg h1]
    exact (List.map_congr_left this).trans (List.map_id _)
  unfold shiftL
  rw [e, if_pos hR]
end Go.Proofs.Ytkbgdpgmnigcbaa
