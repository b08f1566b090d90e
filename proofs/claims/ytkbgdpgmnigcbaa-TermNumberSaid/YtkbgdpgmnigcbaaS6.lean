import Derived.Test.YtkbgdpgmnigcbaaC15
import Derived.Test.YtkbgdpgmnigcbaaS5
namespace Go.Proofs.Ytkbgdpgmnigcbaa
open Go.RowKit

/-- variables renamed -/
def renC (g : Int → Int) (c : Cel) : Cel := if c.k = 1 then ⟨c.k, c.s, g c.n⟩ else c
theorem renC_k (g : Int → Int) (c : Cel) : (renC g c).k = c.k := by unfold renC; split <;> rfl
theorem renC_n {g : Int → Int} {c : Cel} (h : c.k = 1) : (renC g c).n = g c.n := by unfold renC; rw [if_pos h]
theorem renC_s (g : Int → Int) (c : Cel) : (renC g c).s = c.s := by unfold renC; split <;> rfl
theorem renC_no {g : Int → Int} {c : Cel} (h : ¬ c.k = 1) : renC g c = c := by unfold renC; rw [if_neg h]
theorem num_ren (vs : List Int) : numC vs = renC (placeI vs) := by funext c; rfl
theorem shift_ren (d : Int) : shiftI d = renC (· + d) := by funext c; rfl
theorem varsGo_ren (g : Int → Int) (S : Int → Prop) (hS : ∀ a b, S a → S b → g a = g b → a = b) (xs : List Cel) : ∀ acc : List Int, (∀ n ∈ acc, S n) → (∀ c ∈ xs, c.k = 1 → S c.n) → varsGo (acc.map g) (xs.map (renC g)) = (varsGo acc xs).map g := by
  induction xs with
  | nil => intro acc _ _; rfl
  | cons c xs ih =>
    intro acc ha hx
    simp only [List.map_cons, varsGo]
    by_cases h1 : c.k = 1
    · have hsc := hx c List.mem_cons_self h1
      have hm : g c.n ∈ acc.map g ↔ c.n ∈ acc := by
        rw [List.mem_map]
        constructor
        · rintro ⟨m, hm, e⟩
          rw [← hS m c.n (ha m hm) hsc e]; exact hm
        · intro h; exact ⟨_, h, rfl⟩
      rw [renC_k, renC_n h1]
      by_cases h2 : c.n ∈ acc
      · rw [if_neg (fun h => h.2 (hm.2 h2)), if_neg (fun h => h.2 h2)]
        exact ih acc ha (fun d hd => hx d (List.mem_cons_of_mem _ hd))
      · rw [if_pos ⟨h1, fun h => h2 (hm.1 h)⟩, if_pos ⟨h1, h2⟩]
        have := ih (acc ++ [c.n]) (by
          intro n hn
          rcases List.mem_append.1 hn with h | h
          · exact ha n h
          · simp at h; subst h; exact hsc) (fun d hd => hx d (List.mem_cons_of_mem _ hd))
        rw [List.map_append] at this
        exact this
    · rw [renC_k, if_neg (fun h => h1 h.1), if_neg (fun h => h1 h.1)]
      exact ih acc ha (fun d hd => hx d (List.mem_cons_of_mem _ hd))
theorem varsL_ren (g : Int → Int) {xs : List Cel} (hS : ∀ a b, a ∈ varsL xs → b ∈ varsL xs → g a = g b → a = b) : varsL (xs.map (renC g)) = (varsL xs).map g :=
  varsGo_ren g (· ∈ varsL xs) hS xs [] (by simp) (fun _ hc h1 => mem_varsL hc h1)
theorem placeI_mem {vs : List Int} {n : Int} (h : n ∈ vs) : placeI vs n = (vs.idxOf n : Int) ∧ vs.idxOf n < vs.length ∧ vs[vs.idxOf n]? = some n := by
  refine ⟨by unfold placeI; rw [if_pos h], List.idxOf_lt_length_of_mem h, ?_⟩
  rw [List.getElem?_eq_getElem (List.idxOf_lt_length_of_mem h), List.getElem_idxOf]
theorem placeI_inj {vs : List Int} {a b : Int} (ha : a ∈ vs) (hb : b ∈ vs) (e : placeI vs a = placeI vs b) : a = b := by
  obtain ⟨a1, a2, a3⟩ := placeI_mem ha
  obtain ⟨b1, b2, b3⟩ := placeI_mem hb
  have : vs.idxOf a = vs.idxOf b := by omega
  rw [this, b3] at a3
  exact (Option.some.inj a3).symm
theorem varsL_nodup (xs : List Cel) : (varsL xs).Nodup := varsGo_nodup xs [] List.nodup_nil
theorem placeI_at {vs : List Int} (h : vs.Nodup) {i : Nat} (hi : i < vs.length) : placeI vs vs[i] = i := by
  unfold placeI
  rw [if_pos (List.getElem_mem hi), h.idxOf_getElem i hi]
/-- 0, 1, and so on -/
def upI (m : Nat) : List Int := (List.range m).map fun (i : Nat) => (i : Int)
theorem upI_length (m : Nat) : (upI m).length = m := by simp [upI]
theorem upI_at {m i : Nat} (h : i < (upI m).length) : (upI m)[i] = i := by simp [upI]
theorem map_place {vs : List Int} (h : vs.Nodup) : vs.map (placeI vs) = upI vs.length := by
  refine List.ext_getElem (by simp [upI]) (fun i h1 h2 => ?_)
  simp at h1
  rw [List.getElem_map, upI_at, placeI_at h h1]
theorem vars_num (xs : List Cel) : varsL (numL xs) = upI (varsL xs).length := by
  unfold numL
  rw [num_ren, varsL_ren _ (fun a b ha hb e => placeI_inj ha hb e), map_place (varsL_nodup xs)]
theorem num_num (xs : List Cel) : numL (numL xs) = numL xs := by
  have hnd := varsL_nodup (numL xs)
  rw [vars_num] at hnd
  show (numL xs).map (numC (varsL (numL xs))) = numL xs
  rw [vars_num]
  unfold numL
  rw [List.map_map]
  refine List.map_congr_left fun c hc => ?_
  show numC _ (numC _ c) = numC _ c
  rw [num_ren, num_ren]
  by_cases h1 : c.k = 1
  · obtain ⟨p1, p2, p3⟩ := placeI_mem (mem_varsL hc h1)
    have hk : (renC (placeI (varsL xs)) c).k = 1 := by rw [renC_k]; exact h1
    have e : placeI (upI (varsL xs).length) (placeI (varsL xs) c.n) = placeI (varsL xs) c.n := by
      rw [p1]
      have := placeI_at hnd (i := (varsL xs).idxOf c.n) (by rw [upI_length]; exact p2)
      rwa [upI_at] at this
    exact (Cel.eq_iff _ _).2 ⟨by rw [renC_k], by rw [renC_s], by rw [renC_n hk, renC_n h1, e]⟩
  · rw [renC_no h1, renC_no h1]
theorem num_alike {xs : List Cel} {c e : Cel} (hc : c ∈ xs) (he : e ∈ xs) : numC (varsL xs) c = numC (varsL xs) e ↔ c = e := by
  rw [num_ren]
  refine ⟨fun h => ?_, fun h => by rw [h]⟩
  have hk : c.k = e.k := by have := congrArg Cel.k h; rwa [renC_k, renC_k] at this
  by_cases h1 : c.k = 1
  · have h2 : e.k = 1 := by rw [← hk]; exact h1
    have hn := congrArg Cel.n h
    rw [renC_n h1, renC_n h2] at hn
    have hs := congrArg Cel.s h
    rw [renC_s, renC_s] at hs
    exact (Cel.eq_iff _ _).2 ⟨hk, hs, placeI_inj (mem_varsL hc h1) (mem_varsL he h2) hn⟩
  · rw [renC_no h1, renC_no (by rw [← hk]; exact h1)] at h
    exact h
theorem placeI_map (g : Int → Int) (hg : ∀ a b, g a = g b → a = b) (l : List Int) (n : Int) : placeI (l.map g) (g n) = placeI l n := by
  unfold placeI
  have hm : g n ∈ l.map g ↔ n ∈ l := by
    rw [List.mem_map]
    exact ⟨fun ⟨m, hm, e⟩ => hg _ _ e ▸ hm, fun h => ⟨n, h, rfl⟩⟩
  have hi : (l.map g).idxOf (g n) = l.idxOf n := by
    induction l with
    | nil => rfl
    | cons a l ih =>
      simp only [List.map_cons, List.idxOf_cons]
      have hb : (g a == g n) = (a == n) := by
        by_cases e : a = n
        · simp [e]
        · have : ¬ g a = g n := fun h => e (hg _ _ h)
          rw [beq_eq_false_iff_ne.2 this, beq_eq_false_iff_ne.2 e]
      have hm' : g n ∈ l.map g ↔ n ∈ l := by
        rw [List.mem_map]
        exact ⟨fun ⟨m, hm, e⟩ => hg _ _ e ▸ hm, fun h => ⟨n, h, rfl⟩⟩
      rw [hb, ih hm']
  by_cases h : n ∈ l
  · rw [if_pos h, if_pos (hm.2 h), hi]
  · rw [if_neg h, if_neg (fun h' => h (hm.1 h'))]
theorem num_shift (xs : List Cel) (d : Int) : numL (xs.map (shiftI d)) = numL xs := by
  unfold numL
  rw [vars_shift, List.map_map]
  refine List.map_congr_left fun c _ => ?_
  show numC _ (shiftI d c) = numC _ c
  rw [num_ren, num_ren, shift_ren]
  by_cases h1 : c.k = 1
  · have hk : (renC (· + d) c).k = 1 := by rw [renC_k]; exact h1
    refine (Cel.eq_iff _ _).2 ⟨by rw [renC_k, renC_k, renC_k], by rw [renC_s, renC_s, renC_s], ?_⟩
    rw [renC_n hk, renC_n h1, renC_n h1]
    exact placeI_map (· + d) (fun a b h => by have h' : a + d = b + d := h; omega) _ _
  · rw [renC_no h1, renC_no h1, renC_no h1]
theorem num_tree {t : Tm} (ht : t.ok) (h200 : t.flat.length ≤ 200) : numL t.flat = (mapT (numC (varsL t.flat)) t).flat ∧ (mapT (numC (varsL t.flat)) t).ok := by
  refine ⟨by unfold numL; rw [mapT_flat], mapT_ok _ t ht fun c hc => ?_⟩
  have hok := ok_cells t ht c hc
  have hvl := varsGo_length t.flat []
  rw [show varsGo [] t.flat = varsL t.flat from rfl, List.length_nil, Nat.zero_add] at hvl
  unfold numC
  by_cases h1 : c.k = 1
  · obtain ⟨p1, p2, _⟩ := placeI_mem (mem_varsL hc h1)
    rw [if_pos h1, p1]
    refine ⟨?_, by simp [ar, h1]⟩
    simp [cellOk, h1] at hok ⊢
    exact ⟨hok.1.1, by omega⟩
  · rw [if_neg h1]; exact ⟨hok, rfl⟩
end Go.Proofs.Ytkbgdpgmnigcbaa
