import Derived.Test.YtlddglajdcednaaZr6

namespace Go.Proofs.Ytlddglajdcednaa

/-! ### one term, read at the front of a row -/
def IsT (t : List Cel) : Prop := ∀ m rest, sk (m + 1) (t ++ rest) = sk m rest
theorem sk_zero (l : List Cel) : sk 0 l = some l := by cases l <;> rfl
theorem IsT.inj {t u a b : List Cel} (ht : IsT t) (hu : IsT u) (e : t ++ a = u ++ b) : t = u ∧ a = b := by
  have h1 := ht 0 a
  have h2 := hu 0 b
  rw [e, h2, sk_zero, sk_zero] at h1
  injection h1 with h1
  subst h1
  exact ⟨List.append_cancel_right e, rfl⟩
theorem flat_isT (T : Nat → List Cel) : ∀ qs : List Nat, (∀ q ∈ qs, IsT (T q)) → ∀ m rest, sk (qs.length + m) (qs.flatMap T ++ rest) = sk m rest
  | [], _, m, rest => by simp
  | q :: qs, h, m, rest => by
    rw [List.flatMap_cons, List.append_assoc, List.length_cons, show qs.length + 1 + m = qs.length + m + 1 by omega, h q List.mem_cons_self]
    exact flat_isT T qs (fun q' h' => h q' (List.mem_cons_of_mem _ h')) m rest
theorem flat_inj (T : Nat → List Cel) : ∀ xs ys : List Nat, xs.length = ys.length → (∀ q ∈ xs, IsT (T q)) → (∀ q ∈ ys, IsT (T q)) → xs.flatMap T = ys.flatMap T → xs.map T = ys.map T
  | [], [], _, _, _, _ => rfl
  | [], _ :: _, h, _, _, _ => by simp at h
  | _ :: _, [], h, _, _, _ => by simp at h
  | x :: xs, y :: ys, h, hx, hy, e => by
    rw [List.flatMap_cons, List.flatMap_cons] at e
    obtain ⟨e1, e2⟩ := (hx x List.mem_cons_self).inj (hy y List.mem_cons_self) e
    rw [List.map_cons, List.map_cons, e1, flat_inj T xs ys (by simpa using h) (fun q hq => hx q (List.mem_cons_of_mem _ hq)) (fun q hq => hy q (List.mem_cons_of_mem _ hq)) e2]
section
variable {l : List Cel}
theorem put_eq (hG : Good l) (G : Int → List Cel) {z : Nat} (hz : z < l.length) :
    putF G (subL l z) = if l[z].k = 1 then G l[z].n else l[z] :: (argsL l z).flatMap fun q => putF G (subL l q) := by
  rw [sub_eq hG hz]
  split
  · next h => rw [var_args hz h, putF_var _ h]; simp [putF]
  · next h => rw [putF_cell _ h, putF_flat]
theorem put_isT (hG : Good l) {G : Int → List Cel} (hT : ∀ v, IsT (G v)) : ∀ (k z : Nat), z < l.length → l.length - z ≤ k → IsT (putF G (subL l z)) := by
  intro k
  induction k with
  | zero => intro z hz hk; omega
  | succ k ih =>
    intro z hz hk
    rw [put_eq hG G hz]
    split
    · exact hT _
    · next h =>
      intro m rest
      rw [List.cons_append]
      simp only [sk, good_ok hG hz, if_true]
      have := flat_isT (fun q => putF G (subL l q)) (argsL l z) (fun q hq => ih q (args_lt hG hq) (by have := arg_gt hG hz hq; omega)) m rest
      rw [args_length l hz, Nat.add_comm] at this
      exact this
/-- the values of what is put in fit the terms -/
theorem put_fits (hG : Good l) {G : Int → List Cel} (hT : ∀ v, IsT (G v)) : ValOk l fun z => putF G (subL l z) := by
  refine ⟨fun x y hx hy e k1 k2 => ?_⟩
  simp only [put_eq hG G hx, put_eq hG G hy, if_neg k1, if_neg k2, List.cons.injEq] at e
  obtain ⟨e1, e2⟩ := e
  have hlen : (argsL l x).length = (argsL l y).length := by rw [args_length l hx, args_length l hy, e1]
  exact ⟨e1, flat_inj _ _ _ hlen (fun q hq => put_isT hG hT l.length q (args_lt hG hq) (by omega)) (fun q hq => put_isT hG hT l.length q (args_lt hG hq) (by omega)) e2⟩
theorem put_less (hG : Good l) (G : Int → List Cel) {z q : Nat} (hz : z < l.length) (hq : q ∈ argsL l z) : (putF G (subL l q)).length < (putF G (subL l z)).length := by
  have hk : l[z].k ≠ 1 := fun h => by rw [var_args hz h] at hq; cases hq
  rw [put_eq hG G hz, if_neg hk, List.length_cons]
  have : ∀ qs : List Nat, q ∈ qs → (putF G (subL l q)).length ≤ (qs.flatMap fun q => putF G (subL l q)).length := by
    intro qs
    induction qs with
    | nil => intro h; cases h
    | cons x xs ih =>
      intro h
      rw [List.flatMap_cons, List.length_append]
      rcases List.mem_cons.1 h with rfl | h
      · omega
      · have := ih h; omega
  have := this _ hq
  omega
end

/-! ### measuring ends, where lengths fall -/
def progN (s : List Int) : Nat := s.countP (fun v => decide (v = -1))
theorem prog_set {s : List Int} {x : Nat} (hx : x < s.length) (h : s.getD x 0 = 0) : progN (s.set x (-1)) = progN s + 1 := by
  have h' : s[x] = 0 := by simpa [List.getD_eq_getElem?_getD, List.getElem?_eq_getElem hx] using h
  unfold progN
  rw [List.countP_set hx]
  simp [h']
theorem prog_same {s s2 : List Int} (hl : s.length = s2.length) (h : ∀ x, s.getD x 0 = -1 ↔ s2.getD x 0 = -1) : progN s = progN s2 := by
  have e : s.map (fun v => decide (v = -1)) = s2.map (fun v => decide (v = -1)) := by
    apply List.ext_getElem
    · simpa using hl
    · intro i h1 h2
      have a1 : i < s.length := by simpa using h1
      have a2 : i < s2.length := by simpa using h2
      have := h i
      simp only [List.getD_eq_getElem?_getD, List.getElem?_eq_getElem a1, List.getElem?_eq_getElem a2, Option.getD_some] at this
      simp only [List.getElem_map, decide_eq_decide]
      exact this
  have c : ∀ s : List Int, progN s = (s.map (fun v => decide (v = -1))).countP id := fun s => by unfold progN; rw [List.countP_map]; rfl
  rw [c, c, e]
theorem measure_some {l : List Cel} (hG : Good l) {r : List Nat} (hj : JoinOk l r []) {L : Nat → Nat} (hL : ∀ z, z < l.length → L (r.getD z 0) = L z) (hless : ∀ z q, z < l.length → q ∈ argsL l z → L q < L z) :
    ∀ (f : Nat) (s : List Int) (p : Nat), p < l.length → MOk l r s → (∀ y, y < l.length → s.getD y 0 = -1 → L p < L y) → l.length + 1 ≤ f + progN s → ∃ s2, measureL l r f s p = some s2 := by
  intro f
  induction f with
  | zero =>
    intro s p _ hs _ hf
    have : progN s ≤ s.length := List.countP_le_length
    rw [hs.len] at this
    omega
  | succ f ih =>
    intro s p hp hs hpr hf
    obtain ⟨x1, x2⟩ := hj.top p hp
    have hxs : r.getD p 0 < s.length := by rw [hs.len]; exact x1
    unfold measureL
    simp only
    split
    · next h0 =>
      have hs0 : MOk l r (s.set (r.getD p 0) (-1)) := hs.begin x1 h0
      have hp0 : l.length + 1 ≤ f + progN (s.set (r.getD p 0) (-1)) := by rw [prog_set hxs h0]; omega
      have hpr0 : ∀ q ∈ argsL l (r.getD p 0), ∀ y, y < l.length → (s.set (r.getD p 0) (-1)).getD y 0 = -1 → L q < L y := by
        intro q hq y hy e
        have h1 := hless _ q x1 hq
        rw [getD_set hxs] at e
        split at e
        · next e' => rw [e']; exact h1
        · have := hpr y hy e
          rw [hL p hp] at h1
          omega
      have fold : ∀ (qs : List Nat), (∀ q ∈ qs, q ∈ argsL l (r.getD p 0)) → ∀ (s0 : List Int) (n0 : Int), MOk l r s0 → (∀ x, (s.set (r.getD p 0) (-1)).getD x 0 = -1 ↔ s0.getD x 0 = -1) →
          ∃ o, foldM l r f qs (some (s0, n0)) = some o := by
        intro qs
        induction qs with
        | nil => intro _ s0 n0 _ _; exact ⟨_, rfl⟩
        | cons q qs ihq =>
          intro hqs s0 n0 h0 he
          have hq := hqs q List.mem_cons_self
          have hql := args_lt hG hq
          obtain ⟨s1, e1⟩ := ih s0 q hql h0 (fun y hy e => hpr0 q hq y hy ((he y).2 e)) (by rw [← prog_same (by rw [hs0.len, h0.len]) he]; exact hp0)
          obtain ⟨m1, _⟩ := measure_ok hG hj f s0 q s1 hql h0 e1
          rw [foldM, List.foldl_cons]
          simp only [Option.bind_some, e1, Option.map_some]
          exact ihq (fun q' h => hqs q' (List.mem_cons_of_mem _ h)) s1 _ m1.ok fun x => ⟨fun e => by rw [m1.keep x (by rw [(he x).1 e]; omega)]; exact (he x).1 e, fun e => (he x).2 (m1.prog x e)⟩
      obtain ⟨o, e⟩ := fold _ (fun _ h => h) (s.set (r.getD p 0) (-1)) 1 hs0 (fun _ => Iff.rfl)
      obtain ⟨s', n⟩ := o
      unfold foldM at e
      rw [e]
      exact ⟨_, rfl⟩
    · next h0 =>
      split
      · next h1 =>
        exfalso
        have := hpr _ x1 h1
        rw [hL p hp] at this
        omega
      · exact ⟨_, rfl⟩
/-- THE MOST GENERAL: whatever makes two terms the same: then joining and measuring end well, and what they tell, put in first, changes nothing -/
theorem most_of {l : List Cel} (hG : Good l) {G : Int → List Cel} (hT : ∀ v, IsT (G v)) {p q : Nat} (hp : p < l.length) (hq : q < l.length) (e : putF G (subL l p) = putF G (subL l q)) :
    ∃ r s, joinL l (7 * l.length + 1) (ups l) [(p, q)] = some r ∧ measureL l r (l.length + 1) (List.replicate l.length 0) p = some s ∧
      (∀ z, z < l.length → putF G (subL l (r.getD z 0)) = putF G (subL l z)) := by
  have hJ : JoinOk l (ups l) [(p, q)] := laid_ok l _ (by simp [hp, hq])
  have ht : tops (ups l) ≤ l.length := by
    unfold tops
    have h1 := List.length_filter_le (fun k => decide ((ups l).getD k 0 = k)) (List.range (ups l).length)
    rw [List.length_range, hJ.len] at h1
    rw [hJ.len]
    exact h1
  obtain ⟨r, e1, e2⟩ := join_val hG (put_fits hG hT) (7 * l.length + 1) (ups l) [(p, q)] hJ (by rw [List.length_singleton]; omega)
    (fun z hz => by
      rw [ups_get hz]
      by_cases hk : l[z].k = 1
      · obtain ⟨h1, _⟩ := upAt_le hz
        have hu : upAt l z < l.length := by omega
        have hf := first_of hz hk
        unfold firstO at hf
        have hf := List.findIdx?_eq_some_iff_getElem.1 hf
        obtain ⟨_, h2, _⟩ := hf
        simp only [isV, Bool.and_eq_true, decide_eq_true_eq] at h2
        show putF G (subL l (upAt l z)) = putF G (subL l z)
        rw [put_eq hG G hu, put_eq hG G hz, if_pos hk, if_pos h2.1, h2.2]
      · have : upAt l z = z := by unfold upAt; rw [List.getElem?_eq_getElem hz]; simp [hk]
        rw [this])
    (by simp only [List.mem_singleton]; rintro _ rfl; exact e)
  have J := joined_ups hG (t := [(p, q)]) (by simp [hp, hq]) e1
  obtain ⟨s, e3⟩ := measure_some hG J.ok (L := fun z => (putF G (subL l z)).length) (fun z hz => by rw [e2 z hz]) (fun z q hz hq => put_less hG G hz hq) (l.length + 1) (List.replicate l.length 0) p hp
    ⟨by simp, fun x => by simp only [List.getD_eq_getElem?_getD, List.getElem?_replicate]; split <;> simp, fun x _ h => by simp only [List.getD_eq_getElem?_getD, List.getElem?_replicate] at h; split at h <;> simp at h, fun x _ h => by simp only [List.getD_eq_getElem?_getD, List.getElem?_replicate] at h; split at h <;> simp at h⟩
    (fun y _ h => by simp only [List.getD_eq_getElem?_getD, List.getElem?_replicate] at h; split at h <;> simp at h) (by omega)
  exact ⟨r, s, e1, e3, e2⟩
end Go.Proofs.Ytlddglajdcednaa

namespace Go.Proofs.Ytlddglajdcednaa

/-! ### two terms, one behind the other -/
theorem sk_more : ∀ (l : List Cel) (m : Nat) (r : List Cel), sk m l = some r → ∀ k rest, sk (m + k) (l ++ rest) = sk k (r ++ rest)
  | [], 0, r, h, k, rest => by simp [sk] at h; subst h; simp
  | [], m + 1, r, h, k, rest => by simp [sk] at h
  | c :: l, 0, r, h, k, rest => by simp [sk] at h; subst h; simp
  | c :: l, m + 1, r, h, k, rest => by
    simp only [sk] at h
    split at h
    · next hc =>
      rw [show m + 1 + k = m + k + 1 by omega, List.cons_append]
      simp only [sk, hc, if_true]
      rw [show m + k + ar c = m + ar c + k by omega]
      exact sk_more l (m + ar c) r h k rest
    · cases h
theorem IsT_of_sk {t : List Cel} (h : sk 1 t = some []) : IsT t := fun m rest => by
  have := sk_more t 1 [] h m rest
  rw [Nat.add_comm, this, List.nil_append]
theorem IsT.reads {t : List Cel} (h : IsT t) : sk 1 t = some [] := by
  have := h 0 []
  rw [List.append_nil, sk_zero] at this
  exact this
theorem sub_first {a b : List Cel} (ha : IsT a) : subL (a ++ b) 0 = a := by
  have h := ha 0 b
  rw [sk_zero] at h
  have e : endI (a ++ b) 0 = (a.length : Int) := by
    unfold endI
    rw [List.drop_zero, h]
    show ((a ++ b).length : Int) - (b.length : Int) = _
    rw [List.length_append]; omega
  unfold subL
  rw [e, List.drop_zero]
  simp
theorem sub_second {a b : List Cel} (hb : IsT b) : subL (a ++ b) a.length = b := by
  have h := hb.reads
  have e : endI (a ++ b) a.length = ((a ++ b).length : Int) := by
    unfold endI
    rw [List.drop_left, h]
    show ((a ++ b).length : Int) - 0 = _
    omega
  unfold subL
  rw [e, List.drop_left, List.length_append]
  rw [List.take_of_length_le (by omega)]

/-! ### all that stands within is measured -/
section
variable {l : List Cel} {r : List Nat} {t : List (Nat × Nat)} {s : List Int}
theorem done_parts (J : Joined l (ups l) r t) (mo : MOk l r s) {p : Nat} (hp : p < l.length) (h : 0 < s.getD (r.getD p 0) 0) : ∀ q ∈ argsL l p, 0 < s.getD (r.getD q 0) 0 := by
  intro q hq
  have hk : l[p].k ≠ 1 := fun e => by rw [var_args hp e] at hq; cases hq
  obtain ⟨x1, x2⟩ := J.ok.top p hp
  have kx : l[r.getD p 0].k ≠ 1 := fun e => hk (J.var p hp x1 e)
  obtain ⟨_, c2⟩ := J.closed p _ hp x1 x2.symm hk kx
  have : r.getD q 0 ∈ (argsL l (r.getD p 0)).map (fun z => r.getD z 0) := by rw [← c2]; exact List.mem_map.2 ⟨q, hq, rfl⟩
  obtain ⟨q', hq', e'⟩ := List.mem_map.1 this
  have := mo.parts _ x1 h q' hq'
  rw [e'] at this
  exact this
theorem arg_find (hG : Good l) {i z : Nat} (hi : i < l.length) (h1 : i + 1 ≤ z) : ∀ m, m ≤ ar l[i] → z < argP l i m → ∃ j, j < m ∧ argP l i j ≤ z ∧ z < argP l i (j + 1)
  | 0, _, h => by rw [argP_zero hi] at h; omega
  | m + 1, hm, h => by
    by_cases hz : z < argP l i m
    · obtain ⟨j, a, b, c⟩ := arg_find hG hi h1 m (by omega) hz
      exact ⟨j, by omega, b, c⟩
    · exact ⟨m, by omega, by omega, h⟩
theorem all_done (hG : Good l) (J : Joined l (ups l) r t) (mo : MOk l r s) : ∀ (k p : Nat), p < l.length → l.length - p ≤ k → 0 < s.getD (r.getD p 0) 0 → ∀ z, p ≤ z → z < (endI l p).toNat → 0 < s.getD (r.getD z 0) 0 := by
  intro k
  induction k with
  | zero => intro p hp hk; omega
  | succ k ih =>
    intro p hp hk h z hz1 hz2
    by_cases e : z = p
    · rw [e]; exact h
    · have he : (endI l p).toNat = argP l p (ar l[p]) := by rw [good_end hG hp]; rfl
      rw [he] at hz2
      obtain ⟨j, a, b, c⟩ := arg_find hG hp (z := z) (by omega) _ (Nat.le_refl _) hz2
      have hq : argP l p j ∈ argsL l p := by
        unfold argsL
        rw [List.getElem?_eq_getElem hp]
        exact List.mem_map.2 ⟨j, List.mem_range.2 a, rfl⟩
      have hgt := arg_gt hG hp hq
      have hn := (argP_next hG hp a).1
      exact ih (argP l p j) (args_lt hG hq) (by omega) (done_parts J mo hp h _ hq) z b (by rw [hn]; exact c)
/-- a class's term is a term, and of cells of the row alone -/
theorem term_isT (hG : Good l) (hj : JoinOk l r []) : ∀ (h p : Nat), p < l.length → h ≤ l.length → EndsIn l r h (r.getD p 0) → IsT (termL l r p) ∧ ∀ c ∈ termL l r p, c ∈ l := by
  intro h
  induction h with
  | zero => intro p _ _ e; exact e.elim
  | succ h ih =>
    intro p hp hh e
    obtain ⟨x1, x2⟩ := hj.top p hp
    rw [term_eq e hh x1]
    have hq := fun q (hq : q ∈ argsL l (r.getD p 0)) => ih q (args_lt hG hq) (by omega) (e q hq)
    refine ⟨fun m rest => ?_, fun c hc => ?_⟩
    · rw [List.cons_append]
      simp only [sk, good_ok hG x1, if_true]
      have := flat_isT (termL l r) (argsL l (r.getD p 0)) (fun q h => (hq q h).1) m rest
      rw [args_length l x1, Nat.add_comm] at this
      exact this
    · rcases List.mem_cons.1 hc with rfl | hc
      · exact List.getElem_mem x1
      · obtain ⟨q, h1, h2⟩ := List.mem_flatMap.1 hc
        exact (hq q h1).2 c h2
end

/-! ### what joining and measuring tell of two terms -/
/-- what is told of two terms that can be made alike -/
structure Told (a b : List Cel) (r : List Nat) (s : List Int) : Prop where
  alike : putF (ofVar (a ++ b) r) a = putF (ofVar (a ++ b) r) b
  /-- of each variable -/
  ofv : ∀ p (hp : p < (a ++ b).length), (a ++ b)[p].k = 1 →
    IsT (ofVar (a ++ b) r (a ++ b)[p].n) ∧ (∀ c ∈ ofVar (a ++ b) r (a ++ b)[p].n, c ∈ a ++ b) ∧
    putF (ofVar (a ++ b) r) (ofVar (a ++ b) r (a ++ b)[p].n) = ofVar (a ++ b) r (a ++ b)[p].n ∧
    (200 < s.getD (r.getD ((firstO (a ++ b) (a ++ b)[p].n).getD 0) 0) 0 ↔ 200 < (ofVar (a ++ b) r (a ++ b)[p].n).length) ∧
    (∀ w, ofVar (a ++ b) r (a ++ b)[p].n = [varC w] → w ≤ (a ++ b)[p].n)
  most : ∀ G : Int → List Cel, (∀ v, IsT (G v)) → putF G a = putF G b → ∀ p (hp : p < (a ++ b).length), (a ++ b)[p].k = 1 → putF G (ofVar (a ++ b) r (a ++ b)[p].n) = G (a ++ b)[p].n
theorem told_some {a b : List Cel} (ha : IsT a) (hb : IsT b) (ha0 : 0 < a.length) (hb0 : 0 < b.length) (hG : Good (a ++ b)) {r : List Nat} {s : List Int}
    (e : joinL (a ++ b) (7 * (a ++ b).length + 1) (ups (a ++ b)) [(0, a.length)] = some r) (m : measureL (a ++ b) r ((a ++ b).length + 1) (List.replicate (a ++ b).length 0) 0 = some s) : Told a b r s := by
  have hl : (a ++ b).length = a.length + b.length := List.length_append
  have h0 : 0 < (a ++ b).length := by omega
  have hq : a.length < (a ++ b).length := by omega
  have s1 := sub_first (b := b) ha
  have s2 := sub_second (a := a) hb
  have J := joined_ups hG (t := [(0, a.length)]) (by simp; omega) e
  obtain ⟨mo, pos⟩ := measured hG J.ok h0 m
  have hd : doneN s ≤ (a ++ b).length := by have := done_le s; rw [mo.len] at this; exact this
  have hal := alike_of hG h0 hq e m
  rw [s1, s2] at hal
  have h0q : r.getD 0 0 = r.getD a.length 0 := J.done (0, a.length) (by simp)
  have e1 : (endI (a ++ b) 0).toNat = a.length := by
    have h := ha 0 b
    rw [sk_zero] at h
    unfold endI
    rw [List.drop_zero, h]
    show ((((a ++ b).length : Int) - (b.length : Int))).toNat = _
    omega
  have e2 : (endI (a ++ b) a.length).toNat = (a ++ b).length := by
    unfold endI
    rw [List.drop_left, hb.reads]
    show ((((a ++ b).length : Int) - 0)).toNat = _
    omega
  have all : ∀ z, z < (a ++ b).length → 0 < s.getD (r.getD z 0) 0 := by
    intro z hz
    by_cases h : z < a.length
    · exact all_done hG J mo _ 0 h0 (Nat.le_refl _) pos z (by omega) (by rw [e1]; exact h)
    · exact all_done hG J mo _ a.length hq (Nat.le_refl _) (by rw [← h0q]; exact pos) z (by omega) (by rw [e2]; exact hz)
  have ends : ∀ z, z < (a ++ b).length → EndsIn (a ++ b) r (doneN s) (r.getD z 0) := fun z hz => (mo.ends _ (J.ok.top z hz).1 (all z hz)).1
  refine ⟨hal.1.trans hal.2.symm, fun p hp hk => ?_, fun G hT eG p hp hk => ?_⟩
  · have ev := ofVar_at J hp hk
    obtain ⟨i1, i2⟩ := term_isT hG J.ok (doneN s) p hp hd (ends p hp)
    obtain ⟨u1, u2⟩ := upAt_le hp
    have hu : upAt (a ++ b) p < (a ++ b).length := by omega
    have hru : r.getD (upAt (a ++ b) p) 0 = r.getD p 0 := J.mono _ _ hu hp (by rw [ups_get hu, ups_get hp, u2])
    rw [ev]
    refine ⟨i1, i2, put_term J hG (doneN s) p hp hd (ends p hp), ?_, fun w hw => ?_⟩
    rotate_left
    · obtain ⟨x1, x2⟩ := J.ok.top p hp
      have hh : (termL (a ++ b) r p).head? = some (a ++ b)[r.getD p 0] := by
        unfold termL
        simp only [layL]
        rw [List.getElem?_eq_getElem x1]
        rfl
      rw [hw] at hh
      simp only [List.head?_cons, Option.some.injEq] at hh
      have hk' : (a ++ b)[r.getD p 0].k = 1 := by rw [← hh]; rfl
      have hn : (a ++ b)[r.getD p 0].n = w := by rw [← hh]; rfl
      have := join_least hG _ _ _ _ (laid_ok (a ++ b) [(0, a.length)] (by simp; omega)) (laid_least _) e p hp x1 hk'
      omega
    rw [first_of hp hk]
    show 200 < s.getD (r.getD (upAt (a ++ b) p) 0) 0 ↔ _
    obtain ⟨x1, x2⟩ := J.ok.top p hp
    rw [hru, (mo.ends _ x1 (all p hp)).2, term_class x2]
    omega
  · obtain ⟨r2, _, f1, _, f3⟩ := most_of hG hT h0 hq (by rw [s1, s2]; exact eG)
    rw [e] at f1
    injection f1 with f1
    subst f1
    rw [ofVar_at J hp hk, put_most hG J.ok f3 (doneN s) p hp hd (ends p hp), put_eq hG G hp, if_pos hk]
/-- nothing is told: nothing makes both the same -/
theorem told_none {a b : List Cel} (ha : IsT a) (hb : IsT b) (ha0 : 0 < a.length) (hb0 : 0 < b.length) (hG : Good (a ++ b))
    (e : ∀ r, joinL (a ++ b) (7 * (a ++ b).length + 1) (ups (a ++ b)) [(0, a.length)] = some r → measureL (a ++ b) r ((a ++ b).length + 1) (List.replicate (a ++ b).length 0) 0 = none) :
    ∀ G : Int → List Cel, (∀ v, IsT (G v)) → putF G a ≠ putF G b := by
  intro G hT eG
  have hl : (a ++ b).length = a.length + b.length := List.length_append
  obtain ⟨r, s, f1, f2, _⟩ := most_of hG hT (p := 0) (q := a.length) (by omega) (by omega) (by rw [sub_first ha, sub_second hb]; exact eG)
  have := e r f1
  rw [f2] at this
  cases this
end Go.Proofs.Ytlddglajdcednaa

namespace Go.Proofs.Ytlddglajdcednaa

/-! ### the variables, rising, each once -/
theorem compact_all (d : Array Int) : ∀ m i, i < m → d[i]! ∈ Lib.compactUpTo d m
  | 0, _, h => by omega
  | m + 1, i, h => by
    rw [Lib.compactUpTo_succ]
    by_cases e : i < m
    · exact List.mem_append.2 (.inl (compact_all d m i e))
    · obtain rfl : i = m := by omega
      by_cases k : Lib.keeps d i = true
      · rw [if_pos k]; simp
      · have hk : ¬ (i = 0 ∨ d[i]! ≠ d[i - 1]!) := by simpa [Lib.keeps] using k
        have h1 : i ≠ 0 := fun e => hk (.inl e)
        have h2 : d[i]! = d[i - 1]! := Classical.byContradiction fun e => hk (.inr e)
        rw [h2]
        exact List.mem_append.2 (.inl (compact_all d i (i - 1) (by omega)))
theorem rise_all {xs : List Int} {n : Int} (h : n ∈ xs) : n ∈ riseI xs := by
  have h1 : n ∈ sortI xs := List.mem_mergeSort.2 h
  obtain ⟨i, hi, e⟩ := List.getElem_of_mem h1
  have h2 := compact_all (sortI xs).toArray (sortI xs).length i hi
  rw [getElem!_pos _ i (by simpa using hi)] at h2
  simp only [List.getElem_toArray] at h2
  rw [e] at h2
  exact h2
theorem rise_up (xs : List Int) : (riseI xs).Pairwise (· < ·) := by
  have hs : (sortI xs).Pairwise (· ≤ ·) := by
    have := List.pairwise_mergeSort (le := fun x y : Int => decide (x ≤ y)) (fun a b c h1 h2 => by simp at *; omega) (fun a b => by simp; omega) xs
    exact this.imp fun h => by simpa using h
  have hle : ∀ i j, i ≤ j → j < (sortI xs).length → (sortI xs).toArray[i]! ≤ (sortI xs).toArray[j]! := by
    intro i j hij hj
    rw [getElem!_pos _ i (by simp; omega), getElem!_pos _ j (by simpa using hj)]
    simp only [List.getElem_toArray]
    rcases Nat.lt_or_ge i j with h | h
    · exact (List.pairwise_iff_getElem.1 hs) i j (by omega) hj h
    · obtain rfl : i = j := by omega
      exact Int.le_refl _
  unfold riseI Lib.compactUpTo
  rw [List.pairwise_map, List.pairwise_filter]
  refine List.Pairwise.imp_of_mem (fun {i j} hi hj hij ki kj => ?_) List.pairwise_lt_range
  have hj := List.mem_range.1 hj
  have h1 := hle i (j - 1) (by omega) (by omega)
  have h2 := hle (j - 1) j (by omega) hj
  have h3 : j = 0 ∨ (sortI xs).toArray[j]! ≠ (sortI xs).toArray[j - 1]! := by simpa [Lib.keeps] using kj
  have h4 := h3.resolve_left (by omega)
  omega

/-! ### bindings, and what they put in -/
theorem IsT.ne {t : List Cel} (h : IsT t) : t ≠ [] := by
  rintro rfl
  have := h.reads
  simp [sk] at this
theorem IsT.own {t : List Cel} (h : IsT t) {v : Int} (e : t.head? = some ⟨1, ⟨#[]⟩, v⟩) : t = [varC v] := by
  have hs := h.reads
  cases t with
  | nil => cases e
  | cons c t =>
    simp only [List.head?_cons, Option.some.injEq] at e
    subst e
    simp only [sk] at hs
    split at hs
    · simp only [ar, Nat.zero_add] at hs
      rw [if_neg (by decide), sk_zero] at hs
      injection hs with hs
      rw [hs]; rfl
    · cases hs
theorem look_append (a b : List Bnd) (v : Int) : look (a ++ b) v = (look a v).or (look b v) := by
  unfold look
  rw [List.find?_append]
  cases a.find? (fun b => decide (b.v = v)) <;> simp
theorem look_bind (F : Int → List Cel) (v : Int) : ∀ vs : List Int, look (bindL F vs) v = if v ∈ vs ∧ (F v).head? ≠ some ⟨1, ⟨#[]⟩, v⟩ then some (F v) else none
  | [] => by simp [bindL, look]
  | w :: ws => by
    have e : bindL F (w :: ws) = bindC F w ++ bindL F ws := by unfold bindL; rw [List.flatMap_cons]
    rw [e, look_append, look_bind F v ws]
    unfold bindC
    by_cases hw : w = v
    · subst hw
      split
      · next h => simp [look, h]
      · next h => simp [look, h]
    · have : look (if (F w).head? = some ⟨1, ⟨#[]⟩, w⟩ then [] else [⟨w, F w⟩]) v = none := by
        split
        · simp [look]
        · simp [look, hw]
      rw [this]
      have hv : ¬ v = w := fun e => hw e.symm
      simp [hv]
theorem put_bind {F : Int → List Cel} {vs : List Int} (hT : ∀ v ∈ vs, IsT (F v)) : ∀ t : List Cel, (∀ c ∈ t, cellOk c = true) → (∀ c ∈ t, c.k = 1 → c.n ∈ vs) → putL (look (bindL F vs)) t = putF F t
  | [], _, _ => rfl
  | c :: t, hc, hv => by
    have ih := put_bind hT t (fun d hd => hc d (List.mem_cons_of_mem _ hd)) (fun d hd => hv d (List.mem_cons_of_mem _ hd))
    unfold putL putF at ih ⊢
    rw [List.flatMap_cons, List.flatMap_cons, ih]
    congr 1
    unfold putC
    split
    · next hk =>
      have hm := hv c List.mem_cons_self hk
      rw [look_bind]
      split
      · rfl
      · next h =>
        have h' : (F c.n).head? = some ⟨1, ⟨#[]⟩, c.n⟩ := Classical.byContradiction fun e => h ⟨hm, e⟩
        rw [(hT _ hm).own h', Option.getD_none, ← cellOk_var (hc c List.mem_cons_self) hk]
    · rfl
theorem right_of {t : List Cel} (h : IsT t) (hl : t.length ≤ 200) : rightB t = true := by
  have e : endI t 0 = t.length := by
    unfold endI
    rw [List.drop_zero, h.reads]
    show (t.length : Int) - 0 = _
    omega
  unfold rightB
  simp [e]; omega
theorem isT_of_right {t : List Cel} (h : rightB t = true) : IsT t ∧ t.length ≤ 200 ∧ 0 < t.length := by
  unfold rightB at h
  simp only [Bool.and_eq_true, decide_eq_true_eq] at h
  obtain ⟨h1, h2⟩ := h
  unfold endI at h2
  rw [List.drop_zero] at h2
  cases hs : sk 1 t with
  | none => rw [hs] at h2; simp at h2
  | some r =>
    rw [hs] at h2
    have h3 : (t.length : Int) - (r.length : Int) = t.length := h2
    have : r = [] := List.eq_nil_of_length_eq_zero (by omega)
    subst this
    have hT := IsT_of_sk hs
    exact ⟨hT, by omega, List.length_pos_iff.2 hT.ne⟩
theorem right_bind {F : Int → List Cel} : ∀ (vs : List Int) (m : Int), vs.Pairwise (· < ·) → (∀ v ∈ vs, m ≤ v ∧ v ≤ 999) → (∀ v ∈ vs, IsT (F v) ∧ (F v).length ≤ 200) → rightG m (bindL F vs) = true
  | [], _, _, _, _ => rfl
  | w :: ws, m, hp, hm, hT => by
    have e : bindL F (w :: ws) = bindC F w ++ bindL F ws := by unfold bindL; rw [List.flatMap_cons]
    obtain ⟨hp1, hp2⟩ := List.pairwise_cons.1 hp
    have hw := hm w List.mem_cons_self
    have hTw := hT w List.mem_cons_self
    rw [e]
    unfold bindC
    split
    · rw [List.nil_append]
      exact right_bind ws m hp2 (fun v hv => hm v (List.mem_cons_of_mem _ hv)) (fun v hv => hT v (List.mem_cons_of_mem _ hv))
    · next h =>
      rw [List.cons_append, List.nil_append]
      have ih := right_bind ws (w + 1) hp2 (fun v hv => ⟨by have := hp1 v hv; omega, (hm v (List.mem_cons_of_mem _ hv)).2⟩) (fun v hv => hT v (List.mem_cons_of_mem _ hv))
      have ho : ownB ⟨w, F w⟩ = false := by
        unfold ownB
        refine decide_eq_false fun e => h ?_
        rw [show F w = [varC w] from e]; rfl
      simp only [rightG, ih, right_of hTw.1 hTw.2, ho, Bool.and_true, Bool.not_false, Bool.and_eq_true, decide_eq_true_eq]
      exact ⟨hw.1, hw.2⟩
/-- what putting in leaves as it is holds no variable for which another thing is put in -/
theorem put_fix {F : Int → List Cel} : ∀ t : List Cel, (∀ c ∈ t, c.k = 1 → F c.n ≠ []) → t.length ≤ (putF F t).length ∧ (putF F t = t → ∀ c ∈ t, c.k = 1 → F c.n = [c])
  | [], _ => ⟨Nat.le_refl _, fun _ c hc => by cases hc⟩
  | c :: t, h => by
    obtain ⟨i1, i2⟩ := put_fix t fun d hd => h d (List.mem_cons_of_mem _ hd)
    by_cases hk : c.k = 1
    · have hne := h c List.mem_cons_self hk
      rw [putF_var F hk, List.length_append, List.length_cons]
      have hpos := List.length_pos_iff.2 hne
      refine ⟨by omega, fun e d hd hdk => ?_⟩
      cases hf : F c.n with
      | nil => exact absurd hf hne
      | cons x xs =>
        rw [hf, List.cons_append, List.cons.injEq] at e
        obtain ⟨e1, e2⟩ := e
        have hl := congrArg List.length e2
        rw [List.length_append] at hl
        have hx : xs = [] := List.eq_nil_of_length_eq_zero (by omega)
        subst hx
        rw [List.nil_append] at e2
        rcases List.mem_cons.1 hd with rfl | hd
        · rw [hf, e1]
        · exact i2 e2 d hd hdk
    · rw [putF_cell F hk]
      refine ⟨by simp only [List.length_cons]; omega, fun e d hd hdk => ?_⟩
      rw [List.cons.injEq] at e
      rcases List.mem_cons.1 hd with rfl | hd
      · exact absurd hdk hk
      · exact i2 e.2 d hd hdk
theorem idem_bind {F : Int → List Cel} {vs : List Int} (hT : ∀ v ∈ vs, IsT (F v)) (hi : ∀ v ∈ vs, putF F (F v) = F v) (hv : ∀ v ∈ vs, ∀ c ∈ F v, c.k = 1 → c.n ∈ vs ∧ cellOk c = true) : idemB (bindL F vs) = true := by
  unfold idemB
  rw [List.all_eq_true]
  intro b hb
  obtain ⟨v, hm, hb⟩ := List.mem_flatMap.1 hb
  unfold bindC at hb
  split at hb
  · cases hb
  · obtain rfl := List.mem_singleton.1 hb
    rw [List.all_eq_true]
    intro c hc
    by_cases hk : c.k = 1
    · obtain ⟨h1, h2⟩ := hv v hm c hc hk
      have hf := (put_fix (F v) fun d hd hdk => (hT _ (hv v hm d hd hdk).1).ne).2 (hi v hm) c hc hk
      have : look (bindL F vs) c.n = none := by
        rw [look_bind, if_neg]
        rintro ⟨_, h3⟩
        refine h3 ?_
        rw [hf, cellOk_var h2 hk]; rfl
      simp [this]
    · simp [hk]

/-! ### what is told of two right terms -/
theorem good_two {a b : List Cel} (ha : IsT a) (hb : IsT b) : Good (a ++ b) := by
  have h : sk 2 (a ++ b) = some [] := by
    rw [ha 1 b]; exact hb.reads
  intro i hi
  exact sk_good (a ++ b) 2 [] h i (by simpa using hi)
/-- the variables of both, rising -/
def bothL (a b : List Cel) : List Int := riseI (varsL a ++ varsL b)
theorem both_iff {a b : List Cel} {v : Int} : v ∈ bothL a b ↔ ∃ c ∈ a ++ b, c.k = 1 ∧ c.n = v := by
  constructor
  · intro h
    have h := riseI_mem h
    rcases List.mem_append.1 h with h | h
    · obtain ⟨c, h1, h2⟩ := varsL_iff.1 h
      exact ⟨c, List.mem_append.2 (.inl h1), h2⟩
    · obtain ⟨c, h1, h2⟩ := varsL_iff.1 h
      exact ⟨c, List.mem_append.2 (.inr h1), h2⟩
  · rintro ⟨c, h1, h2⟩
    refine rise_all (List.mem_append.2 ?_)
    rcases List.mem_append.1 h1 with h1 | h1
    · exact .inl (varsL_iff.2 ⟨c, h1, h2⟩)
    · exact .inr (varsL_iff.2 ⟨c, h1, h2⟩)
/-- the whole theory of what Mgu's reckoning tells -/
structure ToldF (a b : List Cel) (F : Int → List Cel) : Prop where
  alike : putF F a = putF F b
  isT : ∀ v ∈ bothL a b, IsT (F v)
  within : ∀ v ∈ bothL a b, ∀ c ∈ F v, c ∈ a ++ b
  twice : ∀ v ∈ bothL a b, putF F (F v) = F v
  most : ∀ G : Int → List Cel, (∀ v, IsT (G v)) → putF G a = putF G b → ∀ v ∈ bothL a b, putF G (F v) = G v
  least : ∀ v ∈ bothL a b, ∀ w, F v = [varC w] → w ≤ v
theorem mgu_told {a b : List Cel} (ha : IsT a) (hb : IsT b) :
    (mguL a b = none ∧ ∀ G : Int → List Cel, (∀ v, IsT (G v)) → putF G a ≠ putF G b) ∨
    ∃ F, ToldF a b F ∧ mguL a b = some (if (bothL a b).any (fun v => decide (200 < (F v).length)) then none else some (bindL F (bothL a b))) := by
  have hG := good_two ha hb
  have ha0 := List.length_pos_iff.2 ha.ne
  have hb0 := List.length_pos_iff.2 hb.ne
  cases e : joinL (a ++ b) (7 * (a ++ b).length + 1) (ups (a ++ b)) [(0, a.length)] with
  | none =>
    refine .inl ⟨?_, told_none ha hb ha0 hb0 hG fun r h => by rw [e] at h; cases h⟩
    unfold mguL
    show (match joinL (a ++ b) (7 * (a ++ b).length + 1) (ups (a ++ b)) [(0, a.length)] with | none => none | some r => _) = none
    rw [e]
  | some r =>
    cases m : measureL (a ++ b) r ((a ++ b).length + 1) (List.replicate (a ++ b).length 0) 0 with
    | none =>
      refine .inl ⟨?_, told_none ha hb ha0 hb0 hG fun r' h => by rw [e] at h; injection h with h; subst h; exact m⟩
      unfold mguL
      show (match joinL (a ++ b) (7 * (a ++ b).length + 1) (ups (a ++ b)) [(0, a.length)] with | none => none | some r => _) = none
      rw [e]
      simp only [m]
    | some s =>
      have T := told_some ha hb ha0 hb0 hG e m
      have J := joined_ups hG (t := [(0, a.length)]) (by simp; omega) e
      have place : ∀ v ∈ bothL a b, ∃ p, ∃ hp : p < (a ++ b).length, (a ++ b)[p].k = 1 ∧ (a ++ b)[p].n = v := by
        intro v hv
        obtain ⟨c, h1, h2, h3⟩ := both_iff.1 hv
        obtain ⟨p, hp, rfl⟩ := List.getElem_of_mem h1
        exact ⟨p, hp, h2, h3⟩
      refine .inr ⟨ofVar (a ++ b) r, ⟨T.alike, fun v hv => ?_, fun v hv => ?_, fun v hv => ?_, fun G hT eG v hv => ?_, fun v hv => ?_⟩, ?_⟩
      · obtain ⟨p, hp, hk, rfl⟩ := place v hv; exact (T.ofv p hp hk).1
      · obtain ⟨p, hp, hk, rfl⟩ := place v hv; exact (T.ofv p hp hk).2.1
      · obtain ⟨p, hp, hk, rfl⟩ := place v hv; exact (T.ofv p hp hk).2.2.1
      · obtain ⟨p, hp, hk, rfl⟩ := place v hv; exact T.most G hT eG p hp hk
      · obtain ⟨p, hp, hk, rfl⟩ := place v hv; exact (T.ofv p hp hk).2.2.2.2
      · have hany : (bothL a b).any (fun v => decide (200 < s.getD (r.getD ((firstO (a ++ b) v).getD 0) 0) 0)) = (bothL a b).any (fun v => decide (200 < (ofVar (a ++ b) r v).length)) := by
          rw [Bool.eq_iff_iff, List.any_eq_true, List.any_eq_true]
          constructor
          · rintro ⟨v, hv, h⟩
            obtain ⟨p, hp, hk, rfl⟩ := place v hv
            exact ⟨_, hv, by simpa using (T.ofv p hp hk).2.2.2.1.1 (by simpa using h)⟩
          · rintro ⟨v, hv, h⟩
            obtain ⟨p, hp, hk, rfl⟩ := place v hv
            exact ⟨_, hv, by simpa using (T.ofv p hp hk).2.2.2.1.2 (by simpa using h)⟩
        have hbind : bindL (fun v => layL (a ++ b) r ((a ++ b).length + 1) (r.getD ((firstO (a ++ b) v).getD 0) 0)) (bothL a b) = bindL (ofVar (a ++ b) r) (bothL a b) := by
          have hF : ∀ v ∈ bothL a b, layL (a ++ b) r ((a ++ b).length + 1) (r.getD ((firstO (a ++ b) v).getD 0) 0) = ofVar (a ++ b) r v := by
            intro v hv
            obtain ⟨p, hp, hk, rfl⟩ := place v hv
            rw [first_of hp hk]
            unfold ofVar
            rw [first_of hp hk]
            have hu : upAt (a ++ b) p < (a ++ b).length := by have := (upAt_le hp).1; omega
            exact lay_class (J.ok.top _ hu).2 _
          have gen : ∀ (vs : List Int) (F F' : Int → List Cel), (∀ v ∈ vs, F v = F' v) → bindL F vs = bindL F' vs := by
            intro vs
            induction vs with
            | nil => intro F F' _; rfl
            | cons w ws ih =>
              intro F F' h
              unfold bindL at ih ⊢
              rw [List.flatMap_cons, List.flatMap_cons, ih F F' fun v hv => h v (List.mem_cons_of_mem _ hv)]
              unfold bindC
              rw [h w List.mem_cons_self]
          exact gen _ _ _ hF
        unfold mguL
        show (match joinL (a ++ b) (7 * (a ++ b).length + 1) (ups (a ++ b)) [(0, a.length)] with | none => none | some r => _) = _
        rw [e]
        simp only [m]
        rw [← hany, ← hbind]
        unfold bothL
        split <;> rfl
end Go.Proofs.Ytlddglajdcednaa
namespace Go.Proofs.Ytlddglajdcednaa
open Go.RowKit Go.Shelf Go.Lib

set_option maxHeartbeats 1600000 in
set_option maxRecDepth 100000 in
theorem concatI_any (a : Option Addr) (cap : Nat) (w : World) (l : List (List Int)) (L : List Int) (hL : l.flatten = L) (hr : Row w a cap l) (hl : l.length ≤ 1000) (hs : L.length ≤ 1000000) :
    Calls Try.prog 39 #[.slice a l.length cap] w fun e w' => ∃ a' cap', e = .returned (.slice a' L.length cap') ∧ NewRow w.heap.size w' a' cap' L ∧ Below w.heap.size w w' := by
  have hm := hr.max
  have hle := hr.le
  have HLL := mkHid hL
  have HF : Hid (∀ k, totL l k ≤ L.length) := fun k => by unfold totL; rw [← hL]; exact flat_take_len l k
  clear hL
  go_enter Try.func39, Try.ntmps39
  go_wp2_with fail
  go_loopw [3, 5, 11] (fun n s i wr => ∃ k : Nat, k ≤ l.length ∧ i = .int .i64 k ∧ n = .int .i64 (totL l k) ∧ Below w.heap.size w wr) (fun n s i wr => l.length - (intOf i).toNat)
  case atStart => exact ⟨0, Nat.zero_le _, rfl, rfl, Below.refl _ _⟩
  case round =>
    obtain ⟨k, hk, rfl, rfl, hbl⟩ := hrel
    have hfl := HF.out k
    by_cases hlt : k < l.length
    · obtain ⟨b, off, rfl, hb, hat⟩ := hr.cases.resolve_left (fun e => by simp [e] at hlt)
      obtain ⟨a1, cap1, d0, hr1⟩ := list_at hat hbl hlt
      have hfl2 := HF.out (k + 1)
      have hlen : totL l (k + 1) = totL l k + l[k].length := by unfold totL; rw [flat_take hlt, List.length_append]
      have HLen := mkHid hlen
      have hlk : totL l k + l[k].length ≤ 1000000 := by omega
      clear hlen hfl2
      go_wp2_with fail
      go_round
      case rel => exact ⟨k + 1, by omega, by go_num, by rw [HLen.out]; go_num, hbl⟩
      case measure => simp [intOf]; omega
    · have HL : totL l k = L.length := by unfold totL; rw [List.take_of_length_le (by omega), HLL.out]
      rw [HL] at hfl ⊢
      clear HL
      go_wp2_with fail
      refine (growI_nil wr L.length hs).mono ?_; rintro e w2 ⟨v, rfl, hacc, hb2⟩
      have hbl2 := hbl.then hb2
      clear hb2
      have hB2 := hbl.size
      go_wp2_with fail
      go_loopw [6, 8, 27] (fun v s i wz => ∃ k : Nat, k ≤ l.length ∧ i = .int .i64 k ∧ AccInv w.heap.size 3 (l.take k).flatten v wz ∧ Below w.heap.size w wz) (fun v s i wz => l.length - (intOf i).toNat)
      case atStart => exact ⟨0, Nat.zero_le _, rfl, AccInv.base hacc hB2, hbl2⟩
      case round =>
        clear hacc hbl2
        obtain ⟨k2, hk2, rfl, hacc, hbz⟩ := hrel
        by_cases hlt2 : k2 < l.length
        · obtain ⟨b, off, rfl, hb, hat⟩ := hr.cases.resolve_left (fun e => by simp [e] at hlt2)
          obtain ⟨a1, cap1, d0, hr1⟩ := list_at hat hbz hlt2
          obtain ⟨a2, cap2, e0, hr0⟩ := list_at hat (Below.refl _ _) hlt2
          have hee : Value.slice a1 l[k2].length cap1 = .slice a2 l[k2].length cap2 := by
            have := keep e0 hbz; rw [d0] at this; exact Option.some.inj this
          injection hee with q1 _ q2
          subst q1; subst q2
          have hfl2 := HF.out (k2 + 1)
          have HT := mkHid (flat_take hlt2)
          unfold totL at hfl2
          rw [HT.out, List.length_append] at hfl2
          have hroom : (l.take k2).flatten.length + l[k2].length ≤ 1000000000 := by omega
          have HR := mkHid hroom
          clear hfl2 hroom
          have hro := Row.keeps hr0 (hacc.fresh hbz)
          go_wp2_with (at_builtin; refine wpList_accs (α := Int) rfl _ _ 36 rfl w.heap.size 3 8 _ Try.underlying36 Try.infoInt rfl (by decide) _ (l.take k2).flatten hacc (by rfl) _ _ l[k2] hro (by rfl) HR.out hbz.size ?_; intro v' w3 hacc3 hb3)
          go_round
          case rel => exact ⟨k2 + 1, by omega, by go_num, hacc3.lit HT.out.symm, hbz.trans hb3⟩
          case measure => simp [intOf]; omega
        · have HL2 : (l.take k2).flatten = L := by rw [List.take_of_length_le (by omega), HLL.out]
          rw [HL2] at hacc
          clear HL2
          obtain ⟨a5, cap5, rfl, hrow⟩ := hacc.ownI.row
          clear hacc
          go_wp2_with fail
          go_ret
          exact ⟨a5, cap5, rfl, hrow, hbz⟩
end Go.Proofs.Ytlddglajdcednaa

namespace Go.Proofs.Ytlddglajdcednaa
open Go.RowKit

theorem MapV.block {P : Program} {k : TypeId} {w w' : World} {b n : Nat} {f : Int → Option Value} (h : MapV P k w b n f) (e : w'.heap[b]? = w.heap[b]?) : MapV P k w' b n f := by
  obtain ⟨D, ⟨es, clock, hb, F, hs, hD⟩, hf⟩ := h.ex
  exact ⟨D, ⟨es, clock, e.trans hb, F, hs, hD⟩, hf⟩
theorem RowU.own {w : World} {u : Nat} {U : List Int} (h : RowU w u U) (hl : U.length ≤ 1000000) : w.ownsRow 0 3 (Rep.sz Int) (.slice (some ⟨u, 0, none⟩) U.length U.length) U.length (U.map (Value.int .i64)) :=
  ⟨by rw [List.length_map]; show U.length = U.length * 1; omega, .inr ⟨u, U.length, _, rfl, Nat.zero_le _, h, Nat.le_refl _, by unfold maxLen; omega, by simp; show U.length = U.length * 1; omega, by
    rw [List.take_of_length_le (by simp; show U.length ≤ U.length * 1; omega)]⟩⟩
theorem RowU.toRow {w : World} {u : Nat} {U : List Int} (h : RowU w u U) (hl : U.length ≤ 1000000) (hb : ∀ x ∈ U, -9223372036854775808 ≤ x ∧ x ≤ 9223372036854775807) : Row w (some ⟨u, 0, none⟩) U.length U := by
  obtain ⟨a, cap, e, hr⟩ := own_rowG (h.own hl) (crows_ints w hb)
  cases e
  exact hr
theorem ends_bound {l : List Cel} (hG : Good l) (hl : l.length ≤ 1000) : ∀ x ∈ endsL l, -9223372036854775808 ≤ x ∧ x ≤ 9223372036854775807 := by
  intro x hx
  obtain ⟨i, hi, rfl⟩ := List.mem_map.1 hx
  have := end_range hG (List.mem_range.1 hi)
  omega
theorem RowU.veil {us : List Nat} {w : World} {u : Nat} {U : List Int} (h : RowU w u U) (hu : u ∉ us) : RowU (Go.Proofs.Ytlddglajdcednaa.veil us w) u U := (veil_heap hu).trans h
/-- the classes as laid has them -/
theorem laid_cls {w1 W : World} {C g m u s : Nat} {a1 : Option Addr} {cap1 B : Nat} {l : List Cel} (hG : Good l) (hl : l.length ≤ 1000) (hn : NewRow B w1 a1 cap1 l) (h : LaidW w1 W C g m u s a1 cap1 l l.length)
    (hge : w1.heap.size ≤ g ∧ w1.heap.size ≤ m ∧ w1.heap.size ≤ u ∧ w1.heap.size ≤ s ∧ w1.heap.size ≤ C) (hne : g ≠ u ∧ g ≠ s ∧ u ≠ s ∧ m ≠ u ∧ m ≠ s ∧ C ≠ u ∧ C ≠ s ∧ C ≠ m ∧ C ≠ g ∧ m ≠ g) :
    Cls (Go.Proofs.Ytlddglajdcednaa.veil [u, s] W) C u s m l (endsL l) := by
  have hk : Keeps w1 (Go.Proofs.Ytlddglajdcednaa.veil [u, s] W) := veil_fresh (Keeps.of h.b) (by simp; omega)
  have hC : C ∉ [u, s] := by simp; omega
  have hcell : ∀ i v, (#[Value.slice a1 l.length cap1, .slice (some ⟨g, 0, none⟩) l.length l.length, .map (some m), .slice (some ⟨u, 0, none⟩) l.length l.length, .slice (some ⟨s, 0, none⟩) l.length l.length])[i]? = some v → (Go.Proofs.Ytlddglajdcednaa.veil [u, s] W).cell? ⟨C, i, none⟩ = some v := fun i v e => by
    refine veil_of hC ?_
    rw [cell_of_row W C i _ _ _ h.box]; exact e
  refine ⟨⟨a1, cap1, hcell 0 _ rfl, Row.keeps (Row.keeps hn (under_keeps _ _)) hk⟩, ⟨some ⟨g, 0, none⟩, l.length, ?_, ?_⟩, hcell 2 _ rfl, ⟨l.length, Nat.le_refl _, by omega, hcell 3 _ rfl⟩, ⟨l.length, Nat.le_refl _, by omega, hcell 4 _ rfl⟩, hne.2.2.1⟩
  · rw [endsL_length]; exact hcell 1 _ rfl
  · have h1 := (h.E.veil (us := [u, s]) (by simp; omega)).toRow (by rw [endsL_length]; omega) (ends_bound hG hl)
    rwa [endsL_length] at h1
/-- nothing is measured yet -/
theorem mok_zero (l : List Cel) (r : List Nat) : MOk l r (List.replicate l.length 0) := by
  have h0 : ∀ x, (List.replicate l.length (0 : Int)).getD x 0 = 0 := fun x => by
    simp only [List.getD_eq_getElem?_getD, List.getElem?_replicate]; split <;> rfl
  exact ⟨by simp, fun x => by rw [h0]; omega, fun x _ h => by rw [h0] at h; omega, fun x _ h => by rw [h0] at h; omega⟩
/-- each place's class is measured -/
theorem told_done {a b : List Cel} (ha : IsT a) (hb : IsT b) (ha0 : 0 < a.length) (hb0 : 0 < b.length) (hG : Good (a ++ b)) {r : List Nat} {s : List Int}
    (e : joinL (a ++ b) (7 * (a ++ b).length + 1) (ups (a ++ b)) [(0, a.length)] = some r) (m : measureL (a ++ b) r ((a ++ b).length + 1) (List.replicate (a ++ b).length 0) 0 = some s) : ∀ z, z < (a ++ b).length → 0 < s.getD (r.getD z 0) 0 := by
  have hl : (a ++ b).length = a.length + b.length := List.length_append
  have h0 : 0 < (a ++ b).length := by omega
  have J := joined_ups hG (t := [(0, a.length)]) (by simp; omega) e
  obtain ⟨mo, pos⟩ := measured hG J.ok h0 m
  have h0q : r.getD 0 0 = r.getD a.length 0 := J.done (0, a.length) (by simp)
  have e1 : (endI (a ++ b) 0).toNat = a.length := by
    have h := ha 0 b
    rw [sk_zero] at h
    unfold endI
    rw [List.drop_zero, h]
    show ((((a ++ b).length : Int) - (b.length : Int))).toNat = _
    omega
  have e2 : (endI (a ++ b) a.length).toNat = (a ++ b).length := by
    unfold endI
    rw [List.drop_left, hb.reads]
    show ((((a ++ b).length : Int) - 0)).toNat = _
    omega
  intro z hz
  by_cases hza : z < a.length
  · exact all_done hG J mo _ 0 h0 (Nat.le_refl _) pos z (Nat.zero_le _) (by rw [e1]; exact hza)
  · exact all_done hG J mo _ a.length (by omega) (Nat.le_refl _) (by rw [← h0q]; exact pos) z (by omega) (by rw [e2]; exact hz)
end Go.Proofs.Ytlddglajdcednaa

namespace Go.Proofs.Ytlddglajdcednaa
open Go.RowKit

/-- what Mgu tells -/
def UPost (w : World) (o : Option (Option (List Bnd))) (e : Ending) (w' : World) : Prop := Below w.heap.size w w' ∧ match o with
  | none => e = .returned (.tuple #[.slice none 0 0, .int .i64 3])
  | some none => e = .returned (.tuple #[.slice none 0 0, .int .i64 2])
  | some (some L) => ∃ a2 cap2, e = .returned (.tuple #[.slice a2 L.length cap2, .int .i64 0]) ∧ Row w' a2 cap2 L
def atV (l : List Cel) (r : List Nat) (v : Int) : Nat := r.getD ((firstO l v).getD 0) 0
/-- the bindings out of the classes, in memory -/
theorem mgu_bind (w9 : World) {C u s m nm : Nat} {l : List Cel} {U S V : List Int} {r : List Nat} {d : Nat → Nat} (hG : Good l) (hl : l.length ≤ 1000) (hj : JoinOk l r []) (hC : Cls (veil [u, s] w9) C u s m l (endsL l)) (hU : RowU w9 u U) (hR : Roots l.length U (fun k => r.getD k 0) d) (hS : RowU w9 s S) (hM : MapV Try.prog 3 w9 m nm (firstV l)) (hmu : m ≠ u) (hO : MOk l r S)
    (hd : ∀ z, z < l.length → 0 < S.getD (r.getD z 0) 0) (hV : ∀ v ∈ riseI V, ∃ c ∈ l, c.k = 1 ∧ c.n = v) (a : Option Addr) (cap : Nat) (hv : Row w9 a cap V) (hvl : V.length ≤ 1000) (o : Option (List Bnd))
    (ho : o = if (riseI V).any (fun v => decide (200 < S.getD (atV l r v) 0)) then none else some (bindL (fun v => layL l r (l.length + 1) (atV l r v)) (riseI V))) :
    Calls Try.prog 38 #[.slice a V.length cap, .func (.func 41) #[.pointer (some ⟨C, 0, none⟩)] #[]] w9 (BPost w9 u o) := by
  have place : ∀ v ∈ riseI V, ∃ i, firstO l v = some i ∧ i < l.length ∧ 0 ≤ v ∧ v ≤ 999 := by
    intro v hv
    obtain ⟨c, h1, h2, h3⟩ := hV v hv
    obtain ⟨p, hp, rfl⟩ := List.getElem_of_mem h1
    have h4 := var_range (good_ok hG hp) h2
    subst h3
    exact ⟨_, first_of hp h2, by have := (upAt_le hp).1; omega, h4.1, h4.2⟩
  have hsl := hS.lt
  have hus := hC.us
  have hCl := cell_lt (veil_cell hC.first).2
  refine bindingsT_any (n := l.length) (r := fun k => r.getD k 0) (d := d) a cap w9 V (riseI V) (fun v => layL l r (l.length + 1) (atV l r v)) (fun v => decide (200 < S.getD (atV l r v) 0)) U hU.lt hU hR rfl hv hvl o ho ?_ ?_
  · intro v hv hb
    obtain ⟨i, hi, hil, _, _⟩ := place v hv
    have e1 : atV l r v = r.getD i 0 := by unfold atV; rw [hi]; rfl
    obtain ⟨x1, x2⟩ := hj.top i hil
    have h0 := hd i hil
    obtain ⟨_, h1⟩ := hO.ends _ x1 h0
    rw [e1] at hb ⊢
    unfold termL at h1
    have hb : ¬ 200 < S.getD (r.getD i 0) 0 := by simpa using hb
    omega
  · intro W U' v hF hU' hR' hv
    obtain ⟨i, hi, hil, v0, v1⟩ := place v hv
    have e1 : atV l r v = r.getD i 0 := by unfold atV; rw [hi]; rfl
    have hCW : Cls (veil [u, s] W) C u s m l (endsL l) := hC.keeps ((hF.sub (by simp)).keeps)
    have hSW : RowU W s S := hS.fr hF (by simp; exact fun e => hus e.symm)
    have hMW := hM.block (hF.block m hM.lt (by simp; exact hmu))
    have h := term_any W hG hl hj hCW hU' hR' hSW hMW hO v i hi hil (hd i hil) (wf64 (by omega) (by omega))
    rw [e1]
    have e2 : layL l r (l.length + 1) (r.getD i 0) = layL l r (l.length + 1) i := lay_class (hj.top i hil).2 _
    rw [e2]
    exact h

theorem join_fst {l : List Cel} {x y : Nat} (hx : x < l.length) (hy : y < l.length) : ∀ p ∈ [(x, y)], p.1 < l.length ∧ p.2 < l.length := by
  intro p hp; simp at hp; subst hp; exact ⟨hx, hy⟩
set_option maxHeartbeats 6400000 in
set_option maxRecDepth 100000 in
theorem mgu_any (a : Option Addr) (cap : Nat) (a' : Option Addr) (cap' : Nat) (w : World) (xs ys : List Cel) (hx : Row w a cap xs) (hy : Row w a' cap' ys) (rx : rightB xs = true) (ry : rightB ys = true) (o : Option (Option (List Bnd))) (ho : o = mguL xs ys) :
    Calls Try.prog 13 #[.slice a xs.length cap, .slice a' ys.length cap'] w (UPost w o) := by
  obtain ⟨hax, hxl, hx0⟩ := isT_of_right rx
  obtain ⟨hay, hyl, hy0⟩ := isT_of_right ry
  have hG := good_two hax hay
  obtain ⟨l, hl⟩ : ∃ l, l = xs ++ ys := ⟨_, rfl⟩
  have hll : l.length = xs.length + ys.length := by rw [hl, List.length_append]
  have hl4 : l.length ≤ 400 := by omega
  have h0l : 0 < l.length := by omega
  have hxll : xs.length < l.length := by omega
  have HM0 : Hid (∀ r s, joinL l (7 * l.length + 1) (ups l) [(0, xs.length)] = some r → measureL l r (l.length + 1) (List.replicate l.length 0) 0 = some s → ∀ z, z < l.length → 0 < s.getD (r.getD z 0) 0) := by
    subst hl
    exact fun r s e m => told_done hax hay hx0 hy0 hG e m
  obtain ⟨V, hVV⟩ : ∃ V, V = varsL xs ++ varsL ys := ⟨_, rfl⟩
  have HV : Hid (∀ v ∈ riseI V, ∃ c ∈ l, c.k = 1 ∧ c.n = v) := by
    subst hl
    rw [hVV]
    exact fun v hv => both_iff.1 hv
  rw [← hl] at hG
  have HO1 : Hid (joinL l (7 * l.length + 1) (ups l) [(0, xs.length)] = none → o = none) := by
    intro e
    rw [ho]
    unfold mguL
    rw [← hl]
    show (match joinL l (7 * l.length + 1) (ups l) [(0, xs.length)] with | none => none | some r => _) = none
    rw [e]
  have HO2 : Hid (∀ r, joinL l (7 * l.length + 1) (ups l) [(0, xs.length)] = some r → measureL l r (l.length + 1) (List.replicate l.length 0) 0 = none → o = none) := by
    intro r e m
    rw [ho]
    unfold mguL
    rw [← hl]
    show (match joinL l (7 * l.length + 1) (ups l) [(0, xs.length)] with | none => none | some r => _) = none
    rw [e]
    simp only [m]
  have HO3 : Hid (∀ r s, joinL l (7 * l.length + 1) (ups l) [(0, xs.length)] = some r → measureL l r (l.length + 1) (List.replicate l.length 0) 0 = some s →
      o = some (if (riseI V).any (fun v => decide (200 < s.getD (atV l r v) 0)) then none else some (bindL (fun v => layL l r (l.length + 1) (atV l r v)) (riseI V)))) := by
    intro r s e m
    rw [hVV]
    rw [ho]
    unfold mguL
    rw [← hl]
    show (match joinL l (7 * l.length + 1) (ups l) [(0, xs.length)] with | none => none | some r => _) = _
    rw [e]
    simp only [m, atV]
    exact (apply_ite some _ _ _).symm
  have hVlen : V.length ≤ 1000 := by have := varsL_le xs; have := varsL_le ys; rw [hVV, List.length_append]; omega
  have HVV := mkHid hVV
  clear hVV
  have hvx := varsL_le xs
  have hvy := varsL_le ys
  have HX := mkHid hx
  have HY := mkHid hy
  have HG := mkHid hG
  have HL := mkHid hl
  have hlx := hx.le
  have hmx := hx.max
  have hly := hy.le
  have hmy := hy.max
  clear hax hay hG hl ho hx hy hll
  go_enter Try.func13, Try.ntmps13
  go_wp2_with fail
  refine (right_any a cap _ xs HX.out).mono ?_
  rintro e w1 ⟨rfl, hb1⟩
  rw [rx]
  go_wp2_with fail
  refine (right_any a' cap' _ ys (HY.out.below hb1)).mono ?_
  rintro e w2 ⟨rfl, hb2⟩
  rw [ry]
  have hb12 := hb1.then hb2
  go_wp2_with fail
  refine (laid_any a cap a' cap' w2 xs ys l (by rw [HL.out]; simp) (HX.out.below hb12) (HY.out.below hb12) hl4 HG.out).mono ?_
  rintro e w3 ⟨C, g, m, u, s, a1, cap1, wb, rfl, hbb, hnr, hge, hne, hL⟩
  have hC3 := laid_cls HG.out (by omega) hnr hL hge hne
  have hU3 : RowU w3 u (upL l) := by have := hL.U; rwa [upK_all (Nat.le_refl _)] at this
  have hS3 := hL.S
  obtain ⟨nm, _, hM3⟩ := hL.M
  rw [List.take_length] at hM3
  have hb3 := hb12.then (hbb.then hL.b)
  have hsz2 := hb12.size
  have hszb := hbb.size
  have hjn := join_any w3 (x := 0) (y := xs.length) hC3 hU3 (laid_roots l) (laid_ok l _ (join_fst h0l hxll)) HG.out (by omega) hS3.lt
  rw [show ((0 : Nat) : Int) = 0 from rfl] at hjn
  have HJN := mkHid hjn
  have HC3 := mkHid hC3
  have HS3 := mkHid hS3
  have HM3 := mkHid hM3
  have HB3 := mkHid hb3
  have hge1 := hge.2.2.1
  have hge2 := hge.2.2.2.1
  have hmu : m ≠ u := hne.2.2.2.1
  have hms : m ≠ s := hne.2.2.2.2.1
  clear hjn hC3 hU3 hS3 hM3 hL hnr hge hne hbb hb3
  go_wp2_with fail
  refine HJN.out.mono ?_
  rintro e w4 ⟨hF4, hp4⟩
  have hb4 : Below w.heap.size w w4 := HB3.out.trans (hF4.below HB3.out.size (by simp; omega))
  cases ej : joinL l (7 * l.length + 1) (ups l) [(0, xs.length)] with
  | none =>
    rw [ej] at hp4
    subst hp4
    have HP : Hid (UPost w o (.returned (.tuple #[.slice none 0 0, .int .i64 3])) w4) := ⟨hb4, by rw [HO1.out ej]⟩
    clear ej
    go_wp2_with fail
    go_ret2
    exact HP.out
  | some r =>
    rw [ej] at hp4
    obtain ⟨rfl, hJ4, U4, d4, hU4, hR4⟩ := hp4
    have hC4 : Cls (veil [u, s] w4) C u s m l (endsL l) := HC3.out.keeps ((hF4.sub (by simp)).keeps)
    have hus := hC4.us
    have hS4 : RowU w4 s (List.replicate l.length 0) := HS3.out.fr hF4 (by simp; exact fun e => hus e.symm)
    have hM4 := HM3.out.block (hF4.block m HM3.out.lt (by simp; exact hmu))
    have hms4 := measure_any HG.out (by omega) hJ4 l.length w4 U4 (List.replicate l.length 0) 0 hC4 hU4 hS4 hR4 (mok_zero l r) (by have := List.countP_le_length (p := fun v => decide (v = (0 : Int))) (l := List.replicate l.length (0 : Int)); rw [List.length_replicate] at this; exact this) h0l
    rw [show ((0 : Nat) : Int) = 0 from rfl] at hms4
    have HMS := mkHid hms4
    have HC4 := mkHid hC4
    have HM4 := mkHid hM4
    have HEJ := mkHid ej
    have HJ4 := mkHid hJ4
    have hw4 := hF4.size
    clear hms4 hC4 hU4 hR4 hS4 hM4 ej hJ4
    go_wp2_with fail
    refine HMS.out.mono ?_
    rintro e w5 ⟨hF5, ⟨U5, hU5, hR5⟩, hp5⟩
    have hb5 : Below w.heap.size w w5 := hb4.trans (hF5.below hb4.size (by simp; omega))
    cases em : measureL l r (l.length + 1) (List.replicate l.length 0) 0 with
    | none =>
      rw [em] at hp5
      subst hp5
      have HP : Hid (UPost w o (.returned (.tuple #[.slice none 0 0, .int .i64 3])) w5) := ⟨hb5, by rw [HO2.out r HEJ.out em]⟩
      clear em
      go_wp2_with fail
      go_ret2
      exact HP.out
    | some S =>
      rw [em] at hp5
      obtain ⟨rfl, hS5⟩ := hp5
      have hC5 : Cls (veil [u, s] w5) C u s m l (endsL l) := HC4.out.keeps hF5.keeps
      have hM5 := HM4.out.block (hF5.block m HM4.out.lt (by simp; exact ⟨hmu, hms⟩))
      have hO5 := (measured HG.out HJ4.out h0l em).1
      have hd5 := HM0.out r S HEJ.out em
      have HO5 := mkHid (HO3.out r S HEJ.out em)
      have HC5 := mkHid hC5
      have HM5 := mkHid hM5
      have HU5 := mkHid hU5
      have HR5 := mkHid hR5
      have HS5 := mkHid hS5
      have HMO := mkHid hO5
      have HD5 := mkHid hd5
      clear hC5 hM5 hU5 hR5 hS5 hO5 hd5 em
      go_wp2_with fail
      refine (vars_any a cap _ xs (HX.out.below hb5) (by omega)).mono ?_
      rintro e w6 ⟨av, capv, rfl, hrv, hb6⟩
      have hb06 := hb5.then hb6
      go_wp2_with fail
      refine (vars_any a' cap' _ ys (HY.out.below hb06) (by omega)).mono ?_
      rintro e w7 ⟨bv, capb, rfl, hrb, hb7⟩
      have hb57 := hb6.then hb7
      have hb07 := hb06.then hb7
      have hrv7 := hrv.below hb7
      have hown : (w7.alloc (.cells #[.slice av (varsL xs).length capv, .slice bv (varsL ys).length capb] 36)).ownsRow w7.heap.size 36 (Rep.sz (List Int)) (.slice (some ⟨w7.heap.size, 0, none⟩) 2 2) ([varsL xs, varsL ys] : List (List Int)).length [.slice av (varsL xs).length capv, .slice bv (varsL ys).length capb] :=
        ⟨rfl, .inr ⟨w7.heap.size, 2, _, rfl, Nat.le_refl _, heap_alloc_new w7 _, Nat.le_refl _, by unfold maxLen; omega, rfl, rfl⟩⟩
      have hcr : CRows (w7.alloc (.cells #[.slice av (varsL xs).length capv, .slice bv (varsL ys).length capb] 36)) [.slice av (varsL xs).length capv, .slice bv (varsL ys).length capb] [varsL xs, varsL ys] :=
        .cons (cs := [.slice av (varsL xs).length capv]) ⟨_, _, rfl, hrv7.below ((Below.refl _ _).new _)⟩ (.cons (cs := [.slice bv (varsL ys).length capb]) ⟨_, _, rfl, hrb.below ((Below.refl _ _).new _)⟩ .nil)
      obtain ⟨a8, cap8, e8, hr8⟩ := own_rowG hown hcr
      cases e8
      have hcc := concatI_any _ _ _ [varsL xs, varsL ys] V (by rw [HVV.out]; simp) hr8 (by simp) (by omega)
      have HCC := mkHid hcc
      have hb08 := hb07.new (.cells #[.slice av (varsL xs).length capv, .slice bv (varsL ys).length capb] 36)
      have hb58 := hb57.new (.cells #[.slice av (varsL xs).length capv, .slice bv (varsL ys).length capb] 36)
      clear hown hcr hr8 hcc hrv hrb hrv7 hb6 hb7 hb06 hb07 hb57
      go_wp2_with fail
      refine HCC.out.mono ?_
      rintro e w9 ⟨a9, cap9, rfl, hr9, hb9⟩
      have hb09 := hb08.then hb9
      have hb59 := hb58.then hb9
      have hbn := mgu_bind w9 HG.out (by omega) HJ4.out (HC5.out.keeps ((Fr.of (us := [u, s]) hb59).keeps)) (HU5.out.below hb59) HR5.out (HS5.out.below hb59) (HM5.out.below hb59) hmu HMO.out HD5.out HV.out a9 cap9 hr9.row hVlen _ rfl
      have HBN := mkHid hbn
      have hu9 : w.heap.size ≤ u := by omega
      clear hbn hb9 hb59 hb58 hb08
      go_wp2_with fail
      refine HBN.out.mono ?_
      rintro e w10 ⟨hF10, hp10⟩
      have hb10 : Below w.heap.size w w10 := hb09.trans (hF10.below hb09.size (by simp; omega))
      have HB10 := mkHid hb10
      clear hF10 hb10
      generalize (if (riseI V).any (fun v => decide (200 < S.getD (atV l r v) 0)) then none else some (bindL (fun v => layL l r (l.length + 1) (atV l r v)) (riseI V))) = o2 at HO5 hp10
      cases o2 with
      | none =>
        subst hp10
        have HP : Hid (UPost w o (.returned (.tuple #[.slice none 0 0, .int .i64 2])) w10) := ⟨HB10.out, by rw [HO5.out]⟩
        go_wp2_with fail
        go_ret2
        exact HP.out
      | some L =>
        obtain ⟨a10, cap10, rfl, hr10⟩ := hp10
        have HP : Hid (UPost w o (.returned (.tuple #[.slice a10 L.length cap10, .int .i64 0])) w10) := ⟨HB10.out, by rw [HO5.out]; exact ⟨a10, cap10, rfl, hr10⟩⟩
        clear hr10
        go_wp2_with fail
        go_ret2
        exact HP.out
end Go.Proofs.Ytlddglajdcednaa
namespace Go.Proofs.Ytlddglajdcednaa
open Go.RowKit

set_option maxHeartbeats 800000 in
theorem same3_any (a : Option Addr) (cap : Nat) (a' : Option Addr) (cap' : Nat) (w : World) (xs ys : List Bnd) (hx : Row w a cap xs) (hy : Row w a' cap' ys) :
    Calls Try.prog 17 #[.slice a xs.length cap, .slice a' ys.length cap'] w fun e w' => e = .returned (.bool (decide (xs = ys))) ∧ Below w.heap.size w w' := by
  have hm := hx.max
  have hm2 := hx.le
  have hm3 := hy.max
  have hm4 := hy.le
  by_cases hlen : xs.length = ys.length
  · have hlt2 : ys.length ≤ xs.length := by omega
    have hlt3 : xs.length ≤ ys.length := by omega
    have hne : ((xs.length : Int) != (ys.length : Int)) = false := by simp [hlen]
    clear hlen
    go_enter Try.func17, Try.ntmps17
    go_wp2
    go_loopw [5] (fun i wr => ∃ k : Nat, k ≤ xs.length ∧ i = .int .i64 k ∧ Below w.heap.size w wr ∧ Hid (xs.take k = ys.take k)) (fun i wr => xs.length - (intOf i).toNat)
    case atStart => exact ⟨0, Nat.zero_le _, rfl, Below.refl _ _, rfl⟩
    case round =>
      obtain ⟨k, hk, rfl, hbl, HS⟩ := hrel
      by_cases hlt : k < xs.length
      · have hlt' : k < ys.length := by omega
        obtain ⟨b, off, rfl, hb, hat⟩ := hx.cases.resolve_left (fun e => by simp [e] at hlt)
        obtain ⟨b', off', rfl, hb', hat'⟩ := hy.cases.resolve_left (fun e => by simp [e] at hlt')
        obtain ⟨a1, cap1, c0, c1, hr1, _, _⟩ := bnd_at hat hbl hlt
        obtain ⟨a2, cap2, d0, d1, hr2, _, _⟩ := bnd_at hat' hbl hlt'
        have e0 : ∀ x : Later wr, x.w'.cell? ⟨b, off + k * 2, none⟩ = some (.int .i64 xs[k].v) := keepL c0
        have f0 : ∀ x : Later wr, x.w'.cell? ⟨b', off' + k * 2, none⟩ = some (.int .i64 ys[k].v) := keepL d0
        have e1 : ∀ x : Later wr, x.w'.cell? ⟨b, off + k * 2 + 1, none⟩ = some (.slice a1 xs[k].t.length cap1) := keepL c1
        have f1 : ∀ x : Later wr, x.w'.cell? ⟨b', off' + k * 2 + 1, none⟩ = some (.slice a2 ys[k].t.length cap2) := keepL d1
        by_cases hv : xs[k].v = ys[k].v
        · have tv : (xs[k].v != ys[k].v) = false := by simp [hv]
          have tv' : ((xs[k].v != ys[k].v) = true) = False := by simp [hv]
          by_cases he : xs[k].t = ys[k].t
          · have HT : Hid (xs.take (k + 1) = ys.take (k + 1)) := take_eq_snoc HS.out hlt hlt' ((Bnd.eq_iff _ _).2 ⟨hv, he⟩)
            have HD := mkHid (decide_eq_true he)
            have hcall : ∀ x : Later wr, Calls Try.prog 20 #[.slice a1 xs[k].t.length cap1, .slice a2 ys[k].t.length cap2] x.w' fun e w'' => e = .returned (.bool true) ∧ Below x.w'.heap.size x.w' w'' := fun x =>
              (refsame_any a1 cap1 a2 cap2 _ xs[k].t ys[k].t (hr1.below x.ok) (hr2.below x.ok)).mono fun e w' ⟨he, hb⟩ => ⟨by rw [he, HD.out], hb⟩
            clear he HS hv tv'
            go_wp2
            refine wp_region_calm (by kernel_rfl) (by kernel_rfl) ?_
            repeat (go_big_quiet_step (exact Calls.calm_of (hcall _)))
            refine wpQuiet_nil ?_
            rintro _ ⟨x, rfl⟩
            go_wp2
            go_round
            case rel => exact ⟨k + 1, by omega, by go_num, hbl.then x.ok, HT⟩
            case measure => simp [intOf]; omega
          · have HE : Hid (false = decide (xs = ys)) := by
              rw [Hid, decide_eq_false (bnd_ne hlt hlt' (fun e => he ((Bnd.eq_iff _ _).1 e).2))]
            have HD := mkHid (decide_eq_false he)
            have hcall : ∀ x : Later wr, Calls Try.prog 20 #[.slice a1 xs[k].t.length cap1, .slice a2 ys[k].t.length cap2] x.w' fun e w'' => e = .returned (.bool false) ∧ Below x.w'.heap.size x.w' w'' := fun x =>
              (refsame_any a1 cap1 a2 cap2 _ xs[k].t ys[k].t (hr1.below x.ok) (hr2.below x.ok)).mono fun e w' ⟨he, hb⟩ => ⟨by rw [he, HD.out], hb⟩
            clear he HS hv tv'
            go_wp2
            refine wp_region_calm (by kernel_rfl) (by kernel_rfl) ?_
            repeat (go_big_quiet_step (exact Calls.calm_of (hcall _)))
            refine wpQuiet_nil ?_
            rintro _ ⟨x, rfl⟩
            go_wp2
            go_ret
            exact ⟨ret_bool HE.out, hbl.then x.ok⟩
        · have HE : Hid (false = decide (xs = ys)) := by
            rw [Hid, decide_eq_false (bnd_ne hlt hlt' (fun e => hv ((Bnd.eq_iff _ _).1 e).1))]
          have tv : (xs[k].v != ys[k].v) = true := by simp [hv]
          clear HS hv
          go_wp2
          refine wp_region_calm (by kernel_rfl) (by kernel_rfl) ?_
          repeat (go_big_quiet_step (fail))
          refine wpQuiet_nil ?_
          rintro _ ⟨x, rfl⟩
          go_wp2
          go_ret
          exact ⟨ret_bool HE.out, hbl.then x.ok⟩
      · have HE : Hid (true = decide (xs = ys)) := by
          rw [Hid, decide_eq_true (take_all HS.out (by omega) (by omega))]
        clear HS
        go_wp2
        go_ret
        exact ⟨ret_bool HE.out, hbl⟩
  · have HE : Hid (false = decide (xs = ys)) := by
      rw [Hid, decide_eq_false]; intro e; rw [e] at hlen; exact hlen rfl
    have hne : ((xs.length : Int) != (ys.length : Int)) = true := by simp; omega
    clear hlen
    go_enter Try.func17, Try.ntmps17
    go_wp2
    go_ret
    exact ⟨ret_bool HE.out, Below.refl _ _⟩
set_option maxHeartbeats 400000 in
theorem v3_any (n : Int) (w : World) : Calls Try.prog 25 #[.int .i64 n] w fun e w' => e = .returned (.agg #[.int .i64 1, .string ⟨#[]⟩, .int .i64 n]) ∧ Below w.heap.size w w' := by
  have hb := ((Below.refl w.heap.size w).new (.cells #[.int .i64 1, .string ⟨#[]⟩, .int .i64 n] 42))
  go_enter Try.func25, Try.ntmps25
  go_wp2
  exact bodyPost_ret (v := .agg #[.int .i64 1, .string ⟨#[]⟩, .int .i64 n]) (by simp [results, Try.results25, go_sem]) rfl ⟨rfl, hb⟩
/-- the name that is made of a string -/
theorem name3_any (s : ByteArray) (w : World) : Calls Try.prog 33 #[.string s] w fun e w' => (∃ t : ByteArray, e = .returned (.string t) ∧ (t = ⟨#[102]⟩ ∨ t = ⟨#[103]⟩ ∨ t = ⟨#[97]⟩)) ∧ w' = w := by
  go_enter Try.func33, Try.ntmps33
  go_wp2
  all_goals
    go_ret
    exact ⟨⟨_, rfl, by simp⟩, rfl⟩
set_option maxHeartbeats 1600000 in
theorem f3_any (a : Option Addr) (cap : Nat) (w : World) (l : List Cel) (hr : Row w a cap l) (hl : l.length ≤ 1000) :
    Calls Try.prog 31 #[.slice a l.length cap] w fun e w' => ∃ a' cap', e = .returned (.slice a' (l.length + 1) cap') ∧ Row w' a' cap' (⟨3, ⟨#[102]⟩, l.length⟩ :: l) ∧ Below w.heap.size w w' := by
  have hm := hr.max
  have hle := hr.le
  have hcf : (⟨3, ⟨#[102]⟩, l.length⟩ : Cel).fit := ⟨by simp, by simp, by show (-9223372036854775808 : Int) ≤ l.length; omega, by show (l.length : Int) ≤ 9223372036854775807; omega, by show (1 : Nat) ≤ 9223372036854775807; omega⟩
  have hb0 := (Below.refl w.heap.size w).new (.cells #[.int .i64 3, .string ⟨#[102]⟩, .int .i64 l.length] 42)
  have hown0 : (w.alloc (.cells #[.int .i64 3, .string ⟨#[102]⟩, .int .i64 l.length] 42)).ownsRow w.heap.size 42 3 (.slice (some ⟨w.heap.size, 0, none⟩) 1 1) 1 (flat [⟨3, ⟨#[102]⟩, l.length⟩]) := by
    have := World.ownsRow_lit (base := w.heap.size) (e := 42) (size := 3) w #[.int .i64 3, .string ⟨#[102]⟩, .int .i64 l.length] 1 (Nat.le_refl _) (by unfold maxLen; omega) rfl
    simpa [flat] using this
  go_enter Try.func31, Try.ntmps31
  go_wp2_with (at_builtin; refine wpList_app rfl _ _ 22 rfl w.heap.size 42 3 32 _ Try.underlying22 Try.infoCell rfl (by decide) (by decide) _ _ _ rfl hown0 a l.length cap (flat l) rfl ((hr.below hb0).src) (by omega) hb0.size ?_; intro v' w3 hown3 _ hb3)
  rw [← flat_append] at hown3
  obtain ⟨a2, cap2, rfl, hrow⟩ := own_row (xs := [⟨3, ⟨#[102]⟩, l.length⟩] ++ l) (by rw [List.length_append, List.length_singleton]; exact hown3) (fun c hc => by
    rcases List.mem_append.1 hc with h | h
    · rw [List.mem_singleton] at h; rw [h]; exact hcf
    · exact hr.fit c h)
  go_ret
  exact ⟨a2, cap2, by rw [List.length_append, Nat.add_comm]; rfl, hrow, hb0.trans hb3⟩
end Go.Proofs.Ytlddglajdcednaa
namespace Go.Proofs.Ytlddglajdcednaa
open Go.RowKit
def vC (n : Int) : Cel := ⟨1, ⟨#[]⟩, n⟩
def fnC (k : Int) : Cel := ⟨3, ⟨#[102]⟩, k⟩
def bC : Cel := ⟨3, ⟨#[98]⟩, 0⟩
def cC : Cel := ⟨3, ⟨#[99]⟩, 0⟩
def nC (n : Int) : Cel := ⟨2, ⟨#[]⟩, n⟩
theorem rise_01 : riseI [0, 1] = [0, 1] := by
  unfold riseI
  have h : sortI [0, 1] = [0, 1] := by unfold sortI; simp [List.mergeSort, List.MergeSort.Internal.splitInTwo, List.merge]
  rw [h]; decide +kernel
theorem rise_0 : riseI [0] = [0] := by
  unfold riseI
  have h : sortI [0] = [0] := by unfold sortI; simp [List.mergeSort]
  rw [h]; decide +kernel
theorem rise_1001 : riseI [1, 0, 0, 1] = [0, 1] := by
  unfold riseI
  have h : sortI [1, 0, 0, 1] = [0, 0, 1, 1] := by unfold sortI; simp [List.mergeSort, List.MergeSort.Internal.splitInTwo, List.merge]
  rw [h]; decide +kernel
/-- as mguL, the variables in order being known -/
def mguR (a b : List Cel) (vs : List Int) : Option (Option (List Bnd)) :=
  let l := a ++ b
  let n := l.length
  match joinL l (7 * n + 1) ((List.range n).map (upAt l)) [(0, a.length)] with
  | none => none
  | some r => match measureL l r (n + 1) (List.replicate n 0) 0 with
    | none => none
    | some s =>
      let at_ := fun v => r.getD ((firstO l v).getD 0) 0
      if vs.any (fun v => decide (200 < s.getD (at_ v) 0)) then some none
      else some (some (bindL (fun v => layL l r (n + 1) (at_ v)) vs))
theorem mgu_r {a b : List Cel} {vs : List Int} (h : riseI (varsL a ++ varsL b) = vs) : mguL a b = mguR a b vs := by subst h; rfl
set_option maxRecDepth 100000 in
theorem hd_m1 : some (some [⟨0, [cC]⟩, ⟨1, [bC]⟩]) = mguL [fnC 2, vC 0, bC] [fnC 2, cC, vC 1] := by
  rw [mgu_r (vs := [0, 1]) (by rw [show varsL [fnC 2, vC 0, bC] ++ varsL [fnC 2, cC, vC 1] = [0, 1] by decide +kernel]; exact rise_01)]
  decide +kernel
set_option maxRecDepth 100000 in
theorem hd_m2 : some (some [⟨1, [vC 0]⟩]) = mguL [fnC 2, vC 1, vC 0] [fnC 2, vC 0, vC 1] := by
  rw [mgu_r (vs := [0, 1]) (by rw [show varsL [fnC 2, vC 1, vC 0] ++ varsL [fnC 2, vC 0, vC 1] = [1, 0, 0, 1] by decide +kernel]; exact rise_1001)]
  decide +kernel
theorem hd_m3 : none = mguL [vC 0] [fnC 1, vC 0] := by
  rw [mgu_r rfl]; decide +kernel
theorem hd_m4 : none = mguL [fnC 1, bC] [fnC 1, cC] := by
  rw [mgu_r rfl]; decide +kernel
theorem hd_m5 : none = mguL [fnC 1, nC 1] [fnC 1, nC 2] := by
  rw [mgu_r rfl]; decide +kernel
theorem hd_k1 : matchL [fnC 2, vC 0, vC 1] [fnC 2, vC 1, vC 0] = [⟨0, [vC 1]⟩, ⟨1, [vC 0]⟩] ∧ matchB [fnC 2, vC 0, vC 1] [fnC 2, vC 1, vC 0] = true := by
  refine ⟨?_, by decide +kernel⟩
  unfold matchL
  rw [show varsL [fnC 2, vC 0, vC 1] = [0, 1] by decide +kernel, rise_01]
  decide +kernel
theorem hd_k2 : matchL [fnC 1, bC] [fnC 1, vC 0] = [] ∧ matchB [fnC 1, bC] [fnC 1, vC 0] = false := by
  refine ⟨?_, by decide +kernel⟩
  unfold matchL
  rw [show imgGo [fnC 1, bC] [fnC 1, vC 0] (fun _ => none) = none from Option.isNone_iff_eq_none.1 (by decide +kernel)]
theorem hd_k3 : matchL [fnC 2, vC 0, vC 0] [fnC 2, vC 0, vC 0] = [] ∧ matchB [fnC 2, vC 0, vC 0] [fnC 2, vC 0, vC 0] = true := by
  refine ⟨?_, by decide +kernel⟩
  unfold matchL
  rw [show varsL [fnC 2, vC 0, vC 0] = [0] by decide +kernel, rise_0]
  decide +kernel
theorem hd_v1 : decide (numL [fnC 2, vC 7, vC 2] = numL [fnC 2, vC 0, vC 7]) = true := by decide +kernel
theorem hd_v2 : decide (numL [fnC 2, vC 0, vC 0] = numL [fnC 2, vC 0, vC 1]) = false := by decide +kernel
theorem vC_fit (n : Int) (h : 0 ≤ n ∧ n ≤ 1000) : (vC n).fit := ⟨by show _ ≤ (1 : Int); omega, by show (1 : Int) ≤ _; omega, by show _ ≤ n; omega, by show n ≤ _; omega, by show (0 : Nat) ≤ _; omega⟩
theorem nC_fit (n : Int) (h : 0 ≤ n ∧ n ≤ 1000) : (nC n).fit := ⟨by show _ ≤ (2 : Int); omega, by show (2 : Int) ≤ _; omega, by show _ ≤ n; omega, by show n ≤ _; omega, by show (0 : Nat) ≤ _; omega⟩
theorem bC_fit : bC.fit := ⟨by show _ ≤ (3 : Int); omega, by show (3 : Int) ≤ _; omega, by show _ ≤ (0 : Int); omega, by show (0 : Int) ≤ _; omega, by show (1 : Nat) ≤ _; omega⟩
theorem cC_fit : cC.fit := ⟨by show _ ≤ (3 : Int); omega, by show (3 : Int) ≤ _; omega, by show _ ≤ (0 : Int); omega, by show (0 : Int) ≤ _; omega, by show (1 : Nat) ≤ _; omega⟩
theorem fits1 {x : Cel} (h : x.fit) : ∀ c ∈ [x], c.fit := fun c hc => by rw [List.mem_singleton] at hc; rw [hc]; exact h
theorem fits2 {x y : Cel} (h : x.fit) (k : y.fit) : ∀ c ∈ [x, y], c.fit := fun c hc => by
  rcases List.mem_cons.1 hc with rfl | hc
  · exact h
  · exact fits1 k c hc
theorem cellsN (w : World) (xs : List Cel) (h : ∀ c ∈ xs, c.fit) (hl : xs.length ≤ 1000) : Row (w.alloc (.cells (flat xs).toArray 42)) (some ⟨w.heap.size, 0, none⟩) xs.length xs := by
  obtain ⟨a, cap, e, hr⟩ := own_row (w := w.alloc (.cells (flat xs).toArray 42)) (B := w.heap.size) (e := 42) (v := .slice (some ⟨w.heap.size, 0, none⟩) xs.length xs.length) (xs := xs)
    ⟨flat_length xs, .inr ⟨w.heap.size, xs.length, _, rfl, Nat.le_refl _, heap_alloc_new w _, Nat.le_refl _, by unfold maxLen; omega, by simp [flat_length], by rw [List.take_of_length_le (by simp [flat_length])]⟩⟩ h
  cases e
  exact hr
/-- the law's f at one cell and at two -/
theorem f_one (a : Option Addr) (cap : Nat) (w : World) (x : Cel) (hr : Row w a cap [x]) : Calls Try.prog 31 #[.slice a 1 cap] w fun e w' => ∃ a' cap', e = .returned (.slice a' 2 cap') ∧ Row w' a' cap' [fnC 1, x] ∧ Below w.heap.size w w' := f3_any a cap w [x] hr (by simp)
theorem f_two (a : Option Addr) (cap : Nat) (w : World) (x y : Cel) (hr : Row w a cap [x, y]) : Calls Try.prog 31 #[.slice a 2 cap] w fun e w' => ∃ a' cap', e = .returned (.slice a' 3 cap') ∧ Row w' a' cap' [fnC 2, x, y] ∧ Below w.heap.size w w' := f3_any a cap w [x, y] hr (by simp)
theorem mgu_some (a : Option Addr) (cap : Nat) (a' : Option Addr) (cap' : Nat) (w : World) (xs ys : List Cel) (hx : Row w a cap xs) (hy : Row w a' cap' ys) (rx : rightB xs = true) (ry : rightB ys = true) (L : List Bnd) (ho : some (some L) = mguL xs ys) :
    Calls Try.prog 13 #[.slice a xs.length cap, .slice a' ys.length cap'] w fun e w' => ∃ a2 cap2, e = .returned (.tuple #[.slice a2 L.length cap2, .int .i64 0]) ∧ Row w' a2 cap2 L ∧ Below w.heap.size w w' :=
  (mgu_any a cap a' cap' w xs ys hx hy rx ry _ ho).mono fun _ _ ⟨h1, a2, cap2, h2, h3⟩ => ⟨a2, cap2, h2, h3, h1⟩
theorem mgu_none (a : Option Addr) (cap : Nat) (a' : Option Addr) (cap' : Nat) (w : World) (xs ys : List Cel) (hx : Row w a cap xs) (hy : Row w a' cap' ys) (rx : rightB xs = true) (ry : rightB ys = true) (ho : none = mguL xs ys) :
    Calls Try.prog 13 #[.slice a xs.length cap, .slice a' ys.length cap'] w fun e w' => e = .returned (.tuple #[.slice none 0 0, .int .i64 3]) ∧ Below w.heap.size w w' :=
  (mgu_any a cap a' cap' w xs ys hx hy rx ry _ ho).mono fun _ _ ⟨h1, h2⟩ => ⟨h2, h1⟩
end Go.Proofs.Ytlddglajdcednaa
