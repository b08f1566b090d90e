import Derived.Test.YtmmnfkggfnokjaaGreatZr7
import Derived.OrdersHeld
import Derived.Deep.RegionHeld3
import Derived.OwnWalk

namespace Go.Proofs.YtmmnfkggfnokjaaGreat

/-! ### two terms, one behind the other -/
theorem sk_more : ∀ (l : List Cel) (m : Nat) (r : List Cel), sk m l = some r → ∀ k rest, sk (m + k) (l ++ rest) = sk k (r ++ rest)
  | [], 0, r, h, k, rest => by simp [sk] at h; subst h; simp
  | [], m + 1, r, h, k, rest => by simp [sk] at h
  | c :: l, 0, r, h, k, rest => by simp [sk] at h; subst h; simp
  | c :: l, m + 1, r, h, k, rest => by
    simp only [sk] at h
    split at h
    · next hc =>
      rw [show m + 1 + k = m + k + 1 by omega, List.cons_append]
      simp only [sk, hc, if_true]
      rw [show m + k + ar c = m + ar c + k by omega]
      exact sk_more l (m + ar c) r h k rest
    · cases h
theorem IsT_of_sk {t : List Cel} (h : sk 1 t = some []) : IsT t := fun m rest => by
  have := sk_more t 1 [] h m rest
  rw [Nat.add_comm, this, List.nil_append]
theorem IsT.reads {t : List Cel} (h : IsT t) : sk 1 t = some [] := by
  have := h 0 []
  rw [List.append_nil, sk_zero] at this
  exact this
theorem sub_first {a b : List Cel} (ha : IsT a) : subL (a ++ b) 0 = a := by
  have h := ha 0 b
  rw [sk_zero] at h
  have e : endI (a ++ b) 0 = (a.length : Int) := by
    unfold endI
    rw [List.drop_zero, h]
    show ((a ++ b).length : Int) - (b.length : Int) = _
    rw [List.length_append]; omega
  unfold subL
  rw [e, List.drop_zero]
  simp
theorem sub_second {a b : List Cel} (hb : IsT b) : subL (a ++ b) a.length = b := by
  have h := hb.reads
  have e : endI (a ++ b) a.length = ((a ++ b).length : Int) := by
    unfold endI
    rw [List.drop_left, h]
    show ((a ++ b).length : Int) - 0 = _
    omega
  unfold subL
  rw [e, List.drop_left, List.length_append]
  rw [List.take_of_length_le (by omega)]

/-! ### all that stands within is measured -/
section
variable {l : List Cel} {r : List Nat} {t : List (Nat × Nat)} {s : List Int}
theorem done_parts (J : Joined l (ups l) r t) (mo : MOk l r s) {p : Nat} (hp : p < l.length) (h : 0 < s.getD (r.getD p 0) 0) : ∀ q ∈ argsL l p, 0 < s.getD (r.getD q 0) 0 := by
  intro q hq
  have hk : l[p].k ≠ 1 := fun e => by rw [var_args hp e] at hq; cases hq
  obtain ⟨x1, x2⟩ := J.ok.top p hp
  have kx : l[r.getD p 0].k ≠ 1 := fun e => hk (J.var p hp x1 e)
  obtain ⟨_, c2⟩ := J.closed p _ hp x1 x2.symm hk kx
  have : r.getD q 0 ∈ (argsL l (r.getD p 0)).map (fun z => r.getD z 0) := by rw [← c2]; exact List.mem_map.2 ⟨q, hq, rfl⟩
  obtain ⟨q', hq', e'⟩ := List.mem_map.1 this
  have := mo.parts _ x1 h q' hq'
  rw [e'] at this
  exact this
theorem arg_find (hG : Good l) {i z : Nat} (hi : i < l.length) (h1 : i + 1 ≤ z) : ∀ m, m ≤ ar l[i] → z < argP l i m → ∃ j, j < m ∧ argP l i j ≤ z ∧ z < argP l i (j + 1)
  | 0, _, h => by rw [argP_zero hi] at h; omega
  | m + 1, hm, h => by
    by_cases hz : z < argP l i m
    · obtain ⟨j, a, b, c⟩ := arg_find hG hi h1 m (by omega) hz
      exact ⟨j, by omega, b, c⟩
    · exact ⟨m, by omega, by omega, h⟩
theorem all_done (hG : Good l) (J : Joined l (ups l) r t) (mo : MOk l r s) : ∀ (k p : Nat), p < l.length → l.length - p ≤ k → 0 < s.getD (r.getD p 0) 0 → ∀ z, p ≤ z → z < (endI l p).toNat → 0 < s.getD (r.getD z 0) 0 := by
  intro k
  induction k with
  | zero => intro p hp hk; omega
  | succ k ih =>
    intro p hp hk h z hz1 hz2
    by_cases e : z = p
    · rw [e]; exact h
    · have he : (endI l p).toNat = argP l p (ar l[p]) := by rw [good_end hG hp]; rfl
      rw [he] at hz2
      obtain ⟨j, a, b, c⟩ := arg_find hG hp (z := z) (by omega) _ (Nat.le_refl _) hz2
      have hq : argP l p j ∈ argsL l p := by
        unfold argsL
        rw [List.getElem?_eq_getElem hp]
        exact List.mem_map.2 ⟨j, List.mem_range.2 a, rfl⟩
      have hgt := arg_gt hG hp hq
      have hn := (argP_next hG hp a).1
      exact ih (argP l p j) (args_lt hG hq) (by omega) (done_parts J mo hp h _ hq) z b (by rw [hn]; exact c)
/-- a class's term is a term, and of cells of the row alone -/
theorem term_isT (hG : Good l) (hj : JoinOk l r []) : ∀ (h p : Nat), p < l.length → h ≤ l.length → EndsIn l r h (r.getD p 0) → IsT (termL l r p) ∧ ∀ c ∈ termL l r p, c ∈ l := by
  intro h
  induction h with
  | zero => intro p _ _ e; exact e.elim
  | succ h ih =>
    intro p hp hh e
    obtain ⟨x1, x2⟩ := hj.top p hp
    rw [term_eq e hh x1]
    have hq := fun q (hq : q ∈ argsL l (r.getD p 0)) => ih q (args_lt hG hq) (by omega) (e q hq)
    refine ⟨fun m rest => ?_, fun c hc => ?_⟩
    · rw [List.cons_append]
      simp only [sk, good_ok hG x1, if_true]
      have := flat_isT (termL l r) (argsL l (r.getD p 0)) (fun q h => (hq q h).1) m rest
      rw [args_length l x1, Nat.add_comm] at this
      exact this
    · rcases List.mem_cons.1 hc with rfl | hc
      · exact List.getElem_mem x1
      · obtain ⟨q, h1, h2⟩ := List.mem_flatMap.1 hc
        exact (hq q h1).2 c h2
end

/-! ### what joining and measuring tell of two terms -/
/-- what is told of two terms that can be made alike -/
structure Told (a b : List Cel) (r : List Nat) (s : List Int) : Prop where
  alike : putF (ofVar (a ++ b) r) a = putF (ofVar (a ++ b) r) b
  /-- of each variable -/
  ofv : ∀ p (hp : p < (a ++ b).length), (a ++ b)[p].k = 1 →
    IsT (ofVar (a ++ b) r (a ++ b)[p].n) ∧ (∀ c ∈ ofVar (a ++ b) r (a ++ b)[p].n, c ∈ a ++ b) ∧
    putF (ofVar (a ++ b) r) (ofVar (a ++ b) r (a ++ b)[p].n) = ofVar (a ++ b) r (a ++ b)[p].n ∧
    (200 < s.getD (r.getD ((firstO (a ++ b) (a ++ b)[p].n).getD 0) 0) 0 ↔ 200 < (ofVar (a ++ b) r (a ++ b)[p].n).length) ∧
    (∀ w, ofVar (a ++ b) r (a ++ b)[p].n = [varC w] → w ≤ (a ++ b)[p].n)
  most : ∀ G : Int → List Cel, (∀ v, IsT (G v)) → putF G a = putF G b → ∀ p (hp : p < (a ++ b).length), (a ++ b)[p].k = 1 → putF G (ofVar (a ++ b) r (a ++ b)[p].n) = G (a ++ b)[p].n
theorem told_some {a b : List Cel} (ha : IsT a) (hb : IsT b) (ha0 : 0 < a.length) (hb0 : 0 < b.length) (hG : Good (a ++ b)) {r : List Nat} {s : List Int}
    (e : joinL (a ++ b) (7 * (a ++ b).length + 1) (ups (a ++ b)) [(0, a.length)] = some r) (m : measureL (a ++ b) r ((a ++ b).length + 1) (List.replicate (a ++ b).length 0) 0 = some s) : Told a b r s := by
  have hl : (a ++ b).length = a.length + b.length := List.length_append
  have h0 : 0 < (a ++ b).length := by omega
  have hq : a.length < (a ++ b).length := by omega
  have s1 := sub_first (b := b) ha
  have s2 := sub_second (a := a) hb
  have J := joined_ups hG (t := [(0, a.length)]) (by simp; omega) e
  obtain ⟨mo, pos⟩ := measured hG J.ok h0 m
  have hd : doneN s ≤ (a ++ b).length := by have := done_le s; rw [mo.len] at this; exact this
  have hal := alike_of hG h0 hq e m
  rw [s1, s2] at hal
  have h0q : r.getD 0 0 = r.getD a.length 0 := J.done (0, a.length) (by simp)
  have e1 : (endI (a ++ b) 0).toNat = a.length := by
    have h := ha 0 b
    rw [sk_zero] at h
    unfold endI
    rw [List.drop_zero, h]
    show ((((a ++ b).length : Int) - (b.length : Int))).toNat = _
    omega
  have e2 : (endI (a ++ b) a.length).toNat = (a ++ b).length := by
    unfold endI
    rw [List.drop_left, hb.reads]
    show ((((a ++ b).length : Int) - 0)).toNat = _
    omega
  have all : ∀ z, z < (a ++ b).length → 0 < s.getD (r.getD z 0) 0 := by
    intro z hz
    by_cases h : z < a.length
    · exact all_done hG J mo _ 0 h0 (Nat.le_refl _) pos z (by omega) (by rw [e1]; exact h)
    · exact all_done hG J mo _ a.length hq (Nat.le_refl _) (by rw [← h0q]; exact pos) z (by omega) (by rw [e2]; exact hz)
  have ends : ∀ z, z < (a ++ b).length → EndsIn (a ++ b) r (doneN s) (r.getD z 0) := fun z hz => (mo.ends _ (J.ok.top z hz).1 (all z hz)).1
  refine ⟨hal.1.trans hal.2.symm, fun p hp hk => ?_, fun G hT eG p hp hk => ?_⟩
  · have ev := ofVar_at J hp hk
    obtain ⟨i1, i2⟩ := term_isT hG J.ok (doneN s) p hp hd (ends p hp)
    obtain ⟨u1, u2⟩ := upAt_le hp
    have hu : upAt (a ++ b) p < (a ++ b).length := by omega
    have hru : r.getD (upAt (a ++ b) p) 0 = r.getD p 0 := J.mono _ _ hu hp (by rw [ups_get hu, ups_get hp, u2])
    rw [ev]
    refine ⟨i1, i2, put_term J hG (doneN s) p hp hd (ends p hp), ?_, fun w hw => ?_⟩
    rotate_left
    · obtain ⟨x1, x2⟩ := J.ok.top p hp
      have hh : (termL (a ++ b) r p).head? = some (a ++ b)[r.getD p 0] := by
        unfold termL
        simp only [layL]
        rw [List.getElem?_eq_getElem x1]
        rfl
      rw [hw] at hh
      simp only [List.head?_cons, Option.some.injEq] at hh
      have hk' : (a ++ b)[r.getD p 0].k = 1 := by rw [← hh]; rfl
      have hn : (a ++ b)[r.getD p 0].n = w := by rw [← hh]; rfl
      have := join_least hG _ _ _ _ (laid_ok (a ++ b) [(0, a.length)] (by simp; omega)) (laid_least _) e p hp x1 hk'
      omega
    rw [first_of hp hk]
    show 200 < s.getD (r.getD (upAt (a ++ b) p) 0) 0 ↔ _
    obtain ⟨x1, x2⟩ := J.ok.top p hp
    rw [hru, (mo.ends _ x1 (all p hp)).2, term_class x2]
    omega
  · obtain ⟨r2, _, f1, _, f3⟩ := most_of hG hT h0 hq (by rw [s1, s2]; exact eG)
    rw [e] at f1
    injection f1 with f1
    subst f1
    rw [ofVar_at J hp hk, put_most hG J.ok f3 (doneN s) p hp hd (ends p hp), put_eq hG G hp, if_pos hk]
/-- nothing is told: nothing makes both the same -/
theorem told_none {a b : List Cel} (ha : IsT a) (hb : IsT b) (ha0 : 0 < a.length) (hb0 : 0 < b.length) (hG : Good (a ++ b))
    (e : ∀ r, joinL (a ++ b) (7 * (a ++ b).length + 1) (ups (a ++ b)) [(0, a.length)] = some r → measureL (a ++ b) r ((a ++ b).length + 1) (List.replicate (a ++ b).length 0) 0 = none) :
    ∀ G : Int → List Cel, (∀ v, IsT (G v)) → putF G a ≠ putF G b := by
  intro G hT eG
  have hl : (a ++ b).length = a.length + b.length := List.length_append
  obtain ⟨r, s, f1, f2, _⟩ := most_of hG hT (p := 0) (q := a.length) (by omega) (by omega) (by rw [sub_first ha, sub_second hb]; exact eG)
  have := e r f1
  rw [f2] at this
  cases this
end Go.Proofs.YtmmnfkggfnokjaaGreat

namespace Go.Proofs.YtmmnfkggfnokjaaGreat

/-! ### the variables, rising, each once -/
theorem compact_all (d : Array Int) : ∀ m i, i < m → d[i]! ∈ Lib.compactUpTo d m
  | 0, _, h => by omega
  | m + 1, i, h => by
    rw [Lib.compactUpTo_succ]
    by_cases e : i < m
    · exact List.mem_append.2 (.inl (compact_all d m i e))
    · obtain rfl : i = m := by omega
      by_cases k : Lib.keeps d i = true
      · rw [if_pos k]; simp
      · have hk : ¬ (i = 0 ∨ d[i]! ≠ d[i - 1]!) := by simpa [Lib.keeps] using k
        have h1 : i ≠ 0 := fun e => hk (.inl e)
        have h2 : d[i]! = d[i - 1]! := Classical.byContradiction fun e => hk (.inr e)
        rw [h2]
        exact List.mem_append.2 (.inl (compact_all d i (i - 1) (by omega)))
theorem rise_all {xs : List Int} {n : Int} (h : n ∈ xs) : n ∈ riseI xs := by
  have h1 : n ∈ sortI xs := List.mem_mergeSort.2 h
  obtain ⟨i, hi, e⟩ := List.getElem_of_mem h1
  have h2 := compact_all (sortI xs).toArray (sortI xs).length i hi
  rw [getElem!_pos _ i (by simpa using hi)] at h2
  simp only [List.getElem_toArray] at h2
  rw [e] at h2
  exact h2
theorem rise_up (xs : List Int) : (riseI xs).Pairwise (· < ·) := by
  have hs : (sortI xs).Pairwise (· ≤ ·) := by
    have := List.pairwise_mergeSort (le := fun x y : Int => decide (x ≤ y)) (fun a b c h1 h2 => by simp at *; omega) (fun a b => by simp; omega) xs
    exact this.imp fun h => by simpa using h
  have hle : ∀ i j, i ≤ j → j < (sortI xs).length → (sortI xs).toArray[i]! ≤ (sortI xs).toArray[j]! := by
    intro i j hij hj
    rw [getElem!_pos _ i (by simp; omega), getElem!_pos _ j (by simpa using hj)]
    simp only [List.getElem_toArray]
    rcases Nat.lt_or_ge i j with h | h
    · exact (List.pairwise_iff_getElem.1 hs) i j (by omega) hj h
    · obtain rfl : i = j := by omega
      exact Int.le_refl _
  unfold riseI Lib.compactUpTo
  rw [List.pairwise_map, List.pairwise_filter]
  refine List.Pairwise.imp_of_mem (fun {i j} hi hj hij ki kj => ?_) List.pairwise_lt_range
  have hj := List.mem_range.1 hj
  have h1 := hle i (j - 1) (by omega) (by omega)
  have h2 := hle (j - 1) j (by omega) hj
  have h3 : j = 0 ∨ (sortI xs).toArray[j]! ≠ (sortI xs).toArray[j - 1]! := by simpa [Lib.keeps] using kj
  have h4 := h3.resolve_left (by omega)
  omega

/-! ### bindings, and what they put in -/
theorem IsT.ne {t : List Cel} (h : IsT t) : t ≠ [] := by
  rintro rfl
  have := h.reads
  simp [sk] at this
theorem IsT.own {t : List Cel} (h : IsT t) {v : Int} (e : t.head? = some ⟨1, ⟨#[]⟩, v⟩) : t = [varC v] := by
  have hs := h.reads
  cases t with
  | nil => cases e
  | cons c t =>
    simp only [List.head?_cons, Option.some.injEq] at e
    subst e
    simp only [sk] at hs
    split at hs
    · simp only [ar, Nat.zero_add] at hs
      rw [if_neg (by decide), sk_zero] at hs
      injection hs with hs
      rw [hs]; rfl
    · cases hs
theorem look_append (a b : List Bnd) (v : Int) : look (a ++ b) v = (look a v).or (look b v) := by
  unfold look
  rw [List.find?_append]
  cases a.find? (fun b => decide (b.v = v)) <;> simp
theorem look_bind (F : Int → List Cel) (v : Int) : ∀ vs : List Int, look (bindL F vs) v = if v ∈ vs ∧ (F v).head? ≠ some ⟨1, ⟨#[]⟩, v⟩ then some (F v) else none
  | [] => by simp [bindL, look]
  | w :: ws => by
    have e : bindL F (w :: ws) = bindC F w ++ bindL F ws := by unfold bindL; rw [List.flatMap_cons]
    rw [e, look_append, look_bind F v ws]
    unfold bindC
    by_cases hw : w = v
    · subst hw
      split
      · next h => simp [look, h]
      · next h => simp [look, h]
    · have : look (if (F w).head? = some ⟨1, ⟨#[]⟩, w⟩ then [] else [⟨w, F w⟩]) v = none := by
        split
        · simp [look]
        · simp [look, hw]
      rw [this]
      have hv : ¬ v = w := fun e => hw e.symm
      simp [hv]
theorem put_bind {F : Int → List Cel} {vs : List Int} (hT : ∀ v ∈ vs, IsT (F v)) : ∀ t : List Cel, (∀ c ∈ t, cellOk c = true) → (∀ c ∈ t, c.k = 1 → c.n ∈ vs) → putL (look (bindL F vs)) t = putF F t
  | [], _, _ => rfl
  | c :: t, hc, hv => by
    have ih := put_bind hT t (fun d hd => hc d (List.mem_cons_of_mem _ hd)) (fun d hd => hv d (List.mem_cons_of_mem _ hd))
    unfold putL putF at ih ⊢
    rw [List.flatMap_cons, List.flatMap_cons, ih]
    congr 1
    unfold putC
    split
    · next hk =>
      have hm := hv c List.mem_cons_self hk
      rw [look_bind]
      split
      · rfl
      · next h =>
        have h' : (F c.n).head? = some ⟨1, ⟨#[]⟩, c.n⟩ := Classical.byContradiction fun e => h ⟨hm, e⟩
        rw [(hT _ hm).own h', Option.getD_none, ← cellOk_var (hc c List.mem_cons_self) hk]
    · rfl
theorem right_of {t : List Cel} (h : IsT t) (hl : t.length ≤ 200) : rightB t = true := by
  have e : endI t 0 = t.length := by
    unfold endI
    rw [List.drop_zero, h.reads]
    show (t.length : Int) - 0 = _
    omega
  unfold rightB
  simp [e]; omega
theorem isT_of_right {t : List Cel} (h : rightB t = true) : IsT t ∧ t.length ≤ 200 ∧ 0 < t.length := by
  unfold rightB at h
  simp only [Bool.and_eq_true, decide_eq_true_eq] at h
  obtain ⟨h1, h2⟩ := h
  unfold endI at h2
  rw [List.drop_zero] at h2
  cases hs : sk 1 t with
  | none => rw [hs] at h2; simp at h2
  | some r =>
    rw [hs] at h2
    have h3 : (t.length : Int) - (r.length : Int) = t.length := h2
    have : r = [] := List.eq_nil_of_length_eq_zero (by omega)
    subst this
    have hT := IsT_of_sk hs
    exact ⟨hT, by omega, List.length_pos_iff.2 hT.ne⟩
theorem right_bind {F : Int → List Cel} : ∀ (vs : List Int) (m : Int), vs.Pairwise (· < ·) → (∀ v ∈ vs, m ≤ v ∧ v ≤ 999) → (∀ v ∈ vs, IsT (F v) ∧ (F v).length ≤ 200) → rightG m (bindL F vs) = true
  | [], _, _, _, _ => rfl
  | w :: ws, m, hp, hm, hT => by
    have e : bindL F (w :: ws) = bindC F w ++ bindL F ws := by unfold bindL; rw [List.flatMap_cons]
    obtain ⟨hp1, hp2⟩ := List.pairwise_cons.1 hp
    have hw := hm w List.mem_cons_self
    have hTw := hT w List.mem_cons_self
    rw [e]
    unfold bindC
    split
    · rw [List.nil_append]
      exact right_bind ws m hp2 (fun v hv => hm v (List.mem_cons_of_mem _ hv)) (fun v hv => hT v (List.mem_cons_of_mem _ hv))
    · next h =>
      rw [List.cons_append, List.nil_append]
      have ih := right_bind ws (w + 1) hp2 (fun v hv => ⟨by have := hp1 v hv; omega, (hm v (List.mem_cons_of_mem _ hv)).2⟩) (fun v hv => hT v (List.mem_cons_of_mem _ hv))
      have ho : ownB ⟨w, F w⟩ = false := by
        unfold ownB
        refine decide_eq_false fun e => h ?_
        rw [show F w = [varC w] from e]; rfl
      simp only [rightG, ih, right_of hTw.1 hTw.2, ho, Bool.and_true, Bool.not_false, Bool.and_eq_true, decide_eq_true_eq]
      exact ⟨hw.1, hw.2⟩
/-- what putting in leaves as it is holds no variable for which another thing is put in -/
theorem put_fix {F : Int → List Cel} : ∀ t : List Cel, (∀ c ∈ t, c.k = 1 → F c.n ≠ []) → t.length ≤ (putF F t).length ∧ (putF F t = t → ∀ c ∈ t, c.k = 1 → F c.n = [c])
  | [], _ => ⟨Nat.le_refl _, fun _ c hc => by cases hc⟩
  | c :: t, h => by
    obtain ⟨i1, i2⟩ := put_fix t fun d hd => h d (List.mem_cons_of_mem _ hd)
    by_cases hk : c.k = 1
    · have hne := h c List.mem_cons_self hk
      rw [putF_var F hk, List.length_append, List.length_cons]
      have hpos := List.length_pos_iff.2 hne
      refine ⟨by omega, fun e d hd hdk => ?_⟩
      cases hf : F c.n with
      | nil => exact absurd hf hne
      | cons x xs =>
        rw [hf, List.cons_append, List.cons.injEq] at e
        obtain ⟨e1, e2⟩ := e
        have hl := congrArg List.length e2
        rw [List.length_append] at hl
        have hx : xs = [] := List.eq_nil_of_length_eq_zero (by omega)
        subst hx
        rw [List.nil_append] at e2
        rcases List.mem_cons.1 hd with rfl | hd
        · rw [hf, e1]
        · exact i2 e2 d hd hdk
    · rw [putF_cell F hk]
      refine ⟨by simp only [List.length_cons]; omega, fun e d hd hdk => ?_⟩
      rw [List.cons.injEq] at e
      rcases List.mem_cons.1 hd with rfl | hd
      · exact absurd hdk hk
      · exact i2 e.2 d hd hdk
theorem idem_bind {F : Int → List Cel} {vs : List Int} (hT : ∀ v ∈ vs, IsT (F v)) (hi : ∀ v ∈ vs, putF F (F v) = F v) (hv : ∀ v ∈ vs, ∀ c ∈ F v, c.k = 1 → c.n ∈ vs ∧ cellOk c = true) : idemB (bindL F vs) = true := by
  unfold idemB
  rw [List.all_eq_true]
  intro b hb
  obtain ⟨v, hm, hb⟩ := List.mem_flatMap.1 hb
  unfold bindC at hb
  split at hb
  · cases hb
  · obtain rfl := List.mem_singleton.1 hb
    rw [List.all_eq_true]
    intro c hc
    by_cases hk : c.k = 1
    · obtain ⟨h1, h2⟩ := hv v hm c hc hk
      have hf := (put_fix (F v) fun d hd hdk => (hT _ (hv v hm d hd hdk).1).ne).2 (hi v hm) c hc hk
      have : look (bindL F vs) c.n = none := by
        rw [look_bind, if_neg]
        rintro ⟨_, h3⟩
        refine h3 ?_
        rw [hf, cellOk_var h2 hk]; rfl
      simp [this]
    · simp [hk]

/-! ### what is told of two right terms -/
theorem good_two {a b : List Cel} (ha : IsT a) (hb : IsT b) : Good (a ++ b) := by
  have h : sk 2 (a ++ b) = some [] := by
    rw [ha 1 b]; exact hb.reads
  intro i hi
  exact sk_good (a ++ b) 2 [] h i (by simpa using hi)
/-- the variables of both, rising -/
def bothL (a b : List Cel) : List Int := riseI (varsL a ++ varsL b)
theorem both_iff {a b : List Cel} {v : Int} : v ∈ bothL a b ↔ ∃ c ∈ a ++ b, c.k = 1 ∧ c.n = v := by
  constructor
  · intro h
    have h := riseI_mem h
    rcases List.mem_append.1 h with h | h
    · obtain ⟨c, h1, h2⟩ := varsL_iff.1 h
      exact ⟨c, List.mem_append.2 (.inl h1), h2⟩
    · obtain ⟨c, h1, h2⟩ := varsL_iff.1 h
      exact ⟨c, List.mem_append.2 (.inr h1), h2⟩
  · rintro ⟨c, h1, h2⟩
    refine rise_all (List.mem_append.2 ?_)
    rcases List.mem_append.1 h1 with h1 | h1
    · exact .inl (varsL_iff.2 ⟨c, h1, h2⟩)
    · exact .inr (varsL_iff.2 ⟨c, h1, h2⟩)
/-- the whole theory of what Mgu's reckoning tells -/
structure ToldF (a b : List Cel) (F : Int → List Cel) : Prop where
  alike : putF F a = putF F b
  isT : ∀ v ∈ bothL a b, IsT (F v)
  within : ∀ v ∈ bothL a b, ∀ c ∈ F v, c ∈ a ++ b
  twice : ∀ v ∈ bothL a b, putF F (F v) = F v
  most : ∀ G : Int → List Cel, (∀ v, IsT (G v)) → putF G a = putF G b → ∀ v ∈ bothL a b, putF G (F v) = G v
  least : ∀ v ∈ bothL a b, ∀ w, F v = [varC w] → w ≤ v
theorem mgu_told {a b : List Cel} (ha : IsT a) (hb : IsT b) :
    (mguL a b = none ∧ ∀ G : Int → List Cel, (∀ v, IsT (G v)) → putF G a ≠ putF G b) ∨
    ∃ F, ToldF a b F ∧ mguL a b = some (if (bothL a b).any (fun v => decide (200 < (F v).length)) then none else some (bindL F (bothL a b))) := by
  have hG := good_two ha hb
  have ha0 := List.length_pos_iff.2 ha.ne
  have hb0 := List.length_pos_iff.2 hb.ne
  cases e : joinL (a ++ b) (7 * (a ++ b).length + 1) (ups (a ++ b)) [(0, a.length)] with
  | none =>
    refine .inl ⟨?_, told_none ha hb ha0 hb0 hG fun r h => by rw [e] at h; cases h⟩
    unfold mguL
    show (match joinL (a ++ b) (7 * (a ++ b).length + 1) (ups (a ++ b)) [(0, a.length)] with | none => none | some r => _) = none
    rw [e]
  | some r =>
    cases m : measureL (a ++ b) r ((a ++ b).length + 1) (List.replicate (a ++ b).length 0) 0 with
    | none =>
      refine .inl ⟨?_, told_none ha hb ha0 hb0 hG fun r' h => by rw [e] at h; injection h with h; subst h; exact m⟩
      unfold mguL
      show (match joinL (a ++ b) (7 * (a ++ b).length + 1) (ups (a ++ b)) [(0, a.length)] with | none => none | some r => _) = none
      rw [e]
      simp only [m]
    | some s =>
      have T := told_some ha hb ha0 hb0 hG e m
      have J := joined_ups hG (t := [(0, a.length)]) (by simp; omega) e
      have place : ∀ v ∈ bothL a b, ∃ p, ∃ hp : p < (a ++ b).length, (a ++ b)[p].k = 1 ∧ (a ++ b)[p].n = v := by
        intro v hv
        obtain ⟨c, h1, h2, h3⟩ := both_iff.1 hv
        obtain ⟨p, hp, rfl⟩ := List.getElem_of_mem h1
        exact ⟨p, hp, h2, h3⟩
      refine .inr ⟨ofVar (a ++ b) r, ⟨T.alike, fun v hv => ?_, fun v hv => ?_, fun v hv => ?_, fun G hT eG v hv => ?_, fun v hv => ?_⟩, ?_⟩
      · obtain ⟨p, hp, hk, rfl⟩ := place v hv; exact (T.ofv p hp hk).1
      · obtain ⟨p, hp, hk, rfl⟩ := place v hv; exact (T.ofv p hp hk).2.1
      · obtain ⟨p, hp, hk, rfl⟩ := place v hv; exact (T.ofv p hp hk).2.2.1
      · obtain ⟨p, hp, hk, rfl⟩ := place v hv; exact T.most G hT eG p hp hk
      · obtain ⟨p, hp, hk, rfl⟩ := place v hv; exact (T.ofv p hp hk).2.2.2.2
      · have hany : (bothL a b).any (fun v => decide (200 < s.getD (r.getD ((firstO (a ++ b) v).getD 0) 0) 0)) = (bothL a b).any (fun v => decide (200 < (ofVar (a ++ b) r v).length)) := by
          rw [Bool.eq_iff_iff, List.any_eq_true, List.any_eq_true]
          constructor
          · rintro ⟨v, hv, h⟩
            obtain ⟨p, hp, hk, rfl⟩ := place v hv
            exact ⟨_, hv, by simpa using (T.ofv p hp hk).2.2.2.1.1 (by simpa using h)⟩
          · rintro ⟨v, hv, h⟩
            obtain ⟨p, hp, hk, rfl⟩ := place v hv
            exact ⟨_, hv, by simpa using (T.ofv p hp hk).2.2.2.1.2 (by simpa using h)⟩
        have hbind : bindL (fun v => layL (a ++ b) r ((a ++ b).length + 1) (r.getD ((firstO (a ++ b) v).getD 0) 0)) (bothL a b) = bindL (ofVar (a ++ b) r) (bothL a b) := by
          have hF : ∀ v ∈ bothL a b, layL (a ++ b) r ((a ++ b).length + 1) (r.getD ((firstO (a ++ b) v).getD 0) 0) = ofVar (a ++ b) r v := by
            intro v hv
            obtain ⟨p, hp, hk, rfl⟩ := place v hv
            rw [first_of hp hk]
            unfold ofVar
            rw [first_of hp hk]
            have hu : upAt (a ++ b) p < (a ++ b).length := by have := (upAt_le hp).1; omega
            exact lay_class (J.ok.top _ hu).2 _
          have gen : ∀ (vs : List Int) (F F' : Int → List Cel), (∀ v ∈ vs, F v = F' v) → bindL F vs = bindL F' vs := by
            intro vs
            induction vs with
            | nil => intro F F' _; rfl
            | cons w ws ih =>
              intro F F' h
              unfold bindL at ih ⊢
              rw [List.flatMap_cons, List.flatMap_cons, ih F F' fun v hv => h v (List.mem_cons_of_mem _ hv)]
              unfold bindC
              rw [h w List.mem_cons_self]
          exact gen _ _ _ hF
        unfold mguL
        show (match joinL (a ++ b) (7 * (a ++ b).length + 1) (ups (a ++ b)) [(0, a.length)] with | none => none | some r => _) = _
        rw [e]
        simp only [m]
        rw [← hany, ← hbind]
        unfold bothL
        split <;> rfl
end Go.Proofs.YtmmnfkggfnokjaaGreat
namespace Go.Proofs.YtmmnfkggfnokjaaGreat
open Go.RowKit Go.Shelf Go.Lib

end Go.Proofs.YtmmnfkggfnokjaaGreat

namespace Go.Proofs.YtmmnfkggfnokjaaGreat
open Go.RowKit

theorem MapV.block {P : Program} {k : TypeId} {w w' : World} {b n : Nat} {f : Int → Option Value} (h : MapV P k w b n f) (e : w'.heap[b]? = w.heap[b]?) : MapV P k w' b n f := by
  obtain ⟨D, ⟨es, clock, hb, F, hs, hD⟩, hf⟩ := h.ex
  exact ⟨D, ⟨es, clock, e.trans hb, F, hs, hD⟩, hf⟩
theorem RowU.own {w : World} {u : Nat} {U : List Int} (h : RowU w u U) (hl : U.length ≤ 1000000) : w.ownsRow 0 3 (Rep.sz Int) (.slice (some ⟨u, 0, none⟩) U.length U.length) U.length (U.map (Value.int .i64)) :=
  ⟨by rw [List.length_map]; show U.length = U.length * 1; omega, .inr ⟨u, U.length, _, rfl, Nat.zero_le _, h, Nat.le_refl _, by unfold maxLen; omega, by simp; show U.length = U.length * 1; omega, by
    rw [List.take_of_length_le (by simp; show U.length ≤ U.length * 1; omega)]⟩⟩
theorem RowU.toRow {w : World} {u : Nat} {U : List Int} (h : RowU w u U) (hl : U.length ≤ 1000000) (hb : ∀ x ∈ U, -9223372036854775808 ≤ x ∧ x ≤ 9223372036854775807) : Row w (some ⟨u, 0, none⟩) U.length U := by
  obtain ⟨a, cap, e, hr⟩ := own_rowG (h.own hl) (crows_ints w hb)
  cases e
  exact hr
theorem ends_bound {l : List Cel} (hG : Good l) (hl : l.length ≤ 1000) : ∀ x ∈ endsL l, -9223372036854775808 ≤ x ∧ x ≤ 9223372036854775807 := by
  intro x hx
  obtain ⟨i, hi, rfl⟩ := List.mem_map.1 hx
  have := end_range hG (List.mem_range.1 hi)
  omega
theorem RowU.veil {us : List Nat} {w : World} {u : Nat} {U : List Int} (h : RowU w u U) (hu : u ∉ us) : RowU (Go.Proofs.YtmmnfkggfnokjaaGreat.veil us w) u U := (veil_heap hu).trans h
/-- nothing is measured yet -/
theorem mok_zero (l : List Cel) (r : List Nat) : MOk l r (List.replicate l.length 0) := by
  have h0 : ∀ x, (List.replicate l.length (0 : Int)).getD x 0 = 0 := fun x => by
    simp only [List.getD_eq_getElem?_getD, List.getElem?_replicate]; split <;> rfl
  exact ⟨by simp, fun x => by rw [h0]; omega, fun x _ h => by rw [h0] at h; omega, fun x _ h => by rw [h0] at h; omega⟩
/-- each place's class is measured -/
theorem told_done {a b : List Cel} (ha : IsT a) (hb : IsT b) (ha0 : 0 < a.length) (hb0 : 0 < b.length) (hG : Good (a ++ b)) {r : List Nat} {s : List Int}
    (e : joinL (a ++ b) (7 * (a ++ b).length + 1) (ups (a ++ b)) [(0, a.length)] = some r) (m : measureL (a ++ b) r ((a ++ b).length + 1) (List.replicate (a ++ b).length 0) 0 = some s) : ∀ z, z < (a ++ b).length → 0 < s.getD (r.getD z 0) 0 := by
  have hl : (a ++ b).length = a.length + b.length := List.length_append
  have h0 : 0 < (a ++ b).length := by omega
  have J := joined_ups hG (t := [(0, a.length)]) (by simp; omega) e
  obtain ⟨mo, pos⟩ := measured hG J.ok h0 m
  have h0q : r.getD 0 0 = r.getD a.length 0 := J.done (0, a.length) (by simp)
  have e1 : (endI (a ++ b) 0).toNat = a.length := by
    have h := ha 0 b
    rw [sk_zero] at h
    unfold endI
    rw [List.drop_zero, h]
    show ((((a ++ b).length : Int) - (b.length : Int))).toNat = _
    omega
  have e2 : (endI (a ++ b) a.length).toNat = (a ++ b).length := by
    unfold endI
    rw [List.drop_left, hb.reads]
    show ((((a ++ b).length : Int) - 0)).toNat = _
    omega
  intro z hz
  by_cases hza : z < a.length
  · exact all_done hG J mo _ 0 h0 (Nat.le_refl _) pos z (Nat.zero_le _) (by rw [e1]; exact hza)
  · exact all_done hG J mo _ a.length (by omega) (Nat.le_refl _) (by rw [← h0q]; exact pos) z (by omega) (by rw [e2]; exact hz)
end Go.Proofs.YtmmnfkggfnokjaaGreat

namespace Go.Proofs.YtmmnfkggfnokjaaGreat
open Go.RowKit

/-- what Mgu tells -/
def UPost (w : World) (o : Option (Option (List Bnd))) (e : Ending) (w' : World) : Prop := Below w.heap.size w w' ∧ match o with
  | none => e = .returned (.tuple #[.slice none 0 0, .int .i64 3])
  | some none => e = .returned (.tuple #[.slice none 0 0, .int .i64 2])
  | some (some L) => ∃ a2 cap2, e = .returned (.tuple #[.slice a2 L.length cap2, .int .i64 0]) ∧ Row w' a2 cap2 L
def atV (l : List Cel) (r : List Nat) (v : Int) : Nat := r.getD ((firstO l v).getD 0) 0
theorem join_fst {l : List Cel} {x y : Nat} (hx : x < l.length) (hy : y < l.length) : ∀ p ∈ [(x, y)], p.1 < l.length ∧ p.2 < l.length := by
  intro p hp; simp at hp; subst hp; exact ⟨hx, hy⟩
end Go.Proofs.YtmmnfkggfnokjaaGreat
namespace Go.Proofs.YtmmnfkggfnokjaaGreat
open Go.RowKit

end Go.Proofs.YtmmnfkggfnokjaaGreat
namespace Go.Proofs.YtmmnfkggfnokjaaGreat
open Go.RowKit
def vC (n : Int) : Cel := ⟨1, ⟨#[]⟩, n⟩
def fnC (k : Int) : Cel := ⟨3, ⟨#[102]⟩, k⟩
def bC : Cel := ⟨3, ⟨#[98]⟩, 0⟩
def cC : Cel := ⟨3, ⟨#[99]⟩, 0⟩
def nC (n : Int) : Cel := ⟨2, ⟨#[]⟩, n⟩
theorem rise_01 : riseI [0, 1] = [0, 1] := by
  unfold riseI
  have h : sortI [0, 1] = [0, 1] := by unfold sortI; simp [List.mergeSort, List.MergeSort.Internal.splitInTwo, List.merge]
  rw [h]; decide +kernel
theorem rise_0 : riseI [0] = [0] := by
  unfold riseI
  have h : sortI [0] = [0] := by unfold sortI; simp [List.mergeSort]
  rw [h]; decide +kernel
theorem rise_1001 : riseI [1, 0, 0, 1] = [0, 1] := by
  unfold riseI
  have h : sortI [1, 0, 0, 1] = [0, 0, 1, 1] := by unfold sortI; simp [List.mergeSort, List.MergeSort.Internal.splitInTwo, List.merge]
  rw [h]; decide +kernel
/-- as mguL, the variables in order being known -/
def mguR (a b : List Cel) (vs : List Int) : Option (Option (List Bnd)) :=
  let l := a ++ b
  let n := l.length
  match joinL l (7 * n + 1) ((List.range n).map (upAt l)) [(0, a.length)] with
  | none => none
  | some r => match measureL l r (n + 1) (List.replicate n 0) 0 with
    | none => none
    | some s =>
      let at_ := fun v => r.getD ((firstO l v).getD 0) 0
      if vs.any (fun v => decide (200 < s.getD (at_ v) 0)) then some none
      else some (some (bindL (fun v => layL l r (n + 1) (at_ v)) vs))
theorem mgu_r {a b : List Cel} {vs : List Int} (h : riseI (varsL a ++ varsL b) = vs) : mguL a b = mguR a b vs := by subst h; rfl
set_option maxRecDepth 100000 in
theorem hd_m1 : some (some [⟨0, [cC]⟩, ⟨1, [bC]⟩]) = mguL [fnC 2, vC 0, bC] [fnC 2, cC, vC 1] := by
  rw [mgu_r (vs := [0, 1]) (by rw [show varsL [fnC 2, vC 0, bC] ++ varsL [fnC 2, cC, vC 1] = [0, 1] by decide +kernel]; exact rise_01)]
  decide +kernel
set_option maxRecDepth 100000 in
theorem hd_m2 : some (some [⟨1, [vC 0]⟩]) = mguL [fnC 2, vC 1, vC 0] [fnC 2, vC 0, vC 1] := by
  rw [mgu_r (vs := [0, 1]) (by rw [show varsL [fnC 2, vC 1, vC 0] ++ varsL [fnC 2, vC 0, vC 1] = [1, 0, 0, 1] by decide +kernel]; exact rise_1001)]
  decide +kernel
theorem hd_m3 : none = mguL [vC 0] [fnC 1, vC 0] := by
  rw [mgu_r rfl]; decide +kernel
theorem hd_m4 : none = mguL [fnC 1, bC] [fnC 1, cC] := by
  rw [mgu_r rfl]; decide +kernel
theorem hd_m5 : none = mguL [fnC 1, nC 1] [fnC 1, nC 2] := by
  rw [mgu_r rfl]; decide +kernel
theorem hd_k1 : matchL [fnC 2, vC 0, vC 1] [fnC 2, vC 1, vC 0] = [⟨0, [vC 1]⟩, ⟨1, [vC 0]⟩] ∧ matchB [fnC 2, vC 0, vC 1] [fnC 2, vC 1, vC 0] = true := by
  refine ⟨?_, by decide +kernel⟩
  unfold matchL
  rw [show varsL [fnC 2, vC 0, vC 1] = [0, 1] by decide +kernel, rise_01]
  decide +kernel
theorem hd_k2 : matchL [fnC 1, bC] [fnC 1, vC 0] = [] ∧ matchB [fnC 1, bC] [fnC 1, vC 0] = false := by
  refine ⟨?_, by decide +kernel⟩
  unfold matchL
  rw [show imgGo [fnC 1, bC] [fnC 1, vC 0] (fun _ => none) = none from Option.isNone_iff_eq_none.1 (by decide +kernel)]
theorem hd_k3 : matchL [fnC 2, vC 0, vC 0] [fnC 2, vC 0, vC 0] = [] ∧ matchB [fnC 2, vC 0, vC 0] [fnC 2, vC 0, vC 0] = true := by
  refine ⟨?_, by decide +kernel⟩
  unfold matchL
  rw [show varsL [fnC 2, vC 0, vC 0] = [0] by decide +kernel, rise_0]
  decide +kernel
theorem hd_v1 : decide (numL [fnC 2, vC 7, vC 2] = numL [fnC 2, vC 0, vC 7]) = true := by decide +kernel
theorem hd_v2 : decide (numL [fnC 2, vC 0, vC 0] = numL [fnC 2, vC 0, vC 1]) = false := by decide +kernel
theorem vC_fit (n : Int) (h : 0 ≤ n ∧ n ≤ 1000) : (vC n).fit := ⟨by show _ ≤ (1 : Int); omega, by show (1 : Int) ≤ _; omega, by show _ ≤ n; omega, by show n ≤ _; omega, by show (0 : Nat) ≤ _; omega⟩
theorem nC_fit (n : Int) (h : 0 ≤ n ∧ n ≤ 1000) : (nC n).fit := ⟨by show _ ≤ (2 : Int); omega, by show (2 : Int) ≤ _; omega, by show _ ≤ n; omega, by show n ≤ _; omega, by show (0 : Nat) ≤ _; omega⟩
theorem bC_fit : bC.fit := ⟨by show _ ≤ (3 : Int); omega, by show (3 : Int) ≤ _; omega, by show _ ≤ (0 : Int); omega, by show (0 : Int) ≤ _; omega, by show (1 : Nat) ≤ _; omega⟩
theorem cC_fit : cC.fit := ⟨by show _ ≤ (3 : Int); omega, by show (3 : Int) ≤ _; omega, by show _ ≤ (0 : Int); omega, by show (0 : Int) ≤ _; omega, by show (1 : Nat) ≤ _; omega⟩
theorem fits1 {x : Cel} (h : x.fit) : ∀ c ∈ [x], c.fit := fun c hc => by rw [List.mem_singleton] at hc; rw [hc]; exact h
theorem fits2 {x y : Cel} (h : x.fit) (k : y.fit) : ∀ c ∈ [x, y], c.fit := fun c hc => by
  rcases List.mem_cons.1 hc with rfl | hc
  · exact h
  · exact fits1 k c hc
theorem cellsN (w : World) (xs : List Cel) (h : ∀ c ∈ xs, c.fit) (hl : xs.length ≤ 1000) : Row (w.alloc (.cells (flat xs).toArray 42)) (some ⟨w.heap.size, 0, none⟩) xs.length xs := by
  obtain ⟨a, cap, e, hr⟩ := own_row (w := w.alloc (.cells (flat xs).toArray 42)) (B := w.heap.size) (e := 42) (v := .slice (some ⟨w.heap.size, 0, none⟩) xs.length xs.length) (xs := xs)
    ⟨flat_length xs, .inr ⟨w.heap.size, xs.length, _, rfl, Nat.le_refl _, heap_alloc_new w _, Nat.le_refl _, by unfold maxLen; omega, by simp [flat_length], by rw [List.take_of_length_le (by simp [flat_length])]⟩⟩ h
  cases e
  exact hr
end Go.Proofs.YtmmnfkggfnokjaaGreat
namespace Go.Proofs.YtmmnfkggfnokjaaGreat
open Go.RowKit

/-- the two names in memory -/
def SB (n : Nat) (w' : World) : Prop := w'.cell? ⟨n, 0, none⟩ = some (.int .i64 3) ∧ w'.cell? ⟨n, 1, none⟩ = some (.string ⟨#[98]⟩) ∧ w'.cell? ⟨n, 2, none⟩ = some (.int .i64 0) ∧ w'.cell? ⟨n + 1, 0, none⟩ = some (.int .i64 3) ∧ w'.cell? ⟨n + 1, 1, none⟩ = some (.string ⟨#[99]⟩) ∧ w'.cell? ⟨n + 1, 2, none⟩ = some (.int .i64 0)
theorem sb_of (w W' : World) (h : Below ((w.alloc (.cells #[.int .i64 3, .string ⟨#[98]⟩, .int .i64 0] 42)).alloc (.cells #[.int .i64 3, .string ⟨#[99]⟩, .int .i64 0] 42)).heap.size ((w.alloc (.cells #[.int .i64 3, .string ⟨#[98]⟩, .int .i64 0] 42)).alloc (.cells #[.int .i64 3, .string ⟨#[99]⟩, .int .i64 0] 42)) W') : SB w.heap.size W' := by
  have k1 : ∀ i v, (#[Value.int .i64 3, .string ⟨#[98]⟩, .int .i64 0])[i]? = some v → W'.cell? ⟨w.heap.size, i, none⟩ = some v := fun i v e => keep (keep ((World.cell?_alloc_at _ _ _ i rfl).trans e) ((Below.refl _ _).new _)) h
  have k2 : ∀ i v, (#[Value.int .i64 3, .string ⟨#[99]⟩, .int .i64 0])[i]? = some v → W'.cell? ⟨w.heap.size + 1, i, none⟩ = some v := fun i v e => by
    refine keep ((World.cell?_alloc_at _ _ _ i (by rw [World.size_alloc])).trans e) h
  exact ⟨k1 0 _ rfl, k1 1 _ rfl, k1 2 _ rfl, k2 0 _ rfl, k2 1 _ rfl, k2 2 _ rfl⟩
theorem Below.from_drew {n : Nat} {w w' : World} (h : Below n w w') : Below n w.drew w' := ⟨h.os, h.tape, h.output, h.size, h.block⟩
theorem bindsN (w : World) (cs : Array Value) (xs : List Bnd) (h : CRows w cs.toList xs) (hl : xs.length ≤ 1000) : Row (w.alloc (.cells cs 44)) (some ⟨w.heap.size, 0, none⟩) xs.length xs :=
  row_new w cs (44, 0) (h.keeps (Keeps.of ((Below.refl _ _).new _))) (by omega)
theorem match_lit (a : Option Addr) (cap : Nat) (a' : Option Addr) (cap' : Nat) (w : World) (p t : List Cel) (hp : Row w a cap p) (ht : Row w a' cap' t) (rp : rightB p = true) (rt : rightB t = true) (L : List Bnd) (b : Bool) (h : matchL p t = L ∧ matchB p t = b) :
    Calls Tryz.prog 47 #[.slice a p.length cap, .slice a' t.length cap'] w fun e w' => ∃ a2 cap2, e = .returned (.tuple #[.slice a2 L.length cap2, .bool b]) ∧ Row w' a2 cap2 L ∧ Below w.heap.size w w' := by
  obtain ⟨rfl, rfl⟩ := h
  exact match_any a cap a' cap' w p t hp ht rp rt
end Go.Proofs.YtmmnfkggfnokjaaGreat

namespace Go.Proofs.YtmmnfkggfnokjaaGreat

/-! ### the other way round it is the same; of a term and itself it is nothing -/
theorem both_comm (a b : List Cel) : bothL a b = bothL b a := by
  have up : ∀ xs ys : List Int, xs.Pairwise (· < ·) → ys.Pairwise (· < ·) → (∀ v, v ∈ xs ↔ v ∈ ys) → xs = ys := by
    intro xs
    induction xs with
    | nil =>
      intro ys _ _ h
      cases ys with
      | nil => rfl
      | cons y ys => exact absurd ((h y).2 List.mem_cons_self) (by simp)
    | cons x xs ih =>
      intro ys hx hy h
      cases ys with
      | nil => exact absurd ((h x).1 List.mem_cons_self) (by simp)
      | cons y ys =>
        obtain ⟨x1, x2⟩ := List.pairwise_cons.1 hx
        obtain ⟨y1, y2⟩ := List.pairwise_cons.1 hy
        have e : x = y := by
          rcases List.mem_cons.1 ((h x).1 List.mem_cons_self) with e | e
          · exact e
          · rcases List.mem_cons.1 ((h y).2 List.mem_cons_self) with e' | e'
            · exact e'.symm
            · have := y1 x e; have := x1 y e'; omega
        subst e
        rw [ih ys x2 y2 fun v => ?_]
        constructor
        · intro hv
          rcases List.mem_cons.1 ((h v).1 (List.mem_cons_of_mem _ hv)) with e | e
          · have := x1 v hv; omega
          · exact e
        · intro hv
          rcases List.mem_cons.1 ((h v).2 (List.mem_cons_of_mem _ hv)) with e | e
          · have := y1 v hv; omega
          · exact e
  refine up _ _ (rise_up _) (rise_up _) fun v => ?_
  rw [both_iff, both_iff]
  constructor <;> rintro ⟨c, h1, h2⟩ <;> exact ⟨c, by rw [List.mem_append] at h1 ⊢; exact h1.symm, h2⟩
theorem put_same {F G : Int → List Cel} : ∀ t : List Cel, (∀ c ∈ t, c.k = 1 → F c.n = G c.n) → putF F t = putF G t
  | [], _ => rfl
  | c :: t, h => by
    have ih := put_same t fun d hd => h d (List.mem_cons_of_mem _ hd)
    by_cases hk : c.k = 1
    · rw [putF_var F hk, putF_var G hk, ih, h c List.mem_cons_self hk]
    · rw [putF_cell F hk, putF_cell G hk, ih]
theorem put_id : ∀ t : List Cel, (∀ c ∈ t, cellOk c = true) → ∀ F : Int → List Cel, (∀ c ∈ t, c.k = 1 → F c.n = [varC c.n]) → putF F t = t
  | [], _, _, _ => rfl
  | c :: t, hc, F, h => by
    have ih := put_id t (fun d hd => hc d (List.mem_cons_of_mem _ hd)) F fun d hd => h d (List.mem_cons_of_mem _ hd)
    by_cases hk : c.k = 1
    · rw [putF_var F hk, ih, h c List.mem_cons_self hk, ← cellOk_var (hc c List.mem_cons_self) hk]; rfl
    · rw [putF_cell F hk, ih]
/-- made a term everywhere -/
def full (F : Int → List Cel) (vs : List Int) (v : Int) : List Cel := if v ∈ vs then F v else [varC 0]
theorem full_at {F : Int → List Cel} {vs : List Int} {v : Int} (h : v ∈ vs) : full F vs v = F v := if_pos h
theorem isT_zero : IsT [varC 0] := by
  refine IsT_of_sk ?_
  simp [sk, varC, cellOk, ar, ByteArray.toList_eq]
theorem full_isT {F : Int → List Cel} {vs : List Int} (h : ∀ v ∈ vs, IsT (F v)) (v : Int) : IsT (full F vs v) := by
  unfold full; split
  · next hv => exact h v hv
  · exact isT_zero
theorem put_full {F : Int → List Cel} {vs : List Int} (t : List Cel) (h : ∀ c ∈ t, c.k = 1 → c.n ∈ vs) : putF (full F vs) t = putF F t :=
  put_same t fun c hc hk => full_at (h c hc hk)
theorem mem_both_l {a b : List Cel} {c : Cel} (hc : c ∈ a ++ b) (hk : c.k = 1) : c.n ∈ bothL a b := both_iff.2 ⟨c, hc, hk, rfl⟩
theorem put_len {F : Int → List Cel} : ∀ t : List Cel, (∀ c ∈ t, c.k = 1 → F c.n ≠ []) → t.length ≤ (putF F t).length := fun t h => (put_fix t h).1
theorem told_turn {a b : List Cel} (hok : ∀ c ∈ a ++ b, cellOk c = true) {F F' : Int → List Cel} (T : ToldF a b F) (T' : ToldF b a F') : ∀ v ∈ bothL a b, F v = F' v := by
  have hv' : ∀ v, v ∈ bothL a b ↔ v ∈ bothL b a := fun v => by rw [both_comm]
  have hw' : ∀ v ∈ bothL a b, ∀ c ∈ F' v, c ∈ a ++ b := fun v hv c hc => by
    have := T'.within v ((hv' v).1 hv) c hc
    rw [List.mem_append] at this ⊢; exact this.symm
  have ina : ∀ c ∈ a, c.k = 1 → c.n ∈ bothL a b := fun c hc hk => mem_both_l (List.mem_append.2 (.inl hc)) hk
  have inb : ∀ c ∈ b, c.k = 1 → c.n ∈ bothL a b := fun c hc hk => mem_both_l (List.mem_append.2 (.inr hc)) hk
  have m1 : ∀ v ∈ bothL a b, putF F (F' v) = F v := by
    intro v hv
    have h := T'.most (full F (bothL a b)) (full_isT T.isT) (by rw [put_full b inb, put_full a ina]; exact T.alike.symm) v ((hv' v).1 hv)
    rwa [put_full _ (fun c hc hk => mem_both_l (hw' v hv c hc) hk), full_at hv] at h
  have m2 : ∀ v ∈ bothL a b, putF F' (F v) = F' v := by
    intro v hv
    have ha' : ∀ c ∈ a, c.k = 1 → c.n ∈ bothL b a := fun c hc hk => (hv' _).1 (ina c hc hk)
    have hb' : ∀ c ∈ b, c.k = 1 → c.n ∈ bothL b a := fun c hc hk => (hv' _).1 (inb c hc hk)
    have h := T.most (full F' (bothL b a)) (full_isT T'.isT) (by rw [put_full a ha', put_full b hb']; exact T'.alike.symm) v hv
    rwa [put_full _ (fun c hc hk => (hv' _).1 (mem_both_l (T.within v hv c hc) hk)), full_at ((hv' v).1 hv)] at h
  intro v hv
  rw [← m2 v hv]
  -- F' leaves the variables of F v as they are
  symm
  refine put_id (F v) (fun c hc => hok c (T.within v hv c hc)) F' fun x hx hk => ?_
  have hxv := mem_both_l (T.within v hv x hx) hk
  have hFx : F x.n = [x] := (put_fix (F v) fun d hd hdk => (T.isT _ (mem_both_l (T.within v hv d hd) hdk)).ne).2 (T.twice v hv) x hx hk
  have hx0 := hok x (T.within v hv x hx)
  have e1 := m1 x.n hxv
  rw [hFx] at e1
  -- F' x is one variable
  have hl := put_len (F := F) (F' x.n) fun d hd hdk => (T.isT _ (mem_both_l (hw' x.n hxv d hd) hdk)).ne
  rw [e1] at hl
  have hne := (T'.isT x.n ((hv' _).1 hxv)).ne
  cases hF' : F' x.n with
  | nil => exact absurd hF' hne
  | cons y ys =>
    rw [hF'] at hl e1
    have hys : ys = [] := List.eq_nil_of_length_eq_zero (by simp only [List.length_cons, List.length_nil] at hl; omega)
    subst hys
    have hy0 := hok y (hw' x.n hxv y (by rw [hF']; exact List.mem_cons_self))
    by_cases hyk : y.k = 1
    · rw [putF_var F hyk] at e1
      have e1 : F y.n = [x] := by simpa [putF] using e1
      have hyv := mem_both_l (hw' x.n hxv y (by rw [hF']; exact List.mem_cons_self)) hyk
      have l1 := T.least y.n hyv x.n (by rw [e1, ← cellOk_var hx0 hk])
      have l2 := T'.least x.n ((hv' _).1 hxv) y.n (by rw [hF', ← cellOk_var hy0 hyk])
      have : x.n = y.n := by omega
      rw [cellOk_var hy0 hyk, this]
    · rw [putF_cell F hyk] at e1
      have : y = x := by injection e1
      rw [this] at hyk; exact absurd hk hyk
theorem mgu_turn {a b : List Cel} (ha : IsT a) (hb : IsT b) (hok : ∀ c ∈ a ++ b, cellOk c = true) : mguL a b = mguL b a := by
  rcases mgu_told ha hb with ⟨e, n⟩ | ⟨F, T, e⟩
  · rcases mgu_told hb ha with ⟨e', _⟩ | ⟨F', T', _⟩
    · rw [e, e']
    · exfalso
      have ha' : ∀ c ∈ a, c.k = 1 → c.n ∈ bothL b a := fun c hc hk => mem_both_l (List.mem_append.2 (.inr hc)) hk
      have hb' : ∀ c ∈ b, c.k = 1 → c.n ∈ bothL b a := fun c hc hk => mem_both_l (List.mem_append.2 (.inl hc)) hk
      exact n _ (full_isT T'.isT) (by rw [put_full a ha', put_full b hb']; exact T'.alike.symm)
  · rcases mgu_told hb ha with ⟨_, n⟩ | ⟨F', T', e'⟩
    · exfalso
      have ha' : ∀ c ∈ a, c.k = 1 → c.n ∈ bothL a b := fun c hc hk => mem_both_l (List.mem_append.2 (.inl hc)) hk
      have hb' : ∀ c ∈ b, c.k = 1 → c.n ∈ bothL a b := fun c hc hk => mem_both_l (List.mem_append.2 (.inr hc)) hk
      exact n _ (full_isT T.isT) (by rw [put_full a ha', put_full b hb']; exact T.alike.symm)
    · have h := told_turn hok T T'
      have e1 : (bothL a b).any (fun v => decide (200 < (F v).length)) = (bothL a b).any (fun v => decide (200 < (F' v).length)) := by
        rw [Bool.eq_iff_iff, List.any_eq_true, List.any_eq_true]
        constructor <;> rintro ⟨v, hv, h'⟩ <;> exact ⟨v, hv, by have := h v hv; first | rwa [← this] | rwa [this]⟩
      have e2 : bindL F (bothL a b) = bindL F' (bothL a b) := by
        have gen : ∀ vs : List Int, (∀ v ∈ vs, F v = F' v) → bindL F vs = bindL F' vs := by
          intro vs
          induction vs with
          | nil => intro _; rfl
          | cons w ws ih =>
            intro h
            unfold bindL at ih ⊢
            rw [List.flatMap_cons, List.flatMap_cons, ih fun v hv => h v (List.mem_cons_of_mem _ hv)]
            unfold bindC
            rw [h w List.mem_cons_self]
        exact gen _ h
      rw [e, e', e1, e2, ← both_comm a b]
end Go.Proofs.YtmmnfkggfnokjaaGreat

namespace Go.Proofs.YtmmnfkggfnokjaaGreat

/-! ### what the laws ask of Mgu's reckoning -/
/-- variables for themselves, where they may stand -/
def selfF (v : Int) : List Cel := if 0 ≤ v ∧ v ≤ 999 then [varC v] else [varC 0]
theorem isT_var {v : Int} (h0 : 0 ≤ v) (h9 : v ≤ 999) : IsT [varC v] := by
  refine IsT_of_sk ?_
  have : cellOk (varC v) = true := by simp [varC, cellOk, ByteArray.toList_eq, h0, h9]
  have h2 : ar (varC v) = 0 := if_neg (by simp [varC])
  rw [sk, if_pos this, h2]
  rfl
theorem self_isT (v : Int) : IsT (selfF v) := by
  unfold selfF; split
  · next h => exact isT_var h.1 h.2
  · exact isT_zero
theorem put_self (t : List Cel) (h : ∀ c ∈ t, cellOk c = true) : putF selfF t = t :=
  put_id t h selfF fun c hc hk => if_pos (var_range (h c hc) hk)
theorem isT_ok {t : List Cel} (h : IsT t) : ∀ c ∈ t, cellOk c = true := by
  have hG : Good t := fun i hi => sk_good t 1 [] h.reads i (by simpa using hi)
  intro c hc
  obtain ⟨i, hi, rfl⟩ := List.getElem_of_mem hc
  exact good_ok hG hi
theorem two_ok {a b : List Cel} (ha : IsT a) (hb : IsT b) : ∀ c ∈ a ++ b, cellOk c = true := fun c hc => by
  rcases List.mem_append.1 hc with h | h
  · exact isT_ok ha c h
  · exact isT_ok hb c h
/-- where the two are the same there is nothing to put in -/
theorem mgu_self {a : List Cel} (ha : IsT a) : mguL a a = some (some []) := by
  rcases mgu_told ha ha with ⟨_, n⟩ | ⟨F, T, e⟩
  · exact absurd rfl (n selfF self_isT)
  · have hF : ∀ v ∈ bothL a a, F v = [varC v] := by
      intro v hv
      have h := T.most selfF self_isT rfl v hv
      rw [put_self (F v) (fun c hc => two_ok ha ha c (T.within v hv c hc))] at h
      obtain ⟨c, h1, h2, h3⟩ := both_iff.1 hv
      have := var_range (two_ok ha ha c h1) h2
      rw [h]; unfold selfF; rw [if_pos (by omega)]
    have e1 : (bothL a a).any (fun v => decide (200 < (F v).length)) = false := by
      rw [List.any_eq_false]
      intro v hv
      rw [hF v hv]; simp
    have e2 : ∀ vs : List Int, (∀ v ∈ vs, F v = [varC v]) → bindL F vs = [] := by
      intro vs
      induction vs with
      | nil => intro _; rfl
      | cons w ws ih =>
        intro h
        unfold bindL at ih ⊢
        rw [List.flatMap_cons, ih fun v hv => h v (List.mem_cons_of_mem _ hv)]
        unfold bindC
        rw [h w List.mem_cons_self, if_pos (by rfl)]; rfl
    rw [e, e1, e2 _ hF]; rfl
/-- of a term and one that is deeper by a name around it there is none -/
theorem mgu_deep {a : List Cel} {f : Cel} (ha : IsT a) (hf : IsT (f :: a)) (hk : f.k ≠ 1) : mguL a (f :: a) = none := by
  rcases mgu_told ha hf with ⟨e, _⟩ | ⟨F, T, _⟩
  · exact e
  · exfalso
    have h := congrArg List.length T.alike
    rw [putF_cell F hk, List.length_cons] at h
    omega
theorem look_in {s : List Bnd} {n : Int} {t : List Cel} (h : look s n = some t) : ⟨n, t⟩ ∈ s := by
  unfold look at h
  rw [Option.map_eq_some_iff] at h
  obtain ⟨b, h1, h2⟩ := h
  have hm := List.mem_of_find?_eq_some h1
  have hp := List.find?_some h1
  have hp : b.v = n := by simpa using hp
  subst hp; subst h2
  exact hm
/-- what is told, in the bindings' own words -/
theorem mgu_alike {a b : List Cel} (ha : IsT a) (hb : IsT b) {B : List Bnd} (e : mguL a b = some (some B)) :
    rightS B = true ∧ idemB B = true ∧ putL (look B) a = putL (look B) b ∧ ∀ x ∈ B, x.v ∈ bothL a b := by
  rcases mgu_told ha hb with ⟨e', _⟩ | ⟨F, T, e'⟩
  · rw [e'] at e; cases e
  · rw [e'] at e
    injection e with e
    split at e
    · cases e
    · next hany =>
      injection e with e
      subst e
      have hany : ∀ v ∈ bothL a b, (F v).length ≤ 200 := fun v hv => by
        have h : (bothL a b).any (fun v => decide (200 < (F v).length)) = false := by simpa using hany
        rw [List.any_eq_false] at h
        have := h v hv
        simp at this; omega
      have hok := two_ok ha hb
      have hrange : ∀ v ∈ bothL a b, 0 ≤ v ∧ v ≤ 999 := fun v hv => by
        obtain ⟨c, h1, h2, rfl⟩ := both_iff.1 hv
        exact var_range (hok c h1) h2
      refine ⟨right_bind _ 0 (rise_up _) hrange fun v hv => ⟨T.isT v hv, hany v hv⟩, idem_bind T.isT T.twice fun v hv c hc hk => ⟨mem_both_l (T.within v hv c hc) hk, hok c (T.within v hv c hc)⟩, ?_, fun x hx => ?_⟩
      · rw [put_bind T.isT a (fun c hc => isT_ok ha c hc) (fun c hc hk => mem_both_l (List.mem_append.2 (.inl hc)) hk), put_bind T.isT b (fun c hc => isT_ok hb c hc) (fun c hc hk => mem_both_l (List.mem_append.2 (.inr hc)) hk)]
        exact T.alike
      · obtain ⟨v, hv, hx⟩ := List.mem_flatMap.1 hx
        unfold bindC at hx
        split at hx
        · cases hx
        · rw [List.mem_singleton.1 hx]; exact hv
/-- none, or too big: the two are not the same -/
theorem mgu_not {a b : List Cel} (ha : IsT a) (e : ∀ B, mguL a b ≠ some (some B)) : a ≠ b := by
  rintro rfl
  exact e [] (mgu_self ha)
/-- whatever makes the same: something is told, or it is too big; and put in first it changes nothing -/
theorem mgu_most {a b : List Cel} (ha : IsT a) (hb : IsT b) {G : Int → List Cel} (hT : ∀ v, IsT (G v)) (eG : putF G a = putF G b) :
    mguL a b = some none ∨ ∃ B, mguL a b = some (some B) ∧ ∀ x ∈ B, putF G x.t = G x.v := by
  rcases mgu_told ha hb with ⟨_, n⟩ | ⟨F, T, e'⟩
  · exact absurd eG (n G hT)
  · rw [e']
    split
    · exact .inl rfl
    · refine .inr ⟨_, rfl, fun x hx => ?_⟩
      obtain ⟨v, hv, hx⟩ := List.mem_flatMap.1 hx
      unfold bindC at hx
      split at hx
      · cases hx
      · rw [List.mem_singleton.1 hx]; exact T.most G hT eG v hv
/-- a right term stands alone: what has no variable to put in stays -/
theorem put_ground {t : List Cel} (h : ∀ c ∈ t, c.k ≠ 1) (F : Int → List Cel) : putF F t = t := by
  induction t with
  | nil => rfl
  | cons c t ih => rw [putF_cell F (h c List.mem_cons_self), ih fun d hd => h d (List.mem_cons_of_mem _ hd)]
/-- against a term without variables: what is told is all that it takes: each variable's term has none -/
theorem mgu_ground {a b : List Cel} (ha : IsT a) (hb : IsT b) (hg : ∀ c ∈ b, c.k ≠ 1) {G : Int → List Cel} (hT : ∀ v, IsT (G v)) (eG : putF G a = b) :
    mguL a b = some (if (bothL a b).any (fun v => decide (200 < (G v).length)) then none else some (bindL G (bothL a b))) := by
  have eG' : putF G a = putF G b := by rw [put_ground hg, eG]
  rcases mgu_told ha hb with ⟨_, n⟩ | ⟨F, T, e⟩
  · exact absurd eG' (n G hT)
  · -- F makes of a what stands in b, so F is G
    have hFa : putF F a = putF G a := by rw [T.alike, put_ground hg, eG]
    have same : ∀ (k : Nat) (t : List Cel), t.length ≤ k → (∀ c ∈ t, c.k = 1 → c.n ∈ bothL a b) → putF F t = putF G t → ∀ c ∈ t, c.k = 1 → F c.n = G c.n := by
      intro k
      induction k with
      | zero => intro t ht _ _ c hc; have : t = [] := List.eq_nil_of_length_eq_zero (by omega); subst this; cases hc
      | succ k ih =>
        intro t ht hv et c hc hk
        cases t with
        | nil => cases hc
        | cons d t =>
          have hv' : ∀ c ∈ t, c.k = 1 → c.n ∈ bothL a b := fun c hc => hv c (List.mem_cons_of_mem _ hc)
          by_cases hd : d.k = 1
          · rw [putF_var F hd, putF_var G hd] at et
            obtain ⟨e1, e2⟩ := (T.isT _ (hv d List.mem_cons_self hd)).inj (hT d.n) et
            rcases List.mem_cons.1 hc with rfl | hc
            · exact e1
            · exact ih t (by simpa using ht) hv' e2 c hc hk
          · rw [putF_cell F hd, putF_cell G hd, List.cons.injEq] at et
            rcases List.mem_cons.1 hc with rfl | hc
            · exact absurd hk hd
            · exact ih t (by simpa using ht) hv' et.2 c hc hk
    have hFG : ∀ v ∈ bothL a b, F v = G v := by
      intro v hv
      obtain ⟨c, h1, h2, rfl⟩ := both_iff.1 hv
      rcases List.mem_append.1 h1 with h1 | h1
      · exact same _ a (Nat.le_refl _) (fun c hc hk => mem_both_l (List.mem_append.2 (.inl hc)) hk) hFa c h1 h2
      · exact absurd h2 (hg c h1)
    have e1 : (bothL a b).any (fun v => decide (200 < (F v).length)) = (bothL a b).any (fun v => decide (200 < (G v).length)) := by
      rw [Bool.eq_iff_iff, List.any_eq_true, List.any_eq_true]
      constructor <;> rintro ⟨v, hv, h'⟩ <;> exact ⟨v, hv, by have := hFG v hv; first | rwa [← this] | rwa [this]⟩
    have gen : ∀ vs : List Int, (∀ v ∈ vs, F v = G v) → bindL F vs = bindL G vs := by
      intro vs
      induction vs with
      | nil => intro _; rfl
      | cons w ws ih =>
        intro h
        unfold bindL at ih ⊢
        rw [List.flatMap_cons, List.flatMap_cons, ih fun v hv => h v (List.mem_cons_of_mem _ hv)]
        unfold bindC
        rw [h w List.mem_cons_self]
    rw [e, e1, gen _ hFG]
end Go.Proofs.YtmmnfkggfnokjaaGreat
namespace Go.Proofs.YtmmnfkggfnokjaaGreat
open Go.RowKit

theorem isT_deep {a : List Cel} (ha : IsT a) : IsT (fnC 1 :: a) := by
  intro m rest
  have h : cellOk (fnC 1) = true := by decide +kernel
  rw [List.cons_append]
  simp only [sk, h, if_true]
  have h1 : ar (fnC 1) = 1 := by decide +kernel
  rw [h1]
  exact ha m rest
theorem right_deep {a : List Cel} (h : rightB a = true) (hl : a.length ≤ 30) : rightB (fnC 1 :: a) = true := by
  have h1 := isT_deep (isT_of_right h).1 0 []
  rw [List.append_nil, sk_zero] at h1
  unfold rightB endI
  rw [List.drop_zero, h1]
  simp
  omega
def ansL : Option (Option (List Bnd)) → List Bnd
  | some (some L) => L
  | _ => []
def ansE : Option (Option (List Bnd)) → Int
  | none => 3
  | some none => 2
  | some (some _) => 0
theorem row_none {α : Type} [Rep α] (w : World) : Row w none 0 ([] : List α) := Row.empty w none 0 (by omega) (fun _ => rfl)
end Go.Proofs.YtmmnfkggfnokjaaGreat

namespace Go.Proofs.YtmmnfkggfnokjaaGreat

/-! ### what is told is told once; first parts first -/
theorem ToldF.symm {a b : List Cel} {F : Int → List Cel} (T : ToldF a b F) : ToldF b a F := by
  have e : bothL b a = bothL a b := both_comm b a
  exact ⟨T.alike.symm, by rw [e]; exact T.isT, by
    rw [e]; intro v hv c hc
    have := T.within v hv c hc
    rw [List.mem_append] at this ⊢; exact this.symm, by rw [e]; exact T.twice, by
    rw [e]; intro G hT eG; exact T.most G hT eG.symm, by rw [e]; exact T.least⟩
theorem told_once {a b : List Cel} (ha : IsT a) (hb : IsT b) {F F' : Int → List Cel} (T : ToldF a b F) (T' : ToldF a b F') : ∀ v ∈ bothL a b, F v = F' v :=
  told_turn (two_ok ha hb) T T'.symm
theorem bind_congr {F F' : Int → List Cel} : ∀ vs : List Int, (∀ v ∈ vs, F v = F' v) → bindL F vs = bindL F' vs
  | [], _ => rfl
  | w :: ws, h => by
    have ih := bind_congr ws fun v hv => h v (List.mem_cons_of_mem _ hv)
    unfold bindL at ih ⊢
    rw [List.flatMap_cons, List.flatMap_cons, ih]
    unfold bindC
    rw [h w List.mem_cons_self]
/-- whatever has the told properties is what is told -/
theorem mgu_is {a b : List Cel} (ha : IsT a) (hb : IsT b) {F : Int → List Cel} (T : ToldF a b F) :
    mguL a b = some (if (bothL a b).any (fun v => decide (200 < (F v).length)) then none else some (bindL F (bothL a b))) := by
  rcases mgu_told ha hb with ⟨_, n⟩ | ⟨F', T', e⟩
  · exfalso
    have ina : ∀ c ∈ a, c.k = 1 → c.n ∈ bothL a b := fun c hc hk => mem_both_l (List.mem_append.2 (.inl hc)) hk
    have inb : ∀ c ∈ b, c.k = 1 → c.n ∈ bothL a b := fun c hc hk => mem_both_l (List.mem_append.2 (.inr hc)) hk
    exact n _ (full_isT T.isT) (by rw [put_full a ina, put_full b inb]; exact T.alike)
  · have h := told_once ha hb T' T
    have e1 : (bothL a b).any (fun v => decide (200 < (F' v).length)) = (bothL a b).any (fun v => decide (200 < (F v).length)) := by
      rw [Bool.eq_iff_iff, List.any_eq_true, List.any_eq_true]
      constructor <;> rintro ⟨v, hv, h'⟩ <;> exact ⟨v, hv, by have := h v hv; first | rwa [← this] | rwa [this]⟩
    rw [e, e1, bind_congr _ h]
/-- one after the other -/
theorem put_put (F G : Int → List Cel) : ∀ t : List Cel, putF G (putF F t) = putF (fun v => putF G (F v)) t
  | [] => rfl
  | c :: t => by
    by_cases hk : c.k = 1
    · rw [putF_var F hk, putF_append, put_put F G t, putF_var _ hk]
    · rw [putF_cell F hk, putF_cell G hk, put_put F G t, putF_cell _ hk]
/-- as told, and variables of neither for themselves -/
def ext (F : Int → List Cel) (vs : List Int) (v : Int) : List Cel := if v ∈ vs then F v else [varC v]
theorem ext_at {F : Int → List Cel} {vs : List Int} {v : Int} (h : v ∈ vs) : ext F vs v = F v := if_pos h
theorem ext_not {F : Int → List Cel} {vs : List Int} {v : Int} (h : v ∉ vs) : ext F vs v = [varC v] := if_neg h
theorem put_ext {F : Int → List Cel} {vs : List Int} (t : List Cel) (h : ∀ c ∈ t, c.k = 1 → c.n ∈ vs) : putF (ext F vs) t = putF F t :=
  put_same t fun c hc hk => ext_at (h c hc hk)
theorem put_one (F : Int → List Cel) (v : Int) : putF F [varC v] = F v := by rw [putF_var F (by rfl)]; simp [putF, varC]
theorem put_cells {F : Int → List Cel} {t : List Cel} {c : Cel} (h : c ∈ putF F t) : (c ∈ t ∧ c.k ≠ 1) ∨ ∃ d ∈ t, d.k = 1 ∧ c ∈ F d.n := by
  unfold putF at h
  obtain ⟨d, h1, h2⟩ := List.mem_flatMap.1 h
  split at h2
  · next hk => exact .inr ⟨d, h1, hk, h2⟩
  · next hk => rw [List.mem_singleton.1 h2]; exact .inl ⟨h1, hk⟩
theorem put_isT2 {F : Int → List Cel} {t : List Cel} (ht : IsT t) (h : ∀ c ∈ t, c.k = 1 → IsT (F c.n)) : IsT (putF F t) := by
  have hG : Good t := fun i hi => sk_good t 1 [] ht.reads i (by simpa using hi)
  have hs : subL t 0 = t := by have := sub_first (b := []) ht; rwa [List.append_nil] at this
  have e : putF F t = putF (full F (varsL t)) (subL t 0) := by
    rw [hs]
    exact put_same t fun c hc hk => (full_at (varsL_iff.2 ⟨c, hc, hk, rfl⟩)).symm
  rw [e]
  exact put_isT hG (full_isT fun v hv => by obtain ⟨c, h1, h2, rfl⟩ := varsL_iff.1 hv; exact h c h1 h2) t.length 0 (List.length_pos_iff.2 ht.ne) (by omega)
section
variable {a1 a2 b1 b2 : List Cel} {c : Cel} {F1 F2 : Int → List Cel}
/-- both, one after the other -/
def seqF (F1 F2 : Int → List Cel) (u1 u2 : List Int) (v : Int) : List Cel := putF (ext F2 u2) (ext F1 u1 v)
theorem told_seq (ha1 : IsT a1) (ha2 : IsT a2) (hb1 : IsT b1) (hb2 : IsT b2) (hc : cellOk c = true) (hk : c.k ≠ 1) (har : ar c = 2)
    (T1 : ToldF a1 b1 F1) (T2 : ToldF (putF (ext F1 (bothL a1 b1)) a2) (putF (ext F1 (bothL a1 b1)) b2) F2) :
    ToldF (c :: (a1 ++ a2)) (c :: (b1 ++ b2)) (seqF F1 F2 (bothL a1 b1) (bothL (putF (ext F1 (bothL a1 b1)) a2) (putF (ext F1 (bothL a1 b1)) b2))) := by
  generalize hE1 : ext F1 (bothL a1 b1) = E1 at T2 ⊢
  generalize hU2 : bothL (putF E1 a2) (putF E1 b2) = U2 at ⊢
  generalize hE2 : ext F2 U2 = E2
  have hseq : ∀ v, seqF F1 F2 (bothL a1 b1) U2 v = putF E2 (E1 v) := fun v => by unfold seqF; rw [hE1, hE2]
  have ok1 := two_ok ha1 hb1
  have ok2 := two_ok ha2 hb2
  have okAll : ∀ d ∈ (c :: (a1 ++ a2)) ++ (c :: (b1 ++ b2)), cellOk d = true := by
    intro d hd
    simp only [List.mem_append, List.mem_cons] at hd
    rcases hd with (rfl | h | h) | (rfl | h | h)
    · exact hc
    · exact isT_ok ha1 d h
    · exact isT_ok ha2 d h
    · exact hc
    · exact isT_ok hb1 d h
    · exact isT_ok hb2 d h
  -- where the variables stand
  have inAll : ∀ d, (d ∈ a1 ∨ d ∈ a2 ∨ d ∈ b1 ∨ d ∈ b2) → d ∈ (c :: (a1 ++ a2)) ++ (c :: (b1 ++ b2)) := by
    intro d h
    simp only [List.mem_append, List.mem_cons]
    rcases h with h | h | h | h
    · exact .inl (.inr (.inl h))
    · exact .inl (.inr (.inr h))
    · exact .inr (.inr (.inl h))
    · exact .inr (.inr (.inr h))
  have in1 : ∀ d ∈ a1 ++ b1, d ∈ (c :: (a1 ++ a2)) ++ (c :: (b1 ++ b2)) := fun d hd => inAll d ((List.mem_append.1 hd).elim .inl fun h => .inr (.inr (.inl h)))
  have in2 : ∀ d ∈ a2 ++ b2, d ∈ (c :: (a1 ++ a2)) ++ (c :: (b1 ++ b2)) := fun d hd => inAll d ((List.mem_append.1 hd).elim (fun h => .inr (.inl h)) fun h => .inr (.inr (.inr h)))
  -- E1: of each variable of the whole a term of cells of the whole, whose variables it leaves as they are
  have e1 : ∀ d ∈ (c :: (a1 ++ a2)) ++ (c :: (b1 ++ b2)), d.k = 1 → IsT (E1 d.n) ∧ (∀ x ∈ E1 d.n, x ∈ (c :: (a1 ++ a2)) ++ (c :: (b1 ++ b2))) ∧ (∀ x ∈ E1 d.n, x.k = 1 → E1 x.n = [varC x.n]) := by
    intro d hd hdk
    have hr := var_range (okAll d hd) hdk
    rw [← hE1]
    by_cases h : d.n ∈ bothL a1 b1
    · rw [ext_at h]
      refine ⟨T1.isT _ h, fun x hx => in1 x (T1.within _ h x hx), fun x hx hxk => ?_⟩
      have hxv := mem_both_l (T1.within _ h x hx) hxk
      rw [ext_at hxv, (put_fix (F1 d.n) fun y hy hyk => (T1.isT _ (mem_both_l (T1.within _ h y hy) hyk)).ne).2 (T1.twice _ h) x hx hxk]
      rw [← cellOk_var (ok1 x (T1.within _ h x hx)) hxk]
    · rw [ext_not h]
      refine ⟨isT_var hr.1 hr.2, fun x hx => ?_, fun x hx _ => ?_⟩
      · rw [List.mem_singleton.1 hx, ← cellOk_var (okAll d hd) hdk]; exact hd
      · rw [List.mem_singleton.1 hx]; exact ext_not h
  -- the second pair's cells are cells of the whole, and E1 leaves their variables
  have e2 : ∀ x ∈ putF E1 a2 ++ putF E1 b2, x ∈ (c :: (a1 ++ a2)) ++ (c :: (b1 ++ b2)) ∧ (x.k = 1 → E1 x.n = [varC x.n]) := by
    intro x hx
    have key : ∀ t : List Cel, (∀ d ∈ t, d ∈ a2 ++ b2) → x ∈ putF E1 t → x ∈ (c :: (a1 ++ a2)) ++ (c :: (b1 ++ b2)) ∧ (x.k = 1 → E1 x.n = [varC x.n]) := by
      intro t ht hx
      rcases put_cells hx with ⟨h1, h2⟩ | ⟨d, h1, h2, h3⟩
      · exact ⟨in2 x (ht x h1), fun e => absurd e h2⟩
      · have := e1 d (in2 d (ht d h1)) h2
        exact ⟨this.2.1 x h3, this.2.2 x h3⟩
    rcases List.mem_append.1 hx with h | h
    · exact key a2 (fun d hd => List.mem_append.2 (.inl hd)) h
    · exact key b2 (fun d hd => List.mem_append.2 (.inr hd)) h
  -- E2: the same, of each variable of the whole
  have e3 : ∀ d ∈ (c :: (a1 ++ a2)) ++ (c :: (b1 ++ b2)), d.k = 1 → IsT (E2 d.n) ∧ (∀ x ∈ E2 d.n, x ∈ (c :: (a1 ++ a2)) ++ (c :: (b1 ++ b2))) ∧ (∀ x ∈ E2 d.n, x.k = 1 → E2 x.n = [varC x.n] ∧ (E1 d.n = [varC d.n] → E1 x.n = [varC x.n])) := by
    intro d hd hdk
    have hr := var_range (okAll d hd) hdk
    rw [← hE2]
    by_cases h : d.n ∈ U2
    · rw [ext_at h]
      rw [← hU2] at h
      have hw := fun x (hx : x ∈ F2 d.n) => e2 x (T2.within _ h x hx)
      refine ⟨T2.isT _ h, fun x hx => (hw x hx).1, fun x hx hxk => ⟨?_, fun _ => (hw x hx).2 hxk⟩⟩
      have hxv := mem_both_l (T2.within _ h x hx) hxk
      have hx1 := (put_fix (F2 d.n) fun y hy hyk => (T2.isT _ (mem_both_l (T2.within _ h y hy) hyk)).ne).2 (T2.twice _ h) x hx hxk
      rw [ext_at (by rw [← hU2]; exact hxv), hx1, ← cellOk_var (okAll x (hw x hx).1) hxk]
    · rw [ext_not h]
      refine ⟨isT_var hr.1 hr.2, fun x hx => ?_, fun x hx _ => ?_⟩
      · rw [List.mem_singleton.1 hx, ← cellOk_var (okAll d hd) hdk]; exact hd
      · rw [List.mem_singleton.1 hx]; exact ⟨ext_not h, fun e => e⟩
  have ofv : ∀ v ∈ bothL (c :: (a1 ++ a2)) (c :: (b1 ++ b2)), ∃ d ∈ (c :: (a1 ++ a2)) ++ (c :: (b1 ++ b2)), d.k = 1 ∧ d.n = v := fun v hv => both_iff.1 hv
  have a1in : ∀ d ∈ a1, d.k = 1 → d.n ∈ bothL a1 b1 := fun d hd hk => mem_both_l (List.mem_append.2 (.inl hd)) hk
  have b1in : ∀ d ∈ b1, d.k = 1 → d.n ∈ bothL a1 b1 := fun d hd hk => mem_both_l (List.mem_append.2 (.inr hd)) hk
  have hcomp : ∀ t : List Cel, putF (seqF F1 F2 (bothL a1 b1) U2) t = putF E2 (putF E1 t) := fun t => by
    rw [put_put]
    exact put_same t fun d _ _ => hseq d.n
  refine ⟨?_, fun v hv => ?_, fun v hv x hx => ?_, fun v hv => ?_, fun G hT eG v hv => ?_, fun v hv w hw => ?_⟩
  · rw [hcomp, hcomp, putF_cell E1 hk, putF_cell E1 hk, putF_append, putF_append, putF_cell E2 hk, putF_cell E2 hk, putF_append, putF_append]
    have h1 : putF E1 a1 = putF E1 b1 := by rw [← hE1, put_ext a1 a1in, put_ext b1 b1in]; exact T1.alike
    have h2 : putF E2 (putF E1 a2) = putF E2 (putF E1 b2) := by
      rw [← hE2, ← hU2, put_ext _ (fun d hd hk => mem_both_l (List.mem_append.2 (.inl hd)) hk), put_ext _ (fun d hd hk => mem_both_l (List.mem_append.2 (.inr hd)) hk)]
      exact T2.alike
    rw [h1, h2]
  · obtain ⟨d, hd, hdk, rfl⟩ := ofv v hv
    rw [hseq]
    have h := e1 d hd hdk
    exact put_isT2 h.1 fun x hx hxk => (e3 x (h.2.1 x hx) hxk).1
  · obtain ⟨d, hd, hdk, rfl⟩ := ofv v hv
    rw [hseq] at hx
    have h := e1 d hd hdk
    rcases put_cells hx with ⟨h1, _⟩ | ⟨y, h1, h2, h3⟩
    · exact h.2.1 x h1
    · exact (e3 y (h.2.1 y h1) h2).2.1 x h3
  · obtain ⟨d, hd, hdk, rfl⟩ := ofv v hv
    rw [hseq, hcomp]
    have h := e1 d hd hdk
    have fix : ∀ x ∈ putF E2 (E1 d.n), x ∈ (c :: (a1 ++ a2)) ++ (c :: (b1 ++ b2)) ∧ (x.k = 1 → E1 x.n = [varC x.n] ∧ E2 x.n = [varC x.n]) := by
      intro x hx
      rcases put_cells hx with ⟨h1, h2⟩ | ⟨y, h1, h2, h3⟩
      · exact ⟨h.2.1 x h1, fun e => absurd e h2⟩
      · have h4 := e3 y (h.2.1 y h1) h2
        refine ⟨h4.2.1 x h3, fun hxk => ?_⟩
        have h5 := h4.2.2 x h3 hxk
        exact ⟨h5.2 (h.2.2 y h1 h2), h5.1⟩
    rw [put_id _ (fun x hx => okAll x (fix x hx).1) E1 (fun x hx hxk => ((fix x hx).2 hxk).1), put_id _ (fun x hx => okAll x (fix x hx).1) E2 (fun x hx hxk => ((fix x hx).2 hxk).2)]
  · -- whatever makes alike the whole, makes alike the first parts, then the second ones
    have hG1 : putF G a1 = putF G b1 ∧ putF G a2 = putF G b2 := by
      rw [putF_cell G hk, putF_cell G hk, putF_append, putF_append, List.cons.injEq] at eG
      exact (put_isT2 ha1 fun _ _ _ => hT _).inj (put_isT2 hb1 fun _ _ _ => hT _) eG.2
    have g1 : ∀ d ∈ (c :: (a1 ++ a2)) ++ (c :: (b1 ++ b2)), d.k = 1 → putF G (E1 d.n) = G d.n := by
      intro d _ _
      rw [← hE1]
      by_cases h : d.n ∈ bothL a1 b1
      · rw [ext_at h]; exact T1.most G hT hG1.1 _ h
      · rw [ext_not h, put_one]
    have g2 : ∀ t : List Cel, (∀ d ∈ t, d ∈ a2 ++ b2) → putF G (putF E1 t) = putF G t := by
      intro t ht
      rw [put_put]
      exact put_same t fun d hd hdk => g1 d (in2 d (ht d hd)) hdk
    have g3 : ∀ u, putF G (E2 u) = G u := by
      intro u
      rw [← hE2]
      by_cases h : u ∈ U2
      · rw [ext_at h]
        rw [← hU2] at h
        refine T2.most G hT ?_ _ h
        rw [g2 a2 (fun d hd => List.mem_append.2 (.inl hd)), g2 b2 (fun d hd => List.mem_append.2 (.inr hd))]
        exact hG1.2
      · rw [ext_not h, put_one]
    obtain ⟨d, hd, hdk, rfl⟩ := ofv v hv
    rw [hseq, put_put, put_same (G := G) (E1 d.n) fun x _ _ => g3 x.n]
    exact g1 d hd hdk
  · obtain ⟨d, hd, hdk, rfl⟩ := ofv v hv
    rw [hseq] at hw
    have h := e1 d hd hdk
    have hl := put_len (F := E2) (E1 d.n) fun x hx hxk => (e3 x (h.2.1 x hx) hxk).1.ne
    rw [hw] at hl
    cases hE : E1 d.n with
    | nil => exact absurd hE h.1.ne
    | cons y ys =>
      have hys : ys = [] := List.eq_nil_of_length_eq_zero (by rw [hE] at hl; simp only [List.length_cons, List.length_nil] at hl; omega)
      subst hys
      have hy := h.2.1 y (by rw [hE]; exact List.mem_cons_self)
      rw [hE] at hw
      by_cases hyk : y.k = 1
      · rw [putF_var E2 hyk] at hw
        have hw : E2 y.n = [varC w] := by simpa [putF] using hw
        have hyv := cellOk_var (okAll y hy) hyk
        have l1 : y.n ≤ d.n := by
          rw [← hE1] at hE
          by_cases hm : d.n ∈ bothL a1 b1
          · rw [ext_at hm] at hE
            exact T1.least _ hm _ (by rw [hE, ← hyv])
          · rw [ext_not hm] at hE
            injection hE with hE
            rw [← hE]; exact Int.le_refl _
        have l2 : w ≤ y.n := by
          rw [← hE2] at hw
          by_cases hm : y.n ∈ U2
          · rw [ext_at hm] at hw
            rw [← hU2] at hm
            exact T2.least _ hm _ hw
          · rw [ext_not hm] at hw
            injection hw with hw
            have : y.n = w := congrArg Cel.n hw
            omega
        omega
      · rw [putF_cell E2 hyk] at hw
        injection hw with hw
        rw [hw] at hyk
        exact absurd rfl hyk
end
end Go.Proofs.YtmmnfkggfnokjaaGreat

namespace Go.Proofs.YtmmnfkggfnokjaaGreat

/-! ### parts: where there is none; how long -/
section
variable {a1 a2 b1 b2 : List Cel} {c : Cel}
theorem whole_parts (hk : c.k ≠ 1) (ha1 : IsT a1) (hb1 : IsT b1) {G : Int → List Cel} (hT : ∀ v, IsT (G v)) (e : putF G (c :: (a1 ++ a2)) = putF G (c :: (b1 ++ b2))) : putF G a1 = putF G b1 ∧ putF G a2 = putF G b2 := by
  rw [putF_cell G hk, putF_cell G hk, putF_append, putF_append, List.cons.injEq] at e
  exact (put_isT2 ha1 fun _ _ _ => hT _).inj (put_isT2 hb1 fun _ _ _ => hT _) e.2
/-- what is told of a pair makes it alike, as terms everywhere -/
theorem told_full {a b : List Cel} {F : Int → List Cel} (T : ToldF a b F) : (∀ v, IsT (full F (bothL a b) v)) ∧ putF (full F (bothL a b)) a = putF (full F (bothL a b)) b :=
  ⟨full_isT T.isT, by
    rw [put_full a (fun d hd hk => mem_both_l (List.mem_append.2 (.inl hd)) hk), put_full b (fun d hd hk => mem_both_l (List.mem_append.2 (.inr hd)) hk)]
    exact T.alike⟩
/-- none of the first parts: none of the whole -/
theorem parts_none1 (hA : IsT (c :: (a1 ++ a2))) (hB : IsT (c :: (b1 ++ b2))) (hk : c.k ≠ 1) (ha1 : IsT a1) (hb1 : IsT b1) (e : mguL a1 b1 = none) : mguL (c :: (a1 ++ a2)) (c :: (b1 ++ b2)) = none := by
  rcases mgu_told hA hB with ⟨e', _⟩ | ⟨F, T, _⟩
  · exact e'
  · exfalso
    obtain ⟨hT, eq⟩ := told_full T
    rcases mgu_most ha1 hb1 hT (whole_parts hk ha1 hb1 hT eq).1 with h | ⟨B, h, _⟩ <;> rw [e] at h <;> cases h
/-- none of the second parts, with that put in: none of the whole -/
theorem parts_none2 (hA : IsT (c :: (a1 ++ a2))) (hB : IsT (c :: (b1 ++ b2))) (hk : c.k ≠ 1) (ha1 : IsT a1) (hb1 : IsT b1) {F1 : Int → List Cel} (T1 : ToldF a1 b1 F1)
    (h2 : IsT (putF (ext F1 (bothL a1 b1)) a2)) (h3 : IsT (putF (ext F1 (bothL a1 b1)) b2)) (e : mguL (putF (ext F1 (bothL a1 b1)) a2) (putF (ext F1 (bothL a1 b1)) b2) = none) : mguL (c :: (a1 ++ a2)) (c :: (b1 ++ b2)) = none := by
  rcases mgu_told hA hB with ⟨e', _⟩ | ⟨F, T, _⟩
  · exact e'
  · exfalso
    obtain ⟨hT, eq⟩ := told_full T
    obtain ⟨p1, p2⟩ := whole_parts hk ha1 hb1 hT eq
    have g1 : ∀ t : List Cel, putF (full F (bothL (c :: (a1 ++ a2)) (c :: (b1 ++ b2)))) (putF (ext F1 (bothL a1 b1)) t) = putF (full F (bothL (c :: (a1 ++ a2)) (c :: (b1 ++ b2)))) t := by
      intro t
      rw [put_put]
      refine put_same t fun d _ _ => ?_
      by_cases h : d.n ∈ bothL a1 b1
      · rw [ext_at h]; exact T1.most _ hT p1 _ h
      · rw [ext_not h, put_one]
    rcases mgu_most h2 h3 hT (by rw [g1, g1]; exact p2) with h | ⟨B, h, _⟩ <;> rw [e] at h <;> cases h
/-- one after the other is no shorter than the first -/
theorem seq_len {F1 F2 : Int → List Cel} {u1 u2 : List Int} (h2 : ∀ v ∈ u2, IsT (F2 v)) {v : Int} (hv : v ∈ u1) : (F1 v).length ≤ (seqF F1 F2 u1 u2 v).length := by
  unfold seqF
  rw [ext_at hv]
  refine put_len (F1 v) fun d _ _ => ?_
  by_cases h : d.n ∈ u2
  · rw [ext_at h]; exact (h2 _ h).ne
  · rw [ext_not h]; simp
end
/-! ### instances of each other -/
/-- what goes there and back is a renaming -/
theorem back_ren {F G : Int → List Cel} : ∀ b : List Cel, (∀ c ∈ b, cellOk c = true) → (∀ c ∈ b, c.k = 1 → F c.n ≠ []) → (∀ c ∈ putF F b, cellOk c = true) → (∀ c ∈ putF F b, c.k = 1 → G c.n ≠ []) → putF G (putF F b) = b →
    ∀ c ∈ b, c.k = 1 → ∃ w, F c.n = [varC w] ∧ G w = [varC c.n]
  | [], _, _, _, _, _, c, hc, _ => by cases hc
  | c :: b, h1, h2, h3, h4, e, x, hx, hxk => by
    have h1' : ∀ c ∈ b, cellOk c = true := fun d hd => h1 d (List.mem_cons_of_mem _ hd)
    have h2' : ∀ c ∈ b, c.k = 1 → F c.n ≠ [] := fun d hd => h2 d (List.mem_cons_of_mem _ hd)
    have l1 := put_len (F := F) b h2'
    by_cases hk : c.k = 1
    · rw [putF_var F hk] at h3 h4 e
      rw [putF_append] at e
      have h3' : ∀ d ∈ putF F b, cellOk d = true := fun d hd => h3 d (List.mem_append.2 (.inr hd))
      have h4' : ∀ d ∈ putF F b, d.k = 1 → G d.n ≠ [] := fun d hd => h4 d (List.mem_append.2 (.inr hd))
      have l2 := put_len (F := G) (putF F b) h4'
      have l3 := put_len (F := G) (F c.n) fun d hd => h4 d (List.mem_append.2 (.inl hd))
      have hne := List.length_pos_iff.2 (h2 c List.mem_cons_self hk)
      have hl := congrArg List.length e
      rw [List.length_append, List.length_cons] at hl
      cases hF : F c.n with
      | nil => rw [hF] at hne; exact absurd hne (by simp)
      | cons y ys =>
        rw [hF] at l3 hne hl e h3
        have hys : ys = [] := List.eq_nil_of_length_eq_zero (by simp only [List.length_cons] at l3; omega)
        subst hys
        have hy0 := h3 y (by simp)
        by_cases hyk : y.k = 1
        · rw [putF_var G hyk] at e hl l3
          have e0 : putF G ([] : List Cel) = [] := rfl
          rw [e0, List.append_nil] at e hl l3
          cases hG : G y.n with
          | nil => rw [hG] at l3; simp at l3
          | cons z zs =>
            rw [hG] at e hl
            have hzs : zs = [] := List.eq_nil_of_length_eq_zero (by simp only [List.length_cons] at hl; omega)
            subst hzs
            rw [List.cons_append, List.nil_append, List.cons.injEq] at e
            rcases List.mem_cons.1 hx with rfl | hx
            · exact ⟨y.n, by rw [hF, ← cellOk_var hy0 hyk], by rw [hG, e.1, ← cellOk_var (h1 _ List.mem_cons_self) hk]⟩
            · exact back_ren b h1' h2' h3' h4' e.2 x hx hxk
        · rw [putF_cell G hyk] at e
          have : y = c := by
            have := congrArg List.head? e
            simpa using this
          rw [this] at hyk
          exact absurd hk hyk
    · rw [putF_cell F hk] at h3 h4 e
      rw [putF_cell G hk, List.cons.injEq] at e
      rcases List.mem_cons.1 hx with rfl | hx
      · exact absurd hxk hk
      · exact back_ren b h1' h2' (fun d hd => h3 d (List.mem_cons_of_mem _ hd)) (fun d hd => h4 d (List.mem_cons_of_mem _ hd)) e.2 x hx hxk
end Go.Proofs.YtmmnfkggfnokjaaGreat
namespace Go.Proofs.YtmmnfkggfnokjaaGreat
open Go.RowKit

/-- variables renamed -/
def renC (g : Int → Int) (c : Cel) : Cel := if c.k = 1 then ⟨c.k, c.s, g c.n⟩ else c
theorem renC_k (g : Int → Int) (c : Cel) : (renC g c).k = c.k := by unfold renC; split <;> rfl
theorem renC_n {g : Int → Int} {c : Cel} (h : c.k = 1) : (renC g c).n = g c.n := by unfold renC; rw [if_pos h]
theorem renC_s (g : Int → Int) (c : Cel) : (renC g c).s = c.s := by unfold renC; split <;> rfl
theorem renC_no {g : Int → Int} {c : Cel} (h : ¬ c.k = 1) : renC g c = c := by unfold renC; rw [if_neg h]
theorem num_ren (vs : List Int) : numC vs = renC (placeI vs) := by funext c; rfl
theorem shift_ren (d : Int) : shiftI d = renC (· + d) := by funext c; rfl
theorem varsGo_ren (g : Int → Int) (S : Int → Prop) (hS : ∀ a b, S a → S b → g a = g b → a = b) (xs : List Cel) : ∀ acc : List Int, (∀ n ∈ acc, S n) → (∀ c ∈ xs, c.k = 1 → S c.n) → varsGo (acc.map g) (xs.map (renC g)) = (varsGo acc xs).map g := by
  induction xs with
  | nil => intro acc _ _; rfl
  | cons c xs ih =>
    intro acc ha hx
    simp only [List.map_cons, varsGo]
    by_cases h1 : c.k = 1
    · have hsc := hx c List.mem_cons_self h1
      have hm : g c.n ∈ acc.map g ↔ c.n ∈ acc := by
        rw [List.mem_map]
        constructor
        · rintro ⟨m, hm, e⟩
          rw [← hS m c.n (ha m hm) hsc e]; exact hm
        · intro h; exact ⟨_, h, rfl⟩
      rw [renC_k, renC_n h1]
      by_cases h2 : c.n ∈ acc
      · rw [if_neg (fun h => h.2 (hm.2 h2)), if_neg (fun h => h.2 h2)]
        exact ih acc ha (fun d hd => hx d (List.mem_cons_of_mem _ hd))
      · rw [if_pos ⟨h1, fun h => h2 (hm.1 h)⟩, if_pos ⟨h1, h2⟩]
        have := ih (acc ++ [c.n]) (by
          intro n hn
          rcases List.mem_append.1 hn with h | h
          · exact ha n h
          · simp at h; subst h; exact hsc) (fun d hd => hx d (List.mem_cons_of_mem _ hd))
        rw [List.map_append] at this
        exact this
    · rw [renC_k, if_neg (fun h => h1 h.1), if_neg (fun h => h1 h.1)]
      exact ih acc ha (fun d hd => hx d (List.mem_cons_of_mem _ hd))
theorem varsL_ren (g : Int → Int) {xs : List Cel} (hS : ∀ a b, a ∈ varsL xs → b ∈ varsL xs → g a = g b → a = b) : varsL (xs.map (renC g)) = (varsL xs).map g :=
  varsGo_ren g (· ∈ varsL xs) hS xs [] (by simp) (fun _ hc h1 => mem_varsL hc h1)
theorem placeI_mem {vs : List Int} {n : Int} (h : n ∈ vs) : placeI vs n = (vs.idxOf n : Int) ∧ vs.idxOf n < vs.length ∧ vs[vs.idxOf n]? = some n := by
  refine ⟨by unfold placeI; rw [if_pos h], List.idxOf_lt_length_of_mem h, ?_⟩
  rw [List.getElem?_eq_getElem (List.idxOf_lt_length_of_mem h), List.getElem_idxOf]
theorem placeI_inj {vs : List Int} {a b : Int} (ha : a ∈ vs) (hb : b ∈ vs) (e : placeI vs a = placeI vs b) : a = b := by
  obtain ⟨a1, a2, a3⟩ := placeI_mem ha
  obtain ⟨b1, b2, b3⟩ := placeI_mem hb
  have : vs.idxOf a = vs.idxOf b := by omega
  rw [this, b3] at a3
  exact (Option.some.inj a3).symm
theorem varsL_nodup (xs : List Cel) : (varsL xs).Nodup := varsGo_nodup xs [] List.nodup_nil
theorem placeI_at {vs : List Int} (h : vs.Nodup) {i : Nat} (hi : i < vs.length) : placeI vs vs[i] = i := by
  unfold placeI
  rw [if_pos (List.getElem_mem hi), h.idxOf_getElem i hi]
/-- 0, 1, and so on -/
def upI (m : Nat) : List Int := (List.range m).map fun (i : Nat) => (i : Int)
theorem upI_length (m : Nat) : (upI m).length = m := by simp [upI]
theorem upI_at {m i : Nat} (h : i < (upI m).length) : (upI m)[i] = i := by simp [upI]
theorem map_place {vs : List Int} (h : vs.Nodup) : vs.map (placeI vs) = upI vs.length := by
  refine List.ext_getElem (by simp [upI]) (fun i h1 h2 => ?_)
  simp at h1
  rw [List.getElem_map, upI_at, placeI_at h h1]
theorem vars_num (xs : List Cel) : varsL (numL xs) = upI (varsL xs).length := by
  unfold numL
  rw [num_ren, varsL_ren _ (fun a b ha hb e => placeI_inj ha hb e), map_place (varsL_nodup xs)]
theorem num_num (xs : List Cel) : numL (numL xs) = numL xs := by
  have hnd := varsL_nodup (numL xs)
  rw [vars_num] at hnd
  show (numL xs).map (numC (varsL (numL xs))) = numL xs
  rw [vars_num]
  unfold numL
  rw [List.map_map]
  refine List.map_congr_left fun c hc => ?_
  show numC _ (numC _ c) = numC _ c
  rw [num_ren, num_ren]
  by_cases h1 : c.k = 1
  · obtain ⟨p1, p2, p3⟩ := placeI_mem (mem_varsL hc h1)
    have hk : (renC (placeI (varsL xs)) c).k = 1 := by rw [renC_k]; exact h1
    have e : placeI (upI (varsL xs).length) (placeI (varsL xs) c.n) = placeI (varsL xs) c.n := by
      rw [p1]
      have := placeI_at hnd (i := (varsL xs).idxOf c.n) (by rw [upI_length]; exact p2)
      rwa [upI_at] at this
    exact (Cel.eq_iff _ _).2 ⟨by rw [renC_k], by rw [renC_s], by rw [renC_n hk, renC_n h1, e]⟩
  · rw [renC_no h1, renC_no h1]
theorem num_alike {xs : List Cel} {c e : Cel} (hc : c ∈ xs) (he : e ∈ xs) : numC (varsL xs) c = numC (varsL xs) e ↔ c = e := by
  rw [num_ren]
  refine ⟨fun h => ?_, fun h => by rw [h]⟩
  have hk : c.k = e.k := by have := congrArg Cel.k h; rwa [renC_k, renC_k] at this
  by_cases h1 : c.k = 1
  · have h2 : e.k = 1 := by rw [← hk]; exact h1
    have hn := congrArg Cel.n h
    rw [renC_n h1, renC_n h2] at hn
    have hs := congrArg Cel.s h
    rw [renC_s, renC_s] at hs
    exact (Cel.eq_iff _ _).2 ⟨hk, hs, placeI_inj (mem_varsL hc h1) (mem_varsL he h2) hn⟩
  · rw [renC_no h1, renC_no (by rw [← hk]; exact h1)] at h
    exact h
theorem placeI_map (g : Int → Int) (hg : ∀ a b, g a = g b → a = b) (l : List Int) (n : Int) : placeI (l.map g) (g n) = placeI l n := by
  unfold placeI
  have hm : g n ∈ l.map g ↔ n ∈ l := by
    rw [List.mem_map]
    exact ⟨fun ⟨m, hm, e⟩ => hg _ _ e ▸ hm, fun h => ⟨n, h, rfl⟩⟩
  have hi : (l.map g).idxOf (g n) = l.idxOf n := by
    induction l with
    | nil => rfl
    | cons a l ih =>
      simp only [List.map_cons, List.idxOf_cons]
      have hb : (g a == g n) = (a == n) := by
        by_cases e : a = n
        · simp [e]
        · have : ¬ g a = g n := fun h => e (hg _ _ h)
          rw [beq_eq_false_iff_ne.2 this, beq_eq_false_iff_ne.2 e]
      have hm' : g n ∈ l.map g ↔ n ∈ l := by
        rw [List.mem_map]
        exact ⟨fun ⟨m, hm, e⟩ => hg _ _ e ▸ hm, fun h => ⟨n, h, rfl⟩⟩
      rw [hb, ih hm']
  by_cases h : n ∈ l
  · rw [if_pos h, if_pos (hm.2 h), hi]
  · rw [if_neg h, if_neg (fun h' => h (hm.1 h'))]
theorem num_shift (xs : List Cel) (d : Int) : numL (xs.map (shiftI d)) = numL xs := by
  unfold numL
  rw [vars_shift, List.map_map]
  refine List.map_congr_left fun c _ => ?_
  show numC _ (shiftI d c) = numC _ c
  rw [num_ren, num_ren, shift_ren]
  by_cases h1 : c.k = 1
  · have hk : (renC (· + d) c).k = 1 := by rw [renC_k]; exact h1
    refine (Cel.eq_iff _ _).2 ⟨by rw [renC_k, renC_k, renC_k], by rw [renC_s, renC_s, renC_s], ?_⟩
    rw [renC_n hk, renC_n h1, renC_n h1]
    exact placeI_map (· + d) (fun a b h => by have h' : a + d = b + d := h; omega) _ _
  · rw [renC_no h1, renC_no h1, renC_no h1]
theorem num_tree {t : Tm} (ht : t.ok) (h200 : t.flat.length ≤ 200) : numL t.flat = (mapT (numC (varsL t.flat)) t).flat ∧ (mapT (numC (varsL t.flat)) t).ok := by
  refine ⟨by unfold numL; rw [mapT_flat], mapT_ok _ t ht fun c hc => ?_⟩
  have hok := ok_cells t ht c hc
  have hvl := varsGo_length t.flat []
  rw [show varsGo [] t.flat = varsL t.flat from rfl, List.length_nil, Nat.zero_add] at hvl
  unfold numC
  by_cases h1 : c.k = 1
  · obtain ⟨p1, p2, _⟩ := placeI_mem (mem_varsL hc h1)
    rw [if_pos h1, p1]
    refine ⟨?_, by simp [ar, h1]⟩
    simp [cellOk, h1] at hok ⊢
    exact ⟨hok.1.1, by omega⟩
  · rw [if_neg h1]; exact ⟨hok, rfl⟩
end Go.Proofs.YtmmnfkggfnokjaaGreat
namespace Go.Proofs.YtmmnfkggfnokjaaGreat
open Go.RowKit

/-! ### variants: renamed, it is numbered alike -/
theorem num_ren_on (g : Int → Int) {xs : List Cel} (hS : ∀ a b, a ∈ varsL xs → b ∈ varsL xs → g a = g b → a = b) : numL (xs.map (renC g)) = numL xs := by
  have hnd := varsL_nodup (xs.map (renC g))
  unfold numL
  rw [varsL_ren g hS] at hnd ⊢
  rw [List.map_map]
  refine List.map_congr_left fun c hc => ?_
  show numC _ (renC g c) = numC _ c
  rw [num_ren, num_ren]
  by_cases h1 : c.k = 1
  · obtain ⟨p1, p2, p3⟩ := placeI_mem (mem_varsL hc h1)
    have hk : (renC g c).k = 1 := by rw [renC_k]; exact h1
    refine (Cel.eq_iff _ _).2 ⟨by rw [renC_k, renC_k, renC_k], by rw [renC_s, renC_s, renC_s], ?_⟩
    rw [renC_n hk, renC_n h1, renC_n h1, p1]
    have := placeI_at hnd (i := (varsL xs).idxOf c.n) (by rw [List.length_map]; exact p2)
    rw [List.getElem_map, List.getElem_idxOf] at this
    exact this
  · rw [renC_no h1, renC_no h1, renC_no h1]
theorem put_ren {F : Int → List Cel} {w : Int → Int} : ∀ a : List Cel, (∀ c ∈ a, cellOk c = true) → (∀ c ∈ a, c.k = 1 → F c.n = [varC (w c.n)]) → putF F a = a.map (renC w)
  | [], _, _ => rfl
  | c :: a, h1, h2 => by
    have ih := put_ren a (fun d hd => h1 d (List.mem_cons_of_mem _ hd)) fun d hd => h2 d (List.mem_cons_of_mem _ hd)
    by_cases hk : c.k = 1
    · rw [putF_var F hk, ih, h2 c List.mem_cons_self hk, List.map_cons]
      have e := cellOk_var (h1 c List.mem_cons_self) hk
      have : renC w c = varC (w c.n) := (Cel.eq_iff _ _).2 ⟨by rw [renC_k, hk]; rfl, by rw [renC_s, e]; rfl, by rw [renC_n hk]; rfl⟩
      rw [this]; rfl
    · rw [putF_cell F hk, ih, List.map_cons, renC_no hk]
/-- there and back: numbered alike -/
theorem back_num {F G : Int → List Cel} {b : List Cel} (h1 : ∀ c ∈ b, cellOk c = true) (h2 : ∀ c ∈ b, c.k = 1 → F c.n ≠ []) (h3 : ∀ c ∈ putF F b, cellOk c = true) (h4 : ∀ c ∈ putF F b, c.k = 1 → G c.n ≠ []) (e : putF G (putF F b) = b) : numL (putF F b) = numL b := by
  have hb := back_ren b h1 h2 h3 h4 e
  have hF : ∀ c ∈ b, c.k = 1 → F c.n = [varC (((F c.n).head?.getD (varC 0)).n)] ∧ G (((F c.n).head?.getD (varC 0)).n) = [varC c.n] := fun c hc hk => by
    obtain ⟨w, e1, e2⟩ := hb c hc hk
    rw [e1]
    exact ⟨rfl, e2⟩
  rw [put_ren (w := fun v => ((F v).head?.getD (varC 0)).n) b h1 fun c hc hk => (hF c hc hk).1]
  refine num_ren_on _ fun x y hx hy exy => ?_
  obtain ⟨c, hc, ck, rfl⟩ := varsL_iff.1 hx
  obtain ⟨d, hd, dk, rfl⟩ := varsL_iff.1 hy
  have e1 := (hF c hc ck).2
  have e2 := (hF d hd dk).2
  have exy' : ((F c.n).head?.getD (varC 0)).n = ((F d.n).head?.getD (varC 0)).n := exy
  rw [exy', e2] at e1
  injection e1 with e1
  exact (congrArg Cel.n e1).symm
/-- the other way round: numbered alike, the one is made of the other one by its variables' places -/
theorem ren_by (vs ws : List Int) : ∀ a b : List Cel, a.map (numC vs) = b.map (numC ws) → (∀ c ∈ b, cellOk c = true) → (∀ c ∈ a, c.k = 1 → c.n ∈ vs) → (∀ c ∈ b, c.k = 1 → c.n ∈ ws) → putF (fun v => [varC (ws.getD (vs.idxOf v) 0)]) a = b
  | [], [], _, _, _, _ => rfl
  | [], d :: b, h, _, _, _ => by cases h
  | c :: a, [], h, _, _, _ => by cases h
  | c :: a, d :: b, h, ok, ha, hb => by
    rw [List.map_cons, List.map_cons, List.cons.injEq] at h
    have ih := ren_by vs ws a b h.2 (fun d hd => ok d (List.mem_cons_of_mem _ hd)) (fun d hd => ha d (List.mem_cons_of_mem _ hd)) fun d hd => hb d (List.mem_cons_of_mem _ hd)
    have h0 := h.1
    rw [num_ren, num_ren] at h0
    have hk : c.k = d.k := by have := congrArg Cel.k h0; rwa [renC_k, renC_k] at this
    by_cases h1 : c.k = 1
    · have h2 : d.k = 1 := by rw [← hk]; exact h1
      have hn := congrArg Cel.n h0
      rw [renC_n h1, renC_n h2] at hn
      obtain ⟨a1, _, _⟩ := placeI_mem (ha c List.mem_cons_self h1)
      obtain ⟨b1, b2, b3⟩ := placeI_mem (hb d List.mem_cons_self h2)
      have hi : vs.idxOf c.n = ws.idxOf d.n := by omega
      rw [putF_var _ h1, ih, hi]
      have : ws.getD (ws.idxOf d.n) 0 = d.n := by rw [List.getD_eq_getElem?_getD, b3]; rfl
      rw [this, ← cellOk_var (ok d List.mem_cons_self) h2]; rfl
    · rw [renC_no h1, renC_no (by rw [← hk]; exact h1)] at h0
      rw [putF_cell _ h1, ih, h0]

/-! ### Match -/
theorem sk_pre : ∀ (l : List Cel) (m : Nat) (r : List Cel), sk m l = some r → ∃ pre, l = pre ++ r ∧ sk m pre = some []
  | l, 0, r, h => by
    rw [sk_zero] at h; injection h with h
    exact ⟨[], by rw [h]; rfl, sk_zero _⟩
  | [], m + 1, r, h => by simp [sk] at h
  | c :: l, m + 1, r, h => by
    simp only [sk] at h
    split at h
    · next hc =>
      obtain ⟨pre, h1, h2⟩ := sk_pre l (m + ar c) r h
      exact ⟨c :: pre, by rw [h1]; rfl, by simp only [sk]; rw [if_pos hc]; exact h2⟩
    · cases h
/-- what the images say, where there are some -/
structure ImgOk (p t : List Cel) (f f' : Int → Option (List Cel)) : Prop where
  mono : ∀ v q, f v = some q → f' v = some q
  has : ∀ c ∈ p, c.k = 1 → ∃ q, f' c.n = some q
  isT : (∀ v q, f v = some q → IsT q) → ∀ v q, f' v = some q → IsT q
  len : ∀ k, t.length ≤ k → (∀ v q, f v = some q → q.length ≤ k) → ∀ v q, f' v = some q → q.length ≤ k
  put : putF (fun v => (f' v).getD []) p = t
theorem img_yes : ∀ (p t : List Cel) (m : Nat) (f f' : Int → Option (List Cel)), sk m p = some [] → sk m t = some [] → imgGo p t f = some f' → ImgOk p t f f'
  | [], t, m, f, f', hp, ht, e => by
    have hm : m = 0 := by
      cases m with
      | zero => rfl
      | succ m => simp [sk] at hp
    subst hm
    rw [sk_zero] at ht
    injection ht with ht
    subst ht
    simp only [imgGo] at e
    injection e with e
    subst e
    exact ⟨fun _ _ h => h, by simp, fun h => h, fun _ _ h => h, rfl⟩
  | c :: p, t, m, f, f', hp, ht, e => by
    cases m with
    | zero => simp [sk] at hp
    | succ m =>
      simp only [sk] at hp
      split at hp
      · next hc =>
        simp only [imgGo] at e
        by_cases hk : c.k = 1
        · rw [if_pos hk] at e
          have h0 : ar c = 0 := by unfold ar; rw [if_neg (by omega)]
          rw [h0, Nat.add_zero] at hp
          split at e
          · cases e
          · next r hr =>
            obtain ⟨pre, rfl, hs⟩ := sk_pre t 1 r hr
            have hT := IsT_of_sk hs
            have htake : (pre ++ r).take ((pre ++ r).length - r.length) = pre := by
              rw [List.length_append, Nat.add_sub_cancel]; exact List.take_left' rfl
            rw [htake] at e
            rw [hT] at ht
            split at e
            · next hall =>
              have I := img_yes p r m _ f' hp ht e
              have hcn : f' c.n = some pre := I.mono _ _ (by unfold updF; rw [if_pos rfl])
              refine ⟨fun v q h => I.mono v q ?_, ?_, fun h => I.isT ?_, fun k hk' h => I.len k ?_ ?_, ?_⟩
              · unfold updF
                by_cases hv : v = c.n
                · rw [hv] at h
                  rw [h] at hall
                  have : q = pre := by simpa using hall
                  rw [if_pos hv, this]
                · rw [if_neg hv]; exact h
              · intro d hd hdk
                rcases List.mem_cons.1 hd with rfl | hd
                · exact ⟨pre, hcn⟩
                · exact I.has d hd hdk
              · intro v q hvq
                unfold updF at hvq
                split at hvq
                · injection hvq with hvq; rw [← hvq]; exact hT
                · exact h v q hvq
              · rw [List.length_append] at hk'; omega
              · intro v q hvq
                unfold updF at hvq
                split at hvq
                · injection hvq with hvq; rw [← hvq]; rw [List.length_append] at hk'; omega
                · exact h v q hvq
              · rw [putF_var _ hk, I.put, hcn]; rfl
            · cases e
        · rw [if_neg hk] at e
          split at e
          · cases e
          · next d t' =>
            split at e
            · next hcd =>
              subst hcd
              simp only [sk] at ht
              rw [if_pos hc] at ht
              have I := img_yes p t' (m + ar c) f f' hp ht e
              refine ⟨I.mono, fun d hd hdk => ?_, I.isT, fun k hk' h => I.len k (by simp only [List.length_cons] at hk'; omega) h, ?_⟩
              · rcases List.mem_cons.1 hd with rfl | hd
                · exact absurd hdk hk
                · exact I.has d hd hdk
              · rw [putF_cell _ hk, I.put]
            · cases e
      · cases hp
/-- whatever makes the one the other one: there are images, and they say the same -/
theorem img_made {G : Int → List Cel} (hT : ∀ v, IsT (G v)) : ∀ (p : List Cel) (f : Int → Option (List Cel)), (∀ v q, f v = some q → G v = q) → ∃ f', imgGo p (putF G p) f = some f' ∧ ∀ v q, f' v = some q → G v = q
  | [], f, hf => ⟨f, by simp [imgGo], hf⟩
  | c :: p, f, hf => by
    by_cases hk : c.k = 1
    · have hr : sk 1 (G c.n ++ putF G p) = some (putF G p) := by
        have := hT c.n 0 (putF G p)
        rw [sk_zero] at this
        exact this
      have htake : (G c.n ++ putF G p).take ((G c.n ++ putF G p).length - (putF G p).length) = G c.n := by
        rw [List.length_append, Nat.add_sub_cancel]; exact List.take_left' rfl
      obtain ⟨f', h1, h2⟩ := img_made hT p (updF f c.n (G c.n)) (fun v q h => by
        unfold updF at h
        split at h
        · next hv => injection h with h; rw [hv]; exact h
        · exact hf v q h)
      refine ⟨f', ?_, h2⟩
      rw [putF_var G hk]
      simp only [imgGo]
      rw [if_pos hk, hr]
      simp only [htake]
      rw [if_pos ?_]
      · exact h1
      · cases hfc : f c.n with
        | none => rfl
        | some q => simp [hf _ _ hfc]
    · obtain ⟨f', h1, h2⟩ := img_made hT p f hf
      refine ⟨f', ?_, h2⟩
      rw [putF_cell G hk]
      simp only [imgGo]
      rw [if_neg hk]
      simp only [if_true]
      exact h1
theorem match_told {a b : List Cel} (ra : rightB a = true) (rb : rightB b = true) (h : matchB a b = true) :
    ∃ F, (∀ v ∈ riseI (varsL a), IsT (F v) ∧ (F v).length ≤ 200) ∧ putF F a = b ∧ matchL a b = bindL F (riseI (varsL a)) := by
  unfold matchB at h
  cases e : imgGo a b (fun _ => none) with
  | none => rw [e] at h; cases h
  | some f =>
    have I := img_yes a b 1 _ f (right_sk2 ra) (right_sk2 rb) e
    refine ⟨fun v => (f v).getD [], fun v hv => ?_, I.put, by unfold matchL; rw [e]⟩
    obtain ⟨c, hc, hk, rfl⟩ := varsL_iff.1 (riseI_mem hv)
    obtain ⟨q, hq⟩ := I.has c hc hk
    show IsT ((f c.n).getD []) ∧ ((f c.n).getD []).length ≤ 200
    rw [hq]
    exact ⟨I.isT (fun _ _ h => by cases h) _ _ hq, I.len 200 (isT_of_right rb).2.1 (fun _ _ h => by cases h) _ _ hq⟩
theorem match_of {a b : List Cel} {G : Int → List Cel} (hT : ∀ v, IsT (G v)) (e : putF G a = b) : matchB a b = true := by
  obtain ⟨f', h1, _⟩ := img_made hT a (fun _ => none) (fun _ _ h => by cases h)
  unfold matchB
  rw [← e, h1]; rfl
theorem rise_vars {a : List Cel} {c : Cel} (hc : c ∈ a) (hk : c.k = 1) : c.n ∈ riseI (varsL a) := rise_all (varsL_iff.2 ⟨c, hc, hk, rfl⟩)
theorem match_iff {a b : List Cel} (ra : rightB a = true) (rb : rightB b = true) : matchB a b = true ↔ ∃ G : Int → List Cel, (∀ v, IsT (G v)) ∧ putF G a = b := by
  refine ⟨fun h => ?_, fun ⟨G, hT, e⟩ => match_of hT e⟩
  obtain ⟨F, h1, h2, _⟩ := match_told ra rb h
  exact ⟨full F (riseI (varsL a)), full_isT fun v hv => (h1 v hv).1, by rw [put_full a fun c hc hk => rise_vars hc hk]; exact h2⟩
theorem match_no {a b : List Cel} (h : matchB a b = false) : matchL a b = [] := by
  unfold matchB at h
  unfold matchL
  cases e : imgGo a b (fun _ => none) with
  | none => rfl
  | some f => rw [e] at h; cases h
theorem rise_range {a : List Cel} (ra : rightB a = true) : ∀ v ∈ riseI (varsL a), 0 ≤ v ∧ v ≤ 999 := fun v hv => vars_range ra v (riseI_mem hv)
theorem bind_in {F : Int → List Cel} {vs : List Int} {x : Bnd} (h : x ∈ bindL F vs) : x.v ∈ vs ∧ x.t = F x.v := by
  obtain ⟨v, hv, hx⟩ := List.mem_flatMap.1 h
  unfold bindC at hx
  split at hx
  · cases hx
  · rw [List.mem_singleton.1 hx]; exact ⟨hv, rfl⟩
/-- what is matched is made of the first one -/
theorem match_put {a b : List Cel} (ra : rightB a = true) (rb : rightB b = true) (h : matchB a b = true) :
    putL (look (matchL a b)) a = b ∧ rightS (matchL a b) = true ∧ ∀ x ∈ matchL a b, x.t.length ≤ 200 := by
  obtain ⟨F, h1, h2, h3⟩ := match_told ra rb h
  rw [h3]
  refine ⟨?_, right_bind _ 0 (rise_up _) (rise_range ra) h1, fun x hx => ?_⟩
  · rw [put_bind (fun v hv => (h1 v hv).1) a (right_cells ra) fun c hc hk => rise_vars hc hk]; exact h2
  · obtain ⟨h4, h5⟩ := bind_in hx
    rw [h5]; exact (h1 _ h4).2
theorem ground_iff {b : List Cel} : groundB b = true ↔ ∀ c ∈ b, c.k ≠ 1 := by
  unfold groundB
  rw [List.all_eq_true]
  exact ⟨fun h c hc e => by have := h c hc; simp [e] at this, fun h c hc => by simp [h c hc]⟩
theorem vars_ground {b : List Cel} (h : ∀ c ∈ b, c.k ≠ 1) : varsL b = [] := by
  cases e : varsL b with
  | nil => rfl
  | cons v vs =>
    have : v ∈ varsL b := by rw [e]; exact List.mem_cons_self
    obtain ⟨c, hc, hk, _⟩ := varsL_iff.1 this
    exact absurd hk (h c hc)
/-- one way: Mgu tells what Match does -/
theorem match_ground {a b : List Cel} (ra : rightB a = true) (rb : rightB b = true) (hg : groundB b = true) : mguL a b = if matchB a b then some (some (matchL a b)) else none := by
  have ha := (isT_of_right ra).1
  have hb := (isT_of_right rb).1
  have hg' := ground_iff.1 hg
  have hboth : bothL a b = riseI (varsL a) := by unfold bothL; rw [vars_ground hg', List.append_nil]
  by_cases h : matchB a b = true
  · obtain ⟨F, h1, h2, h3⟩ := match_told ra rb h
    rw [if_pos h, h3]
    have hT := full_isT (F := F) (vs := riseI (varsL a)) fun v hv => (h1 v hv).1
    have e := mgu_ground ha hb hg' hT (by rw [put_full a fun c hc hk => rise_vars hc hk]; exact h2)
    rw [hboth] at e
    rw [e, if_neg ?_, bind_congr _ fun v hv => full_at hv]
    rw [Bool.not_eq_true, List.any_eq_false]
    intro v hv
    rw [full_at hv]
    have := (h1 v hv).2
    simp; omega
  · rw [if_neg h]
    rcases mgu_told ha hb with ⟨e, _⟩ | ⟨F, T, _⟩
    · exact e
    · exact absurd (match_of (full_isT T.isT) (by rw [put_full a fun c hc hk => mem_both_l (List.mem_append.2 (.inl hc)) hk, T.alike, put_ground hg'])) h
/-- each of the two matches the other one just if they are numbered alike -/
theorem match_both {a b : List Cel} (ra : rightB a = true) (rb : rightB b = true) : (matchB a b && matchB b a) = decide (numL a = numL b) := by
  rw [Bool.eq_iff_iff, Bool.and_eq_true, decide_eq_true_iff]
  have oka := right_cells ra
  have okb := right_cells rb
  constructor
  · rintro ⟨h1, h2⟩
    obtain ⟨F, f1, f2⟩ := (match_iff ra rb).1 h1
    obtain ⟨G, g1, g2⟩ := (match_iff rb ra).1 h2
    have := back_num (F := F) (G := G) (b := a) oka (fun c _ _ => (f1 _).ne) (by rw [f2]; exact okb) (fun c _ _ => (g1 _).ne) (by rw [f2]; exact g2)
    rw [f2] at this
    exact this.symm
  · have key : ∀ x y : List Cel, rightB x = true → rightB y = true → numL x = numL y → matchB x y = true := by
      intro x y rx ry e
      have hp := ren_by (varsL x) (varsL y) x y e (right_cells ry) (fun c hc hk => mem_varsL hc hk) fun c hc hk => mem_varsL hc hk
      refine match_of (G := full (fun v => [varC ((varsL y).getD ((varsL x).idxOf v) 0)]) (varsL x)) (full_isT fun v _ => ?_) (by rw [put_full x fun c hc hk => mem_varsL hc hk]; exact hp)
      have hr : 0 ≤ (varsL y).getD ((varsL x).idxOf v) 0 ∧ (varsL y).getD ((varsL x).idxOf v) 0 ≤ 999 := by
        rw [List.getD_eq_getElem?_getD]
        cases hg : (varsL y)[(varsL x).idxOf v]? with
        | none => simp
        | some z => exact vars_range ry z (List.mem_of_getElem? hg)
      exact isT_var hr.1 hr.2
    exact fun e => ⟨key a b ra rb e, key b a rb ra e.symm⟩
end Go.Proofs.YtmmnfkggfnokjaaGreat
namespace Go.Proofs.YtmmnfkggfnokjaaGreat
open Go.RowKit

def apB (s : List Bnd) (t : List Cel) : Bool := decide (((putL (look s) t).length : Int) ≤ 200)
def apL (s : List Bnd) (t : List Cel) : List Cel := if apB s t then putL (look s) t else []
theorem apL_yes {s : List Bnd} {t : List Cel} (h : apB s t = true) : apL s t = putL (look s) t := by unfold apL; rw [if_pos h]
theorem apL_no {s : List Bnd} {t : List Cel} (h : apB s t = false) : apL s t = [] := by unfold apL; rw [if_neg (by simp [h])]

set_option maxHeartbeats 800000 in
theorem refapply_any (a : Option Addr) (cap : Nat) (a' : Option Addr) (cap' : Nat) (w : World) (xs : List Bnd) (ys : List Cel) (hx : Row w a cap xs) (hy : Row w a' cap' ys) (hT : ∀ b ∈ xs, b.t.length ≤ 1000) (hl : ys.length ≤ 10000) :
    Calls Tryz.prog 25 #[.slice a xs.length cap, .slice a' ys.length cap'] w fun e w' => ∃ a2 cap2, e = .returned (.tuple #[.slice a2 (apL xs ys).length cap2, .bool (apB xs ys)]) ∧ NewRow w.heap.size w' a2 cap2 (apL xs ys) ∧ Below w.heap.size w w' := by
  have HT := mkHid hT
  clear hT
  cases h : apB xs ys with
  | true =>
    have H1 := mkHid (apL_yes h)
    have h2 : ((putL (look xs) ys).length : Int) ≤ 200 := by simpa [apB] using h
    clear h
    rw [H1.out]
    go_enter Tryz.func25, Tryz.ntmps25
    go_wp2_with (go_at_call 49; refine (refput_any _ cap _ cap' _ xs ys hx hy HT.out hl).mono ?_; rintro e w2 ⟨a2, cap2, rfl, hr2, hb2⟩)
    go_ret2
    exact ⟨_, _, rfl, hr2, hb2⟩
  | false =>
    have H1 := mkHid (apL_no h)
    have h2 : 200 < ((putL (look xs) ys).length : Int) := by simpa [apB] using h
    clear h
    rw [H1.out]
    go_enter Tryz.func25, Tryz.ntmps25
    go_wp2_with (go_at_call 49; refine (refput_any _ cap _ cap' _ xs ys hx hy HT.out hl).mono ?_; rintro e w2 ⟨a2, cap2, rfl, hr2, hb2⟩)
    go_ret2
    exact ⟨_, _, rfl, NewRow.empty _ _ _ _ (by omega) (fun _ => rfl), hb2⟩
end Go.Proofs.YtmmnfkggfnokjaaGreat
namespace Go.Proofs.YtmmnfkggfnokjaaGreat
open Go.RowKit

theorem Tryz.infoBind : (Tryz.prog.info? 44).map (fun i => (i.zero, i.size, i.bytes)) = some (some (.agg #[.int .i64 0, .slice none 0 0]), 2, 32) := by kernel_rfl

def compAt (a b : List Bnd) (v : Int) : Option (List Cel) := match look a v with
  | some t => some (putL (look b) t)
  | none => look b v
def compOut (a b : List Bnd) (v : Int) : List Bnd := match compAt a b v with
  | some t => if ownR v t then [] else [⟨v, t⟩]
  | none => []
def compUp (a b : List Bnd) (k : Nat) : List Bnd := (List.range k).flatMap fun (v : Nat) => compOut a b (v : Int)
def fitAt (a b : List Bnd) (v : Int) : Bool := match look a v with
  | some t => apB b t
  | none => true
def compB (a b : List Bnd) : Bool := (List.range 1000).all fun (v : Nat) => fitAt a b (v : Int)
def compL (a b : List Bnd) : List Bnd := if compB a b then compUp a b 1000 else []
theorem compUp_succ (a b : List Bnd) (k : Nat) : compUp a b (k + 1) = compUp a b k ++ compOut a b (k : Int) := by
  unfold compUp; rw [List.range_succ, List.flatMap_append]; simp
theorem compUp_le (a b : List Bnd) (k : Nat) : (compUp a b k).length ≤ k := by
  induction k with
  | zero => simp [compUp]
  | succ k ih =>
    rw [compUp_succ, List.length_append]
    have : (compOut a b (k : Int)).length ≤ 1 := by
      unfold compOut
      split
      · split <;> simp
      · simp
    omega
theorem fit_next {a b : List Bnd} {k : Nat} (h : (List.range k).all (fun (v : Nat) => fitAt a b (v : Int)) = true) (hk : fitAt a b (k : Int) = true) : (List.range (k + 1)).all (fun (v : Nat) => fitAt a b (v : Int)) = true := by
  rw [List.range_succ, List.all_append, h]; simp [hk]
theorem fit_bad {a b : List Bnd} {k : Nat} (hk : k < 1000) (h : fitAt a b (k : Int) = false) : compB a b = false := by
  unfold compB; rw [List.all_eq_false]; exact ⟨k, List.mem_range.2 hk, by simp [h]⟩

theorem comp_stay {a b : List Bnd} {k : Nat} (h : compOut a b (k : Int) = []) : compUp a b (k + 1) = compUp a b k := by rw [compUp_succ, h, List.append_nil]

structure CompInv (w : World) (xs ys : List Bnd) (k : Nat) (v : Value) (wr : World) : Prop where
  ex : ∃ vs, wr.ownsRow w.heap.size 44 2 v (compUp xs ys k).length vs ∧ CRows (hide v.ownBlock wr) vs (compUp xs ys k)
  fit : (List.range k).all (fun (v : Nat) => fitAt xs ys (v : Int)) = true
theorem CompInv.below {w : World} {xs ys : List Bnd} {k : Nat} {v : Value} {wr w2 : World} (h : CompInv w xs ys k v wr) (hb : Below wr.heap.size wr w2) : CompInv w xs ys k v w2 :=
  let ⟨vs, ho, hc⟩ := h.ex
  ⟨⟨vs, own_below ho hb, hc.keeps (below_hide hb _)⟩, h.fit⟩
theorem CompInv.lt {w : World} {xs ys : List Bnd} {k : Nat} {v : Value} {wr : World} (h : CompInv w xs ys k v wr) : ∀ g, v.ownBlock = some g → g < wr.heap.size :=
  let ⟨_, ho, _⟩ := h.ex; fun g hg => (ho.lt g hg).2
theorem CompInv.stay {w : World} {xs ys : List Bnd} {k : Nat} {v : Value} {wr : World} (h : CompInv w xs ys k v wr) (he : compOut xs ys (k : Int) = []) (hf : fitAt xs ys (k : Int) = true) : CompInv w xs ys (k + 1) v wr :=
  let ⟨vs, ho, hc⟩ := h.ex
  ⟨⟨vs, by rw [comp_stay he]; exact ho, by rw [comp_stay he]; exact hc⟩, fit_next h.fit hf⟩

end Go.Proofs.YtmmnfkggfnokjaaGreat
namespace Go.Proofs.YtmmnfkggfnokjaaGreat
open Go.RowKit

/-! ### the most general: whatever bindings -/
def lookF (t : List Bnd) (v : Int) : List Cel := (look t v).getD (selfF v)
theorem lookF_isT {t : List Bnd} (h : ∀ x ∈ t, IsT x.t) (v : Int) : IsT (lookF t v) := by
  unfold lookF
  cases e : look t v with
  | none => exact self_isT v
  | some q => obtain ⟨b, hb, _, rfl⟩ := look_mem e; exact h b hb
theorem self_at {v : Int} (h0 : 0 ≤ v) (h9 : v ≤ 999) : selfF v = [varC v] := by unfold selfF; rw [if_pos ⟨h0, h9⟩]
theorem put_lookF (t : List Bnd) : ∀ u : List Cel, (∀ c ∈ u, cellOk c = true) → putL (look t) u = putF (lookF t) u
  | [], _ => rfl
  | c :: u, h => by
    have ih := put_lookF t u fun d hd => h d (List.mem_cons_of_mem _ hd)
    have hc := h c List.mem_cons_self
    have e : putL (look t) (c :: u) = putC (look t) c ++ putL (look t) u := by unfold putL; rw [List.flatMap_cons]
    rw [e, ih]
    unfold putC
    by_cases hk : c.k = 1
    · have hr := var_range hc hk
      rw [if_pos hk, putF_var _ hk]
      congr 1
      unfold lookF
      cases look t c.n with
      | none => rw [self_at hr.1 hr.2, ← cellOk_var hc hk]; first | done | rfl
      | some q => rfl
    · rw [if_neg hk, putF_cell _ hk]; rfl
theorem rightG_mem : ∀ (s : List Bnd) (m : Int), rightG m s = true → ∀ x ∈ s, m ≤ x.v ∧ x.v ≤ 999 ∧ rightB x.t = true
  | [], _, _, x, hx => by cases hx
  | b :: s, m, h, x, hx => by
    simp only [rightG, Bool.and_eq_true, decide_eq_true_eq] at h
    obtain ⟨⟨⟨⟨h1, h2⟩, h3⟩, _⟩, h5⟩ := h
    rcases List.mem_cons.1 hx with rfl | hx
    · exact ⟨h1, h2, h3⟩
    · have := rightG_mem s _ h5 x hx
      exact ⟨by omega, this.2⟩
theorem most_law {a b : List Cel} (ra : rightB a = true) (rb : rightB b = true) {t : List Bnd} (ht : ∀ x ∈ t, rightB x.t = true) (e : putL (look t) a = putL (look t) b) :
    mguL a b = some none ∨ ∃ B, mguL a b = some (some B) ∧ ∀ x ∈ B, -9223372036854775808 ≤ x.v ∧ x.v ≤ 9223372036854775807 ∧ x.t.length ≤ 200 ∧ putL (look t) x.t = putL (look t) [varC x.v] ∧ (putL (look t) [varC x.v]).length ≤ 200 := by
  have ha := (isT_of_right ra).1
  have hb := (isT_of_right rb).1
  have hT := lookF_isT fun x hx => (isT_of_right (ht x hx)).1
  rcases mgu_most ha hb hT (by rw [← put_lookF t a (right_cells ra), ← put_lookF t b (right_cells rb)]; exact e) with h | ⟨B, h, hB⟩
  · exact .inl h
  · refine .inr ⟨B, h, fun x hx => ?_⟩
    obtain ⟨hr, _, _, _⟩ := mgu_alike ha hb h
    obtain ⟨h0, h9, hxr⟩ := rightG_mem B 0 hr x hx
    have hv : putL (look t) [varC x.v] = lookF t x.v := by
      have hok : ∀ c ∈ [varC x.v], cellOk c = true := isT_ok (isT_var h0 h9)
      rw [put_lookF t _ hok, put_one]
    refine ⟨by omega, by omega, (isT_of_right hxr).2.1, ?_, ?_⟩
    · rw [hv, put_lookF t _ (right_cells hxr)]; exact hB x hx
    · rw [hv]
      unfold lookF
      cases e2 : look t x.v with
      | none => rw [self_at h0 h9]; simp
      | some q => obtain ⟨b', hb', _, rfl⟩ := look_mem e2; exact (isT_of_right (ht b' hb')).2.1

/-! ### apart -/
theorem sk_map {f : Cel → Cel} : ∀ (l : List Cel) (m : Nat), sk m l = some [] → (∀ c ∈ l, cellOk (f c) = true ∧ ar (f c) = ar c) → sk m (l.map f) = some []
  | l, 0, h, _ => by
    rw [sk_zero] at h; injection h with h
    rw [h]; rfl
  | [], m + 1, h, _ => by simp [sk] at h
  | c :: l, m + 1, h, hf => by
    simp only [sk] at h
    split at h
    · obtain ⟨h1, h2⟩ := hf c List.mem_cons_self
      rw [List.map_cons]
      simp only [sk]
      rw [if_pos h1, h2]
      exact sk_map l _ h fun d hd => hf d (List.mem_cons_of_mem _ hd)
    · cases h
theorem right_num {xs : List Cel} (h : rightB xs = true) : rightB (numL xs) = true := by
  obtain ⟨h1, h2, h3⟩ := isT_of_right h
  have hv := varsGo_length xs []
  rw [show varsGo [] xs = varsL xs from rfl, List.length_nil, Nat.zero_add] at hv
  refine right_of (IsT_of_sk ?_) (by unfold numL; rw [List.length_map]; exact h2)
  unfold numL
  refine sk_map xs 1 h1.reads fun c hc => ?_
  have hok := right_cells h c hc
  rw [num_ren]
  by_cases hk : c.k = 1
  · obtain ⟨p1, p2, _⟩ := placeI_mem (mem_varsL hc hk)
    have e := cellOk_var hok hk
    have : renC (placeI (varsL xs)) c = varC (placeI (varsL xs) c.n) := (Cel.eq_iff _ _).2 ⟨by rw [renC_k, hk]; rfl, by rw [renC_s, e]; rfl, by rw [renC_n hk]; rfl⟩
    have hi := isT_ok (isT_var (v := placeI (varsL xs) c.n) (by omega) (by omega)) _ (List.mem_singleton.2 rfl)
    rw [this]
    refine ⟨hi, ?_⟩
    unfold ar varC
    rw [if_neg (show ¬ (1 : Int) = 3 by omega), if_neg (by omega)]
  · rw [renC_no hk]; exact ⟨hok, rfl⟩
theorem num_low {xs : List Cel} (h : xs.length ≤ 30) : ∀ c ∈ numL xs, c.k = 1 → 0 ≤ c.n ∧ c.n < 30 := fun c hc hk => by
  have hm := mem_varsL hc hk
  rw [vars_num] at hm
  unfold upI at hm
  obtain ⟨i, hi, e⟩ := List.mem_map.1 hm
  have hv := varsGo_length xs []
  rw [show varsGo [] xs = varsL xs from rfl, List.length_nil, Nat.zero_add] at hv
  rw [List.mem_range] at hi
  omega
theorem put_part {F : Int → List Cel} : ∀ {t : List Cel} {c : Cel}, c ∈ t → c.k = 1 → (F c.n).length ≤ (putF F t).length ∧ ∀ d ∈ F c.n, d ∈ putF F t
  | [], c, h, _ => by cases h
  | x :: t, c, h, hk => by
    rcases List.mem_cons.1 h with rfl | h
    · rw [putF_var F hk]
      exact ⟨by rw [List.length_append]; omega, fun d hd => List.mem_append.2 (.inl hd)⟩
    · obtain ⟨h1, h2⟩ := put_part (F := F) h hk
      by_cases hx : x.k = 1
      · rw [putF_var F hx]
        exact ⟨by rw [List.length_append]; omega, fun d hd => List.mem_append.2 (.inr (h2 d hd))⟩
      · rw [putF_cell F hx]
        exact ⟨by rw [List.length_cons]; omega, fun d hd => List.mem_cons_of_mem _ (h2 d hd)⟩
theorem apart_told {a b : List Cel} (ra : rightB a = true) (rb : rightB b = true) {G : Int → List Cel} (hT : ∀ v, IsT (G v)) (e1 : putF G a = b) (e2 : putF G b = b) :
    ∃ B, mguL a b = some (some B) ∧ (∀ x ∈ B, x.t.length ≤ 200) ∧ putL (look B) a = putL (look B) b ∧ (putL (look B) b).length ≤ 200 ∧ 0 < (putL (look B) b).length ∧ numL (putL (look B) b) = numL b := by
  have ha := (isT_of_right ra).1
  obtain ⟨hb, lb, lb0⟩ := isT_of_right rb
  rcases mgu_told ha hb with ⟨_, n⟩ | ⟨F, T, e⟩
  · exact absurd (e1.trans e2.symm) (n G hT)
  · have most := T.most G hT (e1.trans e2.symm)
    have low : ∀ v ∈ bothL a b, (F v).length ≤ 200 := by
      intro v hv
      have h1 := put_len (F := G) (F v) fun c _ _ => (hT _).ne
      rw [most v hv] at h1
      obtain ⟨c, hc, hk, rfl⟩ := both_iff.1 hv
      rcases List.mem_append.1 hc with hc | hc
      · have := (put_part (F := G) hc hk).1; rw [e1] at this; omega
      · have := (put_part (F := G) hc hk).1; rw [e2] at this; omega
    have hany : (bothL a b).any (fun v => decide (200 < (F v).length)) = false := by
      rw [List.any_eq_false]
      intro v hv
      have := low v hv
      simp; omega
    have inb : ∀ c ∈ b, c.k = 1 → c.n ∈ bothL a b := fun c hc hk => mem_both_l (List.mem_append.2 (.inr hc)) hk
    have hput : putL (look (bindL F (bothL a b))) b = putF F b := put_bind T.isT b (right_cells rb) inb
    have hback : putF G (putF F b) = b := by
      rw [put_put, put_same (G := G) b fun c hc hk => most _ (inb c hc hk)]; exact e2
    refine ⟨_, by rw [e, hany]; rfl, fun x hx => ?_, (mgu_alike ha hb (by rw [e, hany]; rfl)).2.2.1, ?_, ?_, ?_⟩
    · obtain ⟨h4, h5⟩ := bind_in hx
      rw [h5]; exact low _ h4
    · rw [hput]
      have h1 := put_len (F := G) (putF F b) fun c _ _ => (hT _).ne
      rw [hback] at h1; omega
    · rw [hput]
      have h1 := put_len (F := F) b fun c hc hk => (T.isT _ (inb c hc hk)).ne
      omega
    · rw [hput]
      refine back_num (G := G) (right_cells rb) (fun c hc hk => (T.isT _ (inb c hc hk)).ne) (fun c hc => ?_) (fun c _ _ => (hT _).ne) hback
      rcases put_cells hc with ⟨h, _⟩ | ⟨d, hd, hdk, h⟩
      · exact right_cells rb c h
      · exact two_ok ha hb c (T.within _ (inb d hd hdk) c h)
theorem bind_lone {F : Int → List Cel} {n : Int} (hn : (F n).head? ≠ some ⟨1, ⟨#[]⟩, n⟩) : ∀ vs : List Int, vs.Pairwise (· < ·) → n ∈ vs → (∀ v ∈ vs, v ≠ n → F v = [varC v]) → bindL F vs = [⟨n, F n⟩]
  | [], _, h, _ => by cases h
  | v :: vs, hp, h, hF => by
    obtain ⟨p1, p2⟩ := List.pairwise_cons.1 hp
    have own : ∀ w ∈ v :: vs, w ≠ n → bindC F w = [] := fun w hw hne => by
      unfold bindC
      rw [hF w hw hne]; exact if_pos rfl
    have ecat : bindL F (v :: vs) = bindC F v ++ bindL F vs := by unfold bindL; rw [List.flatMap_cons]
    rw [ecat]
    by_cases hv : v = n
    · subst hv
      have : bindL F vs = [] := by
        unfold bindL
        rw [List.flatMap_eq_nil_iff]
        intro w hw
        exact own w (List.mem_cons_of_mem _ hw) (by have := p1 w hw; omega)
      rw [this]
      unfold bindC
      rw [if_neg hn]; rfl
    · rw [own v List.mem_cons_self hv]
      have hm : n ∈ vs := by
        rcases List.mem_cons.1 h with e | e
        · exact absurd e.symm hv
        · exact e
      exact bind_lone hn vs p2 hm fun w hw => hF w (List.mem_cons_of_mem _ hw)
/-- a variable by itself goes with all -/
theorem apart_var {a : List Cel} (ra : rightB a = true) (h9 : ∀ c ∈ a, c.k = 1 → c.n < 999) : mguL [varC 999] a = some (some [⟨999, a⟩]) := by
  obtain ⟨ha, la, _⟩ := isT_of_right ra
  have hv := isT_var (v := 999) (by omega) (by omega)
  have ok := two_ok hv ha
  have ne : ∀ c ∈ a, c.k = 1 → c.n ≠ 999 := fun c hc hk => by have := h9 c hc hk; omega
  have hF : ∀ v, v ≠ 999 → (fun v => if v = 999 then a else [varC v]) v = [varC v] := fun v h => if_neg h
  have ida : putF (fun v : Int => if v = 999 then a else [varC v]) a = a := put_id a (right_cells ra) _ fun c hc hk => hF _ (ne c hc hk)
  have inn : ∀ v ∈ bothL [varC 999] a, v ≠ 999 → varC v ∈ a := fun v hv hne => by
    obtain ⟨c, hc, hk, rfl⟩ := both_iff.1 hv
    rcases List.mem_append.1 hc with hc | hc
    · rw [List.mem_singleton.1 hc] at hne; exact absurd rfl hne
    · rw [← cellOk_var (right_cells ra c hc) hk]; exact hc
  have T : ToldF [varC 999] a (fun v => if v = 999 then a else [varC v]) := by
    refine ⟨?_, fun v hv => ?_, fun v hv c hc => ?_, fun v hv => ?_, fun G hT eG v hv => ?_, fun v hv w hw => ?_⟩
    · rw [put_one, ida]; exact if_pos rfl
    · by_cases h : v = 999
      · simp only [h, if_true]; exact ha
      · simp only [h, if_false]
        have := var_range (right_cells ra _ (inn v hv h)) rfl
        exact isT_var this.1 this.2
    · by_cases h : v = 999
      · simp only [h, if_true] at hc; exact List.mem_append.2 (.inr hc)
      · simp only [h, if_false] at hc
        rw [List.mem_singleton.1 hc]; exact List.mem_append.2 (.inr (inn v hv h))
    · by_cases h : v = 999
      · simp only [h, if_true]; exact ida
      · simp only [h, if_false]
        rw [put_one]; exact hF v h
    · rw [put_one] at eG
      by_cases h : v = 999
      · simp only [h, if_true]; exact eG.symm
      · simp only [h, if_false]; exact put_one G v
    · by_cases h : v = 999
      · simp only [h, if_true] at hw
        subst h
        have := h9 (varC w) (by rw [hw]; exact List.mem_singleton.2 rfl) rfl
        have : w < 999 := this
        omega
      · simp only [h, if_false] at hw
        injection hw with hw
        have : v = w := congrArg Cel.n hw
        omega
  have e := mgu_is hv ha T
  have hl : bindL (fun v => if v = 999 then a else [varC v]) (bothL [varC 999] a) = [⟨999, (fun v : Int => if v = 999 then a else [varC v]) 999⟩] := bind_lone (n := 999) ?_ (bothL [varC 999] a) (rise_up _) (mem_both_l (List.mem_append.2 (.inl (List.mem_singleton.2 rfl))) rfl) fun v _ h => hF v h
  rw [e, if_neg ?_, hl]
  · simp only [if_true]
  · rw [Bool.not_eq_true, List.any_eq_false]
    intro v _
    by_cases h : v = 999
    · simp only [h, if_true]; simp; omega
    · simp only [h, if_false]; simp
  · simp only [if_true]
    intro h
    cases a with
    | nil => cases h
    | cons x xs =>
      have hx : x = ⟨1, ⟨#[]⟩, 999⟩ := by simpa using h
      exact ne x List.mem_cons_self (by rw [hx]) (by rw [hx])
theorem put_map {F : Int → List Cel} {f : Cel → Cel} (hf : ∀ c : Cel, c.k ≠ 1 → f c = c) : ∀ a : List Cel, (putF F a).map f = putF (fun v => (F v).map f) a
  | [] => rfl
  | c :: a => by
    by_cases hk : c.k = 1
    · rw [putF_var F hk, List.map_append, put_map hf a, putF_var _ hk]
    · rw [putF_cell F hk, List.map_cons, put_map hf a, putF_cell _ hk, hf c hk]
/-- an instance whose variables are shifted away -/
theorem apart_made {a b : List Cel} {t : List Bnd} (ra : rightB a = true) (ha : ∀ c ∈ a, c.k = 1 → c.n < 200) (ht : ∀ x ∈ t, rightB x.t = true) (eb : b = shiftL (apL t a) 200) (hne : b ≠ []) :
    rightB b = true ∧ ∃ G : Int → List Cel, (∀ v, IsT (G v)) ∧ putF G a = b ∧ putF G b = b := by
  have hT := lookF_isT fun x hx => (isT_of_right (ht x hx)).1
  cases hap : apB t a with
  | false =>
    rw [apL_no hap] at eb
    exact absurd (eb.trans (by decide +kernel)) hne
  | true =>
    rw [apL_yes hap, put_lookF t a (right_cells ra)] at eb
    have hok : ∀ c ∈ putF (lookF t) a, cellOk c = true := fun c hc => by
      rcases put_cells hc with ⟨h, _⟩ | ⟨d, _, _, h⟩
      · exact right_cells ra c h
      · exact isT_ok (hT _) c h
    unfold shiftL at eb
    split at eb
    · next hr =>
      rw [map_shift (by omega) fun c hc hk => by have := var_range (hok c hc) hk; omega] at eb hr
      subst eb
      have hrc := right_cells hr
      have hsc : ∀ c ∈ putF (lookF t) a, cellOk (shiftI 200 c) = true := fun c hc => hrc _ (List.mem_map.2 ⟨c, hc, rfl⟩)
      have har : ∀ c : Cel, ar (shiftI 200 c) = ar c := fun c => by
        unfold shiftI
        split
        · next h => unfold ar; rw [if_neg (by show c.k ≠ 3; omega), if_neg (by omega)]
        · rfl
      have hG : ∀ v ∈ varsL a, (fun v => if v ∈ varsL a then (lookF t v).map (shiftI 200) else selfF v) v = (lookF t v).map (shiftI 200) := fun v hv => if_pos hv
      refine ⟨hr, fun v => if v ∈ varsL a then (lookF t v).map (shiftI 200) else selfF v, fun v => ?_, ?_, ?_⟩
      · show IsT (if v ∈ varsL a then (lookF t v).map (shiftI 200) else selfF v)
        by_cases hv : v ∈ varsL a
        · rw [if_pos hv]
          obtain ⟨c, hc, hk, rfl⟩ := varsL_iff.1 hv
          exact IsT_of_sk (sk_map _ 1 (hT c.n).reads fun d hd => ⟨hsc d ((put_part (F := lookF t) hc hk).2 d hd), har d⟩)
        · rw [if_neg hv]; exact self_isT v
      · rw [put_map (fun c hk => by unfold shiftI; rw [if_neg hk])]
        exact put_same a fun c hc hk => hG _ (varsL_iff.2 ⟨c, hc, hk, rfl⟩)
      · refine put_id _ hrc _ fun d hd hk => ?_
        have hr2 := var_range (hrc d hd) hk
        have hn : d.n ∉ varsL a := fun hm => by
          obtain ⟨c, hc, hck, e⟩ := varsL_iff.1 hm
          have h1 := ha c hc hck
          obtain ⟨x, hx, rfl⟩ := List.mem_map.1 hd
          have hxk : x.k = 1 := by
            unfold shiftI at hk
            split at hk
            · next h => exact h
            · exact hk
          have h2 := var_range (hok x hx) hxk
          have h3 : (shiftI 200 x).n = x.n + 200 := by unfold shiftI; rw [if_pos hxk]
          omega
        rw [if_neg hn, self_at hr2.1 hr2.2]
    · exact absurd eb hne
end Go.Proofs.YtmmnfkggfnokjaaGreat
namespace Go.Proofs.YtmmnfkggfnokjaaGreat
open Go.RowKit

/-! ### the contracts at answers that are known -/
section
variable {w : World} {a a' : Option Addr} {cap cap' : Nat}
theorem umatch {p t : List Cel} {L : List Bnd} {b : Bool} (hp : Row w a cap p) (ht : Row w a' cap' t) (rp : rightB p = true) (rt : rightB t = true) (hL : matchL p t = L) (hb : matchB p t = b) :
    Calls Tryz.prog 47 #[.slice a p.length cap, .slice a' t.length cap'] w fun e w' => ∃ a2 cap2, e = .returned (.tuple #[.slice a2 L.length cap2, .bool b]) ∧ Row w' a2 cap2 L ∧ Below w.heap.size w w' := by
  subst hL; subst hb; exact match_any a cap a' cap' w p t hp ht rp rt
theorem uapply {xs : List Bnd} {ys P : List Cel} {b : Bool} (hx : Row w a cap xs) (hy : Row w a' cap' ys) (hT : ∀ b ∈ xs, b.t.length ≤ 200) (hl : ys.length ≤ 200) (hP : apL xs ys = P) (hb : apB xs ys = b) :
    Calls Tryz.prog 25 #[.slice a xs.length cap, .slice a' ys.length cap'] w fun e w' => ∃ a2 cap2, e = .returned (.tuple #[.slice a2 P.length cap2, .bool b]) ∧ Row w' a2 cap2 P ∧ Below w.heap.size w w' := by
  subst hP; subst hb
  exact (refapply_any a cap a' cap' w xs ys hx hy (fun b hb => Nat.le_trans (hT b hb) (by omega)) (by omega)).mono fun e w' ⟨a2, c2, h1, h2, h3⟩ => ⟨a2, c2, h1, h2.row, h3⟩
theorem usame1 {xs ys : List Cel} {b : Bool} (hx : Row w a cap xs) (hy : Row w a' cap' ys) (h : decide (xs = ys) = b) :
    Calls Tryz.prog 43 #[.slice a xs.length cap, .slice a' ys.length cap'] w fun e w' => e = .returned (.bool b) ∧ Below w.heap.size w w' := by
  subst h; exact refsame_any a cap a' cap' w xs ys hx hy
theorem uground {xs : List Cel} {b : Bool} (hx : Row w a cap xs) (hl : xs.length ≤ 200) (h : groundB xs = b) :
    Calls Tryz.prog 32 #[.slice a xs.length cap] w fun e w' => e = .returned (.bool b) ∧ Below w.heap.size w w' := by
  subst h; exact refground_any a cap w xs hx (by omega)
theorem umade {xs : List Cel} {most : Int} (hx : Row w a cap xs) (h1 : 1 ≤ most) (h2 : most ≤ 200) :
    Calls Tryz.prog 24 #[.slice a xs.length cap, .int .i64 most] w fun e w' => ∃ a' cap' ys, e = .returned (.slice a' ys.length cap') ∧ Row w' a' cap' ys ∧ rightB ys = true ∧ 0 < ys.length ∧ (ys.length : Int) ≤ most ∧ Below w.heap.size w w' := by
  obtain ⟨m, rfl⟩ : ∃ m : Nat, most = (m : Int) := ⟨most.toNat, by omega⟩
  exact (made_any a cap w xs hx m (by omega) (by omega)).mono fun e w' ⟨a2, c2, ys, e1, e2, e3, e4, e5⟩ => ⟨a2, c2, ys, e1, e2, e3, (isT_of_right e3).2.2, by omega, e5⟩
theorem umadeW {xs : List Cel} {most : Int} (hx : Row w a cap xs) (h1 : 1 ≤ most) (h2 : most ≤ 200) :
    Calls Tryz.prog 24 #[.slice a xs.length cap, .int .i64 most] w fun e w' => ∃ a' cap' ys, e = .returned (.slice a' ys.length cap') ∧ MadeAt w a cap xs w' a' cap' ys ∧ rightB ys = true ∧ 0 < ys.length ∧ (ys.length : Int) ≤ most ∧ Below w.heap.size w w' := by
  obtain ⟨m, rfl⟩ : ∃ m : Nat, most = (m : Int) := ⟨most.toNat, by omega⟩
  exact (made_where a cap w xs hx m (by omega) (by omega)).mono fun e w' ⟨a2, c2, ys, e1, e2, e3, e4, e5⟩ => ⟨a2, c2, ys, e1, e2, e3, (isT_of_right e3).2.2, by omega, e5⟩
end
theorem MadeAt.row {w w' : World} {a a' : Option Addr} {cap cap' : Nat} {xs ys : List Cel} (h : MadeAt w a cap xs w' a' cap' ys) (hx : Row w a cap xs) (hb : Below w.heap.size w w') : Row w' a' cap' ys := by
  rcases h with ⟨rfl, rfl, rfl⟩ | h
  · exact hx.below hb
  · exact h.row
theorem row_one (w : World) (c : Cel) (hf : c.fit) : Row (w.alloc (.cells #[.int .i64 c.k, .string c.s, .int .i64 c.n] 42)) (some ⟨w.heap.size, 0, none⟩) 1 [c] := by
  have h := World.ownsRow_lit (base := w.heap.size) (e := 42) (size := 3) w #[.int .i64 c.k, .string c.s, .int .i64 c.n] 1 (Nat.le_refl _) (by unfold maxLen; omega) rfl
  obtain ⟨a, cap, e, hr⟩ := own_row (xs := [c]) (by simpa [flat] using h) (fun d hd => by rw [List.mem_singleton.1 hd]; exact hf)
  cases e
  exact hr
end Go.Proofs.YtmmnfkggfnokjaaGreat

namespace Go.Proofs.YtmmnfkggfnokjaaGreat

/-! ### the document's classes are joining's own -/
/-- closed, as the document closes its classes -/
structure Shut (l : List Cel) (p q : Nat) (V : Nat → Nat) : Prop where
  vars : ∀ a b (ha : a < l.length) (hb : b < l.length), l[a].k = 1 → l[a] = l[b] → V a = V b
  parts : ∀ a b (ha : a < l.length) (hb : b < l.length), V a = V b → l[a].k = 3 → l[a] = l[b] → (argsL l a).map V = (argsL l b).map V
  pair : V p = V q
/-- the least ones that are closed so -/
structure Least (l : List Cel) (p q : Nat) (W : Nat → Nat) : Prop extends Shut l p q W where
  least : ∀ V : Nat → Nat, Shut l p q V → ∀ a b, a < l.length → b < l.length → W a = W b → V a = V b
theorem not_fun {l : List Cel} {a : Nat} (ha : a < l.length) (h : l[a].k ≠ 3) : argsL l a = [] := by
  apply List.eq_nil_of_length_eq_zero
  rw [args_length l ha]; unfold ar; rw [if_neg h]
theorem joined_shut {l : List Cel} (_hG : Good l) {r : List Nat} {p q : Nat} (J : Joined l (ups l) r [(p, q)]) : Shut l p q (fun z => r.getD z 0) := by
  refine ⟨fun a b ha hb hk e => ?_, fun a b ha hb e hk el => ?_, J.done (p, q) (by simp)⟩
  · refine J.mono a b ha hb ?_
    have hkb : l[b].k = 1 := by rw [← e]; exact hk
    have h1 := first_of ha hk
    have h2 := first_of hb hkb
    rw [show l[b].n = l[a].n by rw [e]] at h2
    rw [h1] at h2
    injection h2 with h2
    show (ups l).getD a 0 = (ups l).getD b 0
    rw [ups_get ha, ups_get hb, h2]
  · exact (J.closed a b ha hb e (by omega) (by rw [← el]; omega)).2
/-- two cells that are no variables and not the same, in one of the document's classes: joining ends with none -/
theorem clash_none {l : List Cel} (hG : Good l) {p q : Nat} (hp : p < l.length) (hq : q < l.length) {W : Nat → Nat} (hW : Least l p q W) {a b : Nat} (ha : a < l.length) (hb : b < l.length) (e : W a = W b) (k1 : l[a].k ≠ 1) (k2 : l[b].k ≠ 1) (hne : l[a] ≠ l[b]) (f : Nat) :
    joinL l f (ups l) [(p, q)] = none := by
  cases h : joinL l f (ups l) [(p, q)] with
  | none => rfl
  | some r =>
    exfalso
    have J := joined_ups hG (t := [(p, q)]) (by simp [hp, hq]) h
    exact hne (J.closed a b ha hb (hW.least _ (joined_shut hG J) a b ha hb e) k1 k2).1
/-- no clash: joining ends well, with the document's classes -/
theorem clear_same {l : List Cel} (hG : Good l) {p q : Nat} (hp : p < l.length) (hq : q < l.length) {W : Nat → Nat} (hW : Least l p q W) (hc : ∀ a b (ha : a < l.length) (hb : b < l.length), W a = W b → l[a].k ≠ 1 → l[b].k ≠ 1 → l[a] = l[b]) :
    ∃ r, joinL l (7 * l.length + 1) (ups l) [(p, q)] = some r ∧ ∀ a b, a < l.length → b < l.length → (r.getD a 0 = r.getD b 0 ↔ W a = W b) := by
  have hJ : JoinOk l (ups l) [(p, q)] := laid_ok l _ (by simp [hp, hq])
  have ht : tops (ups l) ≤ l.length := by
    unfold tops
    have h1 := List.length_filter_le (fun k => decide ((ups l).getD k 0 = k)) (List.range (ups l).length)
    rw [List.length_range, hJ.len] at h1
    rw [hJ.len]
    exact h1
  have hV : ValOk l W := ⟨fun x y hx hy e k1 k2 => by
    have el := hc x y hx hy e k1 k2
    refine ⟨el, ?_⟩
    by_cases hk : l[x].k = 3
    · exact hW.parts x y hx hy e hk el
    · rw [not_fun hx hk, not_fun hy (by rw [← el]; exact hk)]⟩
  obtain ⟨r, e1, e2⟩ := join_val hG hV (7 * l.length + 1) (ups l) [(p, q)] hJ (by rw [List.length_singleton]; omega)
    (fun z hz => by
      rw [ups_get hz]
      by_cases hk : l[z].k = 1
      · obtain ⟨h1, _⟩ := upAt_le hz
        have hu : upAt l z < l.length := by omega
        have hf := first_of hz hk
        unfold firstO at hf
        obtain ⟨_, h2, _⟩ := List.findIdx?_eq_some_iff_getElem.1 hf
        simp only [isV, Bool.and_eq_true, decide_eq_true_eq] at h2
        exact hW.vars _ _ hu hz h2.1 (var_eq (good_ok hG hu) (good_ok hG hz) h2.1 hk h2.2)
      · have : upAt l z = z := by unfold upAt; rw [List.getElem?_eq_getElem hz]; simp [hk]
        rw [this])
    (by simp only [List.mem_singleton]; rintro _ rfl; exact hW.pair)
  have J := joined_ups hG (t := [(p, q)]) (by simp [hp, hq]) e1
  exact ⟨r, e1, fun a b ha hb => ⟨fun e => by rw [← e2 a ha, e, e2 b hb], fun e => hW.least _ (joined_shut hG J) a b ha hb e⟩⟩
/-- one class goes to another, for a reason: it stays least -/
theorem least_step {l : List Cel} {p q : Nat} {W : Nat → Nat} (h : ∀ V : Nat → Nat, Shut l p q V → ∀ a b, a < l.length → b < l.length → W a = W b → V a = V b) {x y : Nat} (hx : x < l.length) (hy : y < l.length)
    (hr : ∀ V : Nat → Nat, Shut l p q V → V x = V y) : ∀ V : Nat → Nat, Shut l p q V → ∀ a b, a < l.length → b < l.length →
    (if W a = W x then W y else W a) = (if W b = W x then W y else W b) → V a = V b := by
  intro V hV a b ha hb e
  have h0 := hr V hV
  by_cases h1 : W a = W x
  · rw [if_pos h1] at e
    have a1 := h V hV a x ha hx h1
    by_cases h2 : W b = W x
    · rw [a1, h V hV b x hb hx h2]
    · rw [if_neg h2] at e
      rw [a1, h0, h V hV y b hy hb e]
  · rw [if_neg h1] at e
    by_cases h2 : W b = W x
    · rw [if_pos h2] at e
      rw [h V hV a y ha hy e, ← h0, h V hV b x hb hx h2]
    · rw [if_neg h2] at e
      exact h V hV a b ha hb e
end Go.Proofs.YtmmnfkggfnokjaaGreat
namespace Go.Proofs.YtmmnfkggfnokjaaGreat
open Go.RowKit

/-! ### the document's own functions: places -/
set_option maxHeartbeats 800000 in
theorem end3_any (a : Option Addr) (cap : Nat) (w : World) (l : List Cel) (hx : Row w a cap l) (hG : Good l) {i : Nat} (hi : i < l.length) (hl : l.length ≤ 1000) :
    Calls Tryz.prog 50 #[.slice a l.length cap, .int .i64 i] w fun e w' => e = .returned (.int .i64 (endI l i)) ∧ Below w.heap.size w w' := by
  obtain ⟨q, hq⟩ := hG i hi
  have he : endI l i = (l.length : Int) - q.length := by unfold endI; rw [hq]
  have HQ : Hid (sk 1 (l.drop i) = some q) := hq
  have HE := mkHid he
  have hm := hx.max
  have hle := hx.le
  clear hq he hG
  go_enter Tryz.func50, Tryz.ntmps50
  go_wp2_with fail
  go_loopw [1, 5] (fun at_ lf wr => ∃ (k m : Nat), at_ = .int .i64 k ∧ lf = .int .i64 m ∧ k ≤ l.length ∧ m ≤ 6 * k + 1 ∧ Hid (sk m (l.drop k) = some q) ∧ Below w.heap.size w wr) (fun at_ lf wr => l.length - (intOf at_).toNat)
  case atStart => exact ⟨i, 1, rfl, rfl, by omega, by omega, HQ, Below.refl _ _⟩
  case round =>
    obtain ⟨k, m, rfl, rfl, hk, hmk, HS, hbl⟩ := hrel
    cases m with
    | zero =>
      have HV : Hid ((k : Int) = endI l i) := by
        have h := HS.out
        rw [sk_zero] at h
        injection h with h
        rw [Hid, HE.out, ← h, List.length_drop]
        omega
      clear HS
      go_wp2
      go_ret
      exact ⟨by rw [HV.out]; rfl, hbl⟩
    | succ m =>
      have hlt : k < l.length := by
        by_cases h : k < l.length
        · exact h
        · have h2 := HS.out
          rw [sk_end m l k (by omega)] at h2; cases h2
      have hst := sk_step m l k hlt
      rw [HS.out] at hst
      have hc : cellOk l[k] = true := by
        by_cases h : cellOk l[k] = true
        · exact h
        · rw [if_neg h] at hst; cases hst
      rw [if_pos hc] at hst
      have hsym := hst.symm
      obtain ⟨b, off, rfl, hb, hat⟩ := hx.cases.resolve_left (fun e => by simp [e] at hlt)
      obtain ⟨c0, c1, c2, hf⟩ := cel_at hat hbl hlt
      have hm0 : decide ((0 : Int) < ((m + 1 : Nat) : Int)) = true := decide_eq_true (by omega)
      have hk0 : (0 : Int) ≤ (k : Int) := by omega
      have hk1 : (k : Int) < (l.length : Int) := by omega
      by_cases h3 : l[k].k = 3
      · have t15 : (l[k].k == 3) = true := by simp [h3]
        obtain ⟨n0, n6⟩ := cellOk_fun _ hc t15
        obtain ⟨d, hd⟩ : ∃ d : Nat, l[k].n = (d : Int) := ⟨l[k].n.toNat, by omega⟩
        have har : ar l[k] = d := by unfold ar; rw [if_pos h3, hd]; simp
        rw [hd] at c2
        have HS2 : Hid (sk (m + d) (l.drop (k + 1)) = some q) := by rw [Hid, ← har]; exact hsym
        have hd6 : d ≤ 6 := by omega
        clear h3 hst hsym hc hd har n0 n6 HS
        go_wp2
        go_round
        case rel => exact ⟨k + 1, m + d, by go_num, by go_num, by omega, by omega, HS2, hbl⟩
        case measure => simp [intOf]; omega
      · have t15 : (l[k].k == 3) = false := by simp [h3]
        have har : ar l[k] = 0 := by unfold ar; rw [if_neg h3]
        have HS2 : Hid (sk m (l.drop (k + 1)) = some q) := by rw [har, Nat.add_zero] at hsym; exact hsym
        clear h3 hst hsym hc har HS
        go_wp2
        go_round
        case rel => exact ⟨k + 1, m, by go_num, by go_num, by omega, by omega, HS2, hbl⟩
        case measure => simp [intOf]; omega
/-- places as numbers -/
def natI (l : List Nat) : List Int := l.map fun (n : Nat) => (n : Int)
theorem natI_length (l : List Nat) : (natI l).length = l.length := by unfold natI; rw [List.length_map]
theorem args_take {l : List Cel} {i k : Nat} (hi : i < l.length) (hk : k < ar l[i]) : natI ((argsL l i).take (k + 1)) = natI ((argsL l i).take k) ++ [(argP l i k : Int)] := by
  have h : k < (argsL l i).length := by rw [args_length l hi]; exact hk
  rw [List.take_succ_eq_append_getElem h]
  unfold natI
  rw [List.map_append]
  have : (argsL l i)[k] = argP l i k := by simp [argsL, List.getElem?_eq_getElem hi]
  rw [this]; rfl
theorem argP_lt {l : List Cel} (hG : Good l) {i k : Nat} (hi : i < l.length) (hk : k < ar l[i]) : argP l i k < l.length ∧ endI l (argP l i k) = (argP l i (k + 1) : Int) := by
  have h1 := (good_after hG hi (Nat.le_of_lt hk))
  have h2 := h1.2.2 hk
  have h3 : argP l i k < l.length := by unfold argP; omega
  have h4 := argP_next hG hi hk
  have h5 := end_range hG h3
  exact ⟨h3, by omega⟩
/-! ### one class goes to another -/
def toI (f t : Int) (z : Int) : Int := if z = f then t else z
def upI2 (f t : Int) (cs : List Int) (k : Nat) : List Int := (cs.take k).map (toI f t) ++ cs.drop k
theorem upI2_length (f t : Int) (cs : List Int) (k : Nat) : (upI2 f t cs k).length = cs.length := by
  unfold upI2; simp; omega
theorem upI2_at {f t : Int} {cs : List Int} {k : Nat} (h : k < cs.length) : (upI2 f t cs k)[k]? = some cs[k] := by
  unfold upI2
  rw [List.getElem?_append_right (by simp; omega)]
  have : k - ((cs.take k).map (toI f t)).length = 0 := by simp; omega
  rw [this, List.getElem?_drop, Nat.add_zero, List.getElem?_eq_getElem h]
theorem upI2_succ {f t : Int} {cs : List Int} {k : Nat} (h : k < cs.length) : upI2 f t cs (k + 1) = (upI2 f t cs k).set k (toI f t cs[k]) := by
  unfold upI2
  rw [List.take_succ_eq_append_getElem h, List.map_append, List.append_assoc, List.set_append_right _ _ (by simp; omega)]
  congr 1
  have : k - ((cs.take k).map (toI f t)).length = 0 := by simp; omega
  rw [this, List.drop_eq_getElem_cons h]
  rfl
theorem upI2_same {f t : Int} {cs : List Int} {k : Nat} (h : k < cs.length) (hf : cs[k] ≠ f) : upI2 f t cs (k + 1) = upI2 f t cs k := by
  rw [upI2_succ h]
  have : toI f t cs[k] = cs[k] := if_neg hf
  rw [this]
  have h2 := upI2_at (f := f) (t := t) h
  have hl : k < (upI2 f t cs k).length := by rw [upI2_length]; exact h
  rw [List.getElem?_eq_getElem hl] at h2
  have h3 := Option.some.inj h2
  rw [← h3, List.set_getElem_self]
theorem upI2_fit {f t : Int} {cs : List Int} (k : Nat) (ht : -9223372036854775808 ≤ t ∧ t ≤ 9223372036854775807) (h : ∀ n ∈ cs, -9223372036854775808 ≤ n ∧ n ≤ 9223372036854775807) : ∀ n ∈ upI2 f t cs k, -9223372036854775808 ≤ n ∧ n ≤ 9223372036854775807 := by
  intro n hn
  unfold upI2 at hn
  rcases List.mem_append.1 hn with h1 | h1
  · obtain ⟨m, hm, rfl⟩ := List.mem_map.1 h1
    unfold toI
    split
    · exact ht
    · exact h m (List.mem_of_mem_take hm)
  · exact h n (List.mem_of_mem_drop h1)
theorem row_ints {w : World} {a : Option Addr} {cap : Nat} {cs : List Int} (h : Row w a cap cs) : ∀ n ∈ cs, -9223372036854775808 ≤ n ∧ n ≤ 9223372036854775807 := by
  intro n hn
  obtain ⟨i, hi, rfl⟩ := List.getElem_of_mem hn
  obtain ⟨b, off, rfl, _, hat⟩ := h.cases.resolve_left (fun e => by simp [e] at hi)
  obtain ⟨_, h1, h2⟩ := int_at hat (Below.refl _ _) hi
  exact ⟨h1, h2⟩
theorem crows_vals {w : World} {vs : List Value} {xs : List Int} (h : CRows w vs xs) : vs = xs.map (Value.int .i64) := by
  induction h with
  | nil => rfl
  | cons hc _ ih => obtain ⟨rfl, _⟩ := hc; rw [ih]; rfl
end Go.Proofs.YtmmnfkggfnokjaaGreat
namespace Go.Proofs.YtmmnfkggfnokjaaGreat
open Go.RowKit

/-! ### two places that must be of one class -/
def clsI (n : Nat) (W : Nat → Nat) : List Int := (List.range n).map fun (z : Nat) => ((W z : Nat) : Int)
theorem clsI_length (n : Nat) (W : Nat → Nat) : (clsI n W).length = n := by unfold clsI; simp
theorem clsI_get {n : Nat} {W : Nat → Nat} {k : Nat} (h : k < (clsI n W).length) : (clsI n W)[k] = ((W k : Nat) : Int) := by simp [clsI]
theorem cls_at {w wr : World} {b off n : Nat} {W : Nat → Nat} (hat : ∀ i (hi : i < (clsI n W).length), Rep.E w b (off + i * Rep.sz Int) (clsI n W)[i]) (hb : Below w.heap.size w wr) {k : Nat} (hk : k < n) : wr.cell? ⟨b, off + k, none⟩ = some (.int .i64 ((W k : Nat) : Int)) := by
  have h := (int_at hat hb (k := k) (by rw [clsI_length]; exact hk)).c
  rw [clsI_get] at h; exact h
theorem natI_get {l : List Cel} {k i : Nat} (hk : k < l.length) (h : i < (natI (argsL l k)).length) : (natI (argsL l k))[i] = ((argP l k i : Nat) : Int) := by
  simp [natI, argsL, List.getElem?_eq_getElem hk]
/-- what is asked of two places -/
def Cl (l : List Cel) (W : Nat → Nat) (a b : Nat) : Prop := ∀ (ha : a < l.length) (hb : b < l.length), (l[a].k = 1 → l[a] = l[b] → W a = W b) ∧ (W a = W b → l[a].k = 3 → l[a] = l[b] → ∀ i, i < ar l[a] → W (argP l a i) = W (argP l b i))
def PairYes (l : List Cel) (W : Nat → Nat) (x y : Nat) : Prop := x < l.length ∧ y < l.length ∧ W x ≠ W y ∧ ((∃ (hx : x < l.length) (hy : y < l.length), l[x].k = 1 ∧ l[x] = l[y]) ∨ ∃ (a b i : Nat) (ha : a < l.length) (hb : b < l.length), W a = W b ∧ l[a].k = 3 ∧ l[a] = l[b] ∧ i < ar l[a] ∧ x = argP l a i ∧ y = argP l b i)
def PairNo (l : List Cel) (W : Nat → Nat) : Prop := ∀ a b, a < l.length → b < a → Cl l W a b
def PairPost (l : List Cel) (W : Nat → Nat) (e : Ending) : Prop := (∃ x y : Nat, e = .returned (.tuple #[.int .i64 x, .int .i64 y, .bool true]) ∧ PairYes l W x y) ∨ (e = .returned (.tuple #[.int .i64 0, .int .i64 0, .bool false]) ∧ PairNo l W)
/-- all pairs ahead -/
def Done1 (l : List Cel) (W : Nat → Nat) (k : Nat) : Prop := ∀ a b, a < k → b < a → Cl l W a b
def Done2 (l : List Cel) (W : Nat → Nat) (k m : Nat) : Prop := Done1 l W k ∧ ∀ b, b < m → Cl l W k b
theorem Done2.next {l : List Cel} {W : Nat → Nat} {k m : Nat} (h : Done2 l W k m) (hc : Cl l W k m) : Done2 l W k (m + 1) :=
  ⟨h.1, fun b hb => by
    by_cases e : b = m
    · rw [e]; exact hc
    · exact h.2 b (by omega)⟩
theorem Done2.done {l : List Cel} {W : Nat → Nat} {k m : Nat} (h : Done2 l W k m) (hm : k ≤ m) : Done1 l W (k + 1) := fun a b ha hb => by
  by_cases e : a = k
  · subst e; exact h.2 b (by omega)
  · exact h.1 a b (by omega) hb

end Go.Proofs.YtmmnfkggfnokjaaGreat
namespace Go.Proofs.YtmmnfkggfnokjaaGreat
open Go.RowKit

/-! ### the document's classes -/
theorem filter_lt {p q : Nat → Bool} : ∀ L : List Nat, (∀ z ∈ L, p z = true → q z = true) → (∃ z ∈ L, q z = true ∧ p z = false) → (L.filter p).length < (L.filter q).length
  | [], _, h => by obtain ⟨z, hz, _⟩ := h; cases hz
  | x :: L, h, he => by
    have hle : ∀ L' : List Nat, (∀ z ∈ L', p z = true → q z = true) → (L'.filter p).length ≤ (L'.filter q).length := by
      intro L' h'
      induction L' with
      | nil => simp
      | cons y L' ih =>
        have := ih fun z hz => h' z (List.mem_cons_of_mem _ hz)
        cases hp : p y with
        | true => rw [List.filter_cons_of_pos hp, List.filter_cons_of_pos (h' y List.mem_cons_self hp)]; simp; omega
        | false =>
          rw [List.filter_cons_of_neg (by simp [hp])]
          cases hq : q y with
          | true => rw [List.filter_cons_of_pos hq]; simp; omega
          | false => rw [List.filter_cons_of_neg (by simp [hq])]; exact this
    have h' : ∀ z ∈ L, p z = true → q z = true := fun z hz => h z (List.mem_cons_of_mem _ hz)
    obtain ⟨z, hz, h1, h2⟩ := he
    rcases List.mem_cons.1 hz with rfl | hz
    · rw [List.filter_cons_of_neg (by simp [h2]), List.filter_cons_of_pos h1]
      have := hle L h'
      simp; omega
    · have ih := filter_lt L h' ⟨z, hz, h1, h2⟩
      cases hp : p x with
      | true => rw [List.filter_cons_of_pos hp, List.filter_cons_of_pos (h x List.mem_cons_self hp)]; simp; omega
      | false =>
        rw [List.filter_cons_of_neg (by simp [hp])]
        cases hq : q x with
        | true => rw [List.filter_cons_of_pos hq]; simp; omega
        | false => rw [List.filter_cons_of_neg (by simp [hq])]; exact ih
def cntW (n : Nat) (W : Nat → Nat) : Nat := ((List.range n).filter fun z => decide (W z = z)).length
def merge (W : Nat → Nat) (x y : Nat) (z : Nat) : Nat := if W z = W x then W y else W z
theorem merge_cls (n : Nat) (W : Nat → Nat) (x y : Nat) : (clsI n W).map (toI ((W x : Nat) : Int) ((W y : Nat) : Int)) = clsI n (merge W x y) := by
  unfold clsI
  rw [List.map_map]
  refine List.map_congr_left fun z _ => ?_
  show toI _ _ ((W z : Nat) : Int) = _
  unfold toI merge
  by_cases h : W z = W x
  · rw [if_pos (by omega), if_pos h]
  · rw [if_neg (by omega), if_neg h]
structure ClsInv (l : List Cel) (q : Nat) (W : Nat → Nat) : Prop where
  lt : ∀ z, z < l.length → W z < l.length
  own : ∀ z, z < l.length → W (W z) = W z
  pair : W 0 = W q
  least : ∀ V : Nat → Nat, Shut l 0 q V → ∀ a b, a < l.length → b < l.length → W a = W b → V a = V b
theorem ClsInv.merge {l : List Cel} {q : Nat} {W : Nat → Nat} (h : ClsInv l q W) {x y : Nat} (hx : x < l.length) (hy : y < l.length) (hr : ∀ V : Nat → Nat, Shut l 0 q V → V x = V y) : ClsInv l q (merge W x y) := by
  refine ⟨fun z hz => ?_, fun z hz => ?_, ?_, least_step h.least hx hy hr⟩
  · unfold Go.Proofs.YtmmnfkggfnokjaaGreat.merge; split
    · exact h.lt y hy
    · exact h.lt z hz
  · unfold Go.Proofs.YtmmnfkggfnokjaaGreat.merge
    by_cases e : W z = W x
    · rw [if_pos e, h.own y hy]
      split <;> rfl
    · rw [if_neg e, h.own z hz, if_neg e]
  · unfold Go.Proofs.YtmmnfkggfnokjaaGreat.merge
    rw [h.pair]
theorem ClsInv.less {l : List Cel} {q : Nat} {W : Nat → Nat} (h : ClsInv l q W) {x y : Nat} (hx : x < l.length) (hy : y < l.length) (hne : W x ≠ W y) : cntW l.length (Go.Proofs.YtmmnfkggfnokjaaGreat.merge W x y) < cntW l.length W := by
  unfold cntW
  refine filter_lt _ (fun z hz hp => ?_) ⟨W x, List.mem_range.2 (h.lt x hx), by simp [h.own x hx], ?_⟩
  · have hz := List.mem_range.1 hz
    have hp : Go.Proofs.YtmmnfkggfnokjaaGreat.merge W x y z = z := by simpa using hp
    unfold Go.Proofs.YtmmnfkggfnokjaaGreat.merge at hp
    by_cases e : W z = W x
    · rw [if_pos e] at hp
      have h1 := h.own y hy
      rw [hp] at h1
      omega
    · rw [if_neg e] at hp; simpa using hp
  · have : ¬ Go.Proofs.YtmmnfkggfnokjaaGreat.merge W x y (W x) = W x := by
      unfold Go.Proofs.YtmmnfkggfnokjaaGreat.merge
      rw [if_pos (h.own x hx)]
      exact fun e => hne e.symm
    simpa using this
theorem PairYes.reason {l : List Cel} {q : Nat} {W : Nat → Nat} (hI : ClsInv l q W) {x y : Nat} (h : PairYes l W x y) : ∀ V : Nat → Nat, Shut l 0 q V → V x = V y := by
  intro V hV
  obtain ⟨hx, hy, _, h⟩ := h
  rcases h with ⟨_, _, hk, he⟩ | ⟨a, b, i, ha, hb, hw, hk, he, hi, rfl, rfl⟩
  · exact hV.vars x y hx hy hk he
  · have h1 := hV.parts a b ha hb (hI.least V hV a b ha hb hw) hk he
    have hib : i < ar l[b] := by rw [← he]; exact hi
    have h2 := congrArg (fun L : List Nat => L[i]?) h1
    simp only [List.getElem?_map] at h2
    have e1 : (argsL l a)[i]? = some (argP l a i) := by simp [argsL, List.getElem?_eq_getElem ha, hi]
    have e2 : (argsL l b)[i]? = some (argP l b i) := by simp [argsL, List.getElem?_eq_getElem hb, hib]
    rw [e1, e2] at h2
    simpa using h2
theorem PairNo.shut {l : List Cel} {q : Nat} {W : Nat → Nat} (hI : ClsInv l q W) (h : PairNo l W) : Shut l 0 q W := by
  have two : ∀ a b (ha : a < l.length) (hb : b < l.length), (l[a].k = 1 → l[a] = l[b] → W a = W b) ∧ (W a = W b → l[a].k = 3 → l[a] = l[b] → ∀ i, i < ar l[a] → W (argP l a i) = W (argP l b i)) := by
    intro a b ha hb
    rcases Nat.lt_trichotomy a b with hlt | he | hlt
    · have h1 := h b a hb hlt hb ha
      refine ⟨fun hk e => (h1.1 (by rw [← e]; exact hk) e.symm).symm, fun hw hk e i hi => (h1.2 hw.symm (by rw [← e]; exact hk) e.symm i (by rw [← e]; exact hi)).symm⟩
    · subst he
      exact ⟨fun _ _ => rfl, fun _ _ _ _ _ => rfl⟩
    · exact h a b ha hlt ha hb
  refine ⟨fun a b ha hb hk e => (two a b ha hb).1 hk e, fun a b ha hb hw hk e => ?_, hI.pair⟩
  have har : ar l[b] = ar l[a] := by rw [e]
  unfold argsL
  rw [List.getElem?_eq_getElem ha, List.getElem?_eq_getElem hb]
  simp only [har, List.map_map]
  refine List.map_congr_left fun i hi => ?_
  exact (two a b ha hb).2 hw hk e i (List.mem_range.1 hi)
def ClsPost (l : List Cel) (q : Nat) (e : Ending) (w' : World) : Prop := ∃ (a' : Option Addr) (cap' : Nat) (W : Nat → Nat), e = .returned (.slice a' l.length cap') ∧ Row w' a' cap' (clsI l.length W) ∧ Least l 0 q W ∧ ∀ z, z < l.length → W z < l.length
def SC (bc oc x y : Nat) (W : Nat → Nat) (w' : World) : Prop := w'.cell? ⟨bc, oc + x, none⟩ = some (.int .i64 ((W x : Nat) : Int)) ∧ w'.cell? ⟨bc, oc + y, none⟩ = some (.int .i64 ((W y : Nat) : Int))
theorem range_next (k : Nat) : natI (List.range (k + 1)) = natI (List.range k) ++ [(k : Int)] := by unfold natI; rw [List.range_succ, List.map_append]; rfl
theorem first_cls (n q : Nat) : (natI (List.range n)).map (toI (q : Int) 0) = clsI n fun z => if z = q then 0 else z := by
  unfold natI clsI
  rw [List.map_map]
  refine List.map_congr_left fun z _ => ?_
  show toI (q : Int) 0 (z : Int) = (((if z = q then 0 else z : Nat)) : Int)
  unfold toI
  by_cases h : z = q
  · rw [if_pos (by omega), if_pos h]; rfl
  · rw [if_neg (by omega), if_neg h]
theorem first_inv {l : List Cel} {q : Nat} (h0 : 0 < l.length) : ClsInv l q fun z => if z = q then 0 else z := by
  refine ⟨fun z hz => ?_, fun z hz => ?_, ?_, fun V hV a b ha hb e => ?_⟩
  · show (if z = q then 0 else z) < _
    split <;> omega
  · show (if (if z = q then 0 else z) = q then 0 else (if z = q then 0 else z)) = if z = q then 0 else z
    by_cases h : z = q
    · rw [if_pos h]; split <;> rfl
    · rw [if_neg h, if_neg h]
  · show (if 0 = q then 0 else 0) = if q = q then 0 else q
    rw [if_pos rfl]; split <;> rfl
  · have e : (if a = q then 0 else a) = if b = q then 0 else b := e
    have hp := hV.pair
    by_cases h1 : a = q
    · by_cases h2 : b = q
      · rw [h1, h2]
      · rw [if_pos h1, if_neg h2] at e
        rw [h1, ← e, hp]
    · by_cases h2 : b = q
      · rw [if_neg h1, if_pos h2] at e
        rw [h2, e, hp]
      · rw [if_neg h1, if_neg h2] at e
        rw [e]

end Go.Proofs.YtmmnfkggfnokjaaGreat
namespace Go.Proofs.YtmmnfkggfnokjaaGreat
open Go.RowKit

/-! ### a clash; what a class does; its least variable -/
def CP (l : List Cel) (W : Nat → Nat) (a b : Nat) : Prop := ∃ (ha : a < l.length) (hb : b < l.length), W a = W b ∧ l[a].k ≠ 1 ∧ l[b].k ≠ 1 ∧ l[a] ≠ l[b]
def ClashPost (l : List Cel) (W : Nat → Nat) (e : Ending) : Prop := (e = .returned (.bool true) ∧ ∃ a b, CP l W a b) ∨ (e = .returned (.bool false) ∧ ∀ a b, a < l.length → b < a → ¬ CP l W a b)
def Cd1 (l : List Cel) (W : Nat → Nat) (k : Nat) : Prop := ∀ a b, a < k → b < a → ¬ CP l W a b
def Cd2 (l : List Cel) (W : Nat → Nat) (k m : Nat) : Prop := Cd1 l W k ∧ ∀ b, b < m → ¬ CP l W k b
theorem Cd2.next {l : List Cel} {W : Nat → Nat} {k m : Nat} (h : Cd2 l W k m) (hc : ¬ CP l W k m) : Cd2 l W k (m + 1) :=
  ⟨h.1, fun b hb => by
    by_cases e : b = m
    · rw [e]; exact hc
    · exact h.2 b (by omega)⟩
theorem Cd2.done {l : List Cel} {W : Nat → Nat} {k m : Nat} (h : Cd2 l W k m) (hm : k ≤ m) : Cd1 l W (k + 1) := fun a b ha hb => by
  by_cases e : a = k
  · subst e; exact h.2 b (by omega)
  · exact h.1 a b (by omega) hb
theorem cls_ne {n : Nat} {W : Nat → Nat} {cap' : Nat} {w : World} {a' : Option Addr} {k : Nat} (hc : Row w a' cap' (clsI n W)) (hk : k < n) : ∃ bc oc, a' = some ⟨bc, oc, none⟩ ∧ ∀ i (hi : i < (clsI n W).length), Rep.E w bc (oc + i * Rep.sz Int) (clsI n W)[i] := by
  obtain ⟨bc, oc, e, _, hatc⟩ := hc.cases.resolve_left (fun e => by have h2 := congrArg List.length e; rw [clsI_length] at h2; simp at h2; omega)
  exact ⟨bc, oc, e, hatc⟩

/-- a place of a class that is no variable, the first one -/
def noVar (l : List Cel) (i : Nat) : Bool := match l[i]? with
  | none => false
  | some c => !decide (c.k = 1)
def doesF (l : List Cel) (W : Nat → Nat) (c : Nat) : Nat → Option Nat
  | 0 => none
  | i + 1 => (doesF l W c i).or (if W i = c ∧ noVar l i = true then some i else none)
def doesI (l : List Cel) (W : Nat → Nat) (c : Nat) : Int := match doesF l W c l.length with
  | none => -1
  | some i => i
theorem does_le {l : List Cel} {W : Nat → Nat} {c : Nat} {i j k : Nat} (h : doesF l W c i = some j) (hik : i ≤ k) : doesF l W c k = some j := by
  induction k with
  | zero => have : i = 0 := by omega
            subst this; exact h
  | succ k ih =>
    by_cases e : i = k + 1
    · rw [← e]; exact h
    · unfold doesF
      rw [ih (by omega)]; rfl
theorem does_step {l : List Cel} {W : Nat → Nat} {c i : Nat} (hi : i < l.length) (h : doesF l W c i = none) (hw : W i = c) (hv : l[i].k ≠ 1) : doesI l W c = i := by
  have : doesF l W c (i + 1) = some i := by
    unfold doesF
    rw [h, if_pos ⟨hw, by simp [noVar, List.getElem?_eq_getElem hi, hv]⟩]; rfl
  unfold doesI
  rw [does_le this (by omega)]
theorem does_no {l : List Cel} {W : Nat → Nat} {c i : Nat} (hi : i < l.length) (h : doesF l W c i = none) (hn : ¬ (W i = c ∧ l[i].k ≠ 1)) : doesF l W c (i + 1) = none := by
  unfold doesF
  rw [h, if_neg ?_]; rfl
  rintro ⟨h1, h2⟩
  refine hn ⟨h1, fun h3 => ?_⟩
  simp [noVar, List.getElem?_eq_getElem hi, h3] at h2

/-- the least variable of a class -/
def leastUp (l : List Cel) (W : Nat → Nat) (c : Nat) : Nat → Int
  | 0 => 1000
  | i + 1 => match l[i]? with
    | none => leastUp l W c i
    | some x => if W i = c ∧ x.k = 1 then min (leastUp l W c i) x.n else leastUp l W c i
theorem least_yes {l : List Cel} {W : Nat → Nat} {c i : Nat} (hi : i < l.length) (hw : W i = c) (hv : l[i].k = 1) : leastUp l W c (i + 1) = min (leastUp l W c i) l[i].n := by
  rw [leastUp, List.getElem?_eq_getElem hi]; simp only; rw [if_pos ⟨hw, hv⟩]
theorem least_no {l : List Cel} {W : Nat → Nat} {c i : Nat} (hi : i < l.length) (hn : ¬ (W i = c ∧ l[i].k = 1)) : leastUp l W c (i + 1) = leastUp l W c i := by
  rw [leastUp, List.getElem?_eq_getElem hi]; simp only; rw [if_neg hn]

end Go.Proofs.YtmmnfkggfnokjaaGreat
