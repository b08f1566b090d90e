import Derived.Test.YtkgebkinlpmpnaaZr3
import Derived.Deep.RegionHeld3
import Derived.Deep.AppendLies
import Derived.StillTailTactics
namespace Go.Proofs.Ytkgebkinlpmpnaa

/-! ### the document's rounds come to the same -/
theorem raise1_G {n : Nat} {m O : List Int} (hO : O.length = n) {x : Lk} (hx : In n x.f) {p : Int} (hp : In n p) : G (raise1 m O x) p = if x.f = p then max (G O p) (G m x.t + negI x.neg) else G O p := by
  unfold raise1
  have e1 : O.getD x.f.toNat 0 = G O x.f := rfl
  have e2 : m.getD x.t.toNat 0 = G m x.t := rfl
  rw [e1, e2]
  by_cases h : G O x.f < G m x.t + negI x.neg
  · rw [if_pos h, G_set hO hx hp]
    by_cases e : x.f = p
    · subst e; rw [if_pos rfl, if_pos rfl]; omega
    · rw [if_neg e, if_neg e]
  · rw [if_neg h]
    by_cases e : x.f = p
    · subst e; rw [if_pos rfl]; omega
    · rw [if_neg e]
theorem raise1_len (m O : List Int) (x : Lk) : (raise1 m O x).length = O.length := by unfold raise1; split <;> simp
/-- raising: never lower; as high as each link asks; no higher than any bound that all links keep -/
theorem raiseG {n : Nat} {m : List Int} : ∀ (l : List Lk) (O : List Int), O.length = n → LkIn n l →
    (l.foldl (raise1 m) O).length = n ∧ (∀ p, In n p → G O p ≤ G (l.foldl (raise1 m) O) p) ∧ (∀ x ∈ l, G m x.t + negI x.neg ≤ G (l.foldl (raise1 m) O) x.f) ∧
    (∀ (c : Int → Int), (∀ p, In n p → G O p ≤ c p) → (∀ x ∈ l, G m x.t + negI x.neg ≤ c x.f) → ∀ p, In n p → G (l.foldl (raise1 m) O) p ≤ c p)
  | [], O, hO, _ => ⟨hO, fun _ _ => Int.le_refl _, fun x hx => by simp at hx, fun _ h _ => h⟩
  | x :: l, O, hO, hl => by
    obtain ⟨h1, h2, _⟩ := hl x (by simp)
    have hxf : In n x.f := ⟨h1, h2⟩
    obtain ⟨i1, i2, i3, i4⟩ := raiseG (m := m) l (raise1 m O x) (by rw [raise1_len]; exact hO) (fun y hy => hl y (by simp [hy]))
    have hg := fun p hp => raise1_G (m := m) (x := x) hO hxf (p := p) hp
    refine ⟨i1, fun p hp => ?_, fun y hy => ?_, fun c hc hcl p hp => i4 c (fun q hq => ?_) (fun y hy => hcl y (by simp [hy])) p hp⟩
    · have := i2 p hp
      rw [hg p hp] at this
      rw [List.foldl_cons]
      split at this <;> omega
    · rw [List.foldl_cons]
      rcases List.mem_cons.1 hy with rfl | hy
      · have := i2 y.f hxf
        rw [hg y.f hxf, if_pos rfl] at this
        omega
      · exact i3 y hy
    · rw [hg q hq]
      have h3 := hc q hq
      by_cases e : x.f = q
      · subst e; rw [if_pos rfl]
        have := hcl x (by simp)
        omega
      · rw [if_neg e]; exact h3
theorem raiseL_G {n : Nat} {k : List Lk} (hk : LkIn n k) {m : List Int} (hm : m.length = n) :
    (raiseL m k).length = n ∧ (∀ p, In n p → G m p ≤ G (raiseL m k) p) ∧ (∀ x ∈ k, G m x.t + negI x.neg ≤ G (raiseL m k) x.f) ∧
    (∀ (c : Int → Int), (∀ p, In n p → G m p ≤ c p) → (∀ x ∈ k, G m x.t + negI x.neg ≤ c x.f) → ∀ p, In n p → G (raiseL m k) p ≤ c p) := raiseG k m hm hk
def sumI (l : List Int) : Int := l.foldr (· + ·) 0
theorem sum_le : ∀ {a b : List Int}, a.length = b.length → (∀ i (h1 : i < a.length) (h2 : i < b.length), a[i] ≤ b[i]) → sumI a ≤ sumI b ∧ (sumI a = sumI b → a = b)
  | [], [], _, _ => ⟨Int.le_refl _, fun _ => rfl⟩
  | x :: a, y :: b, hl, h => by
    have h0 : x ≤ y := h 0 (by simp) (by simp)
    obtain ⟨h1, h2⟩ := sum_le (a := a) (b := b) (by simpa using hl) (fun i hi hj => h (i + 1) (by simpa using hi) (by simpa using hj))
    simp only [sumI, List.foldr_cons] at h1 h2 ⊢
    refine ⟨by omega, fun e => ?_⟩
    have e1 : x = y := by omega
    rw [e1, h2 (by omega)]
theorem sum_top : ∀ {a : List Int} {c : Int}, (∀ x ∈ a, x ≤ c) → sumI a ≤ a.length * c
  | [], _, _ => by simp [sumI]
  | x :: a, c, h => by
    have h0 := h x (by simp)
    have := sum_top (a := a) (c := c) fun y hy => h y (by simp [hy])
    simp only [sumI, List.foldr_cons, List.length_cons] at this ⊢
    have : ((a.length + 1 : Nat) : Int) * c = a.length * c + c := by rw [Int.natCast_add, Int.add_mul]; simp
    omega
theorem G_get {a : List Int} {i : Nat} (h : i < a.length) : G a i = a[i] := by
  unfold G
  rw [List.getD_eq_getElem?_getD, Int.toNat_natCast, List.getElem?_eq_getElem h]; rfl
theorem levGo_ok {n : Nat} {k : List Lk} (hk : LkIn n k) (hex : (∃ b, Sat n k b) → ∃ a, Sat n k a ∧ ∀ p, In n p → G a p ≤ n) :
    ∀ (g : Nat) {m : List Int}, m.length = n → (∀ p, In n p → 0 ≤ G m p ∧ G m p ≤ n) → (∀ b, Sat n k b → ∀ p, In n p → G m p ≤ G b p) → (n : Int) * n < sumI m + g →
    match levGo n k g m with
    | none => ∀ b, ¬ Sat n k b
    | some a => Least n k a
  | 0, m, hm, hb, hl, hg => by
    exfalso
    have := sum_top (a := m) (c := n) fun x hx => by
      obtain ⟨p, hp, rfl⟩ := mem_G hm hx
      exact (hb p hp).2
    rw [hm] at this
    omega
  | g + 1, m, hm, hb, hl, hg => by
    obtain ⟨r1, r2, r3, r4⟩ := raiseL_G hk hm
    have hlow : ∀ b, Sat n k b → ∀ p, In n p → G (raiseL m k) p ≤ G b p := fun b hs => r4 (G b) (hl b hs) fun x hx => by
      obtain ⟨_, _, h3, h4⟩ := hk x hx
      have := hs.lk x hx
      have := hl b hs x.t ⟨h3, h4⟩
      omega
    by_cases he : raiseL m k = m
    · have : levGo n k (g + 1) m = some m := by rw [levGo, if_pos he]
      rw [this]
      rw [he] at r3
      exact ⟨⟨hm, fun p hp => (hb p hp).1, r3⟩, hl, fun p hp => (hb p hp).2⟩
    · cases ha : (raiseL m k).any fun x => decide ((n : Int) < x) with
      | true =>
        have : levGo n k (g + 1) m = none := by rw [levGo, if_neg he, if_pos ha]
        rw [this]
        intro b hs
        obtain ⟨a, hsa, hat⟩ := hex ⟨b, hs⟩
        obtain ⟨x, hx, hgt⟩ := List.any_eq_true.1 ha
        simp at hgt
        obtain ⟨p, hp, rfl⟩ := mem_G r1 hx
        have h1 := hlow a hsa p hp
        have h2 := hat p hp
        omega
      | false =>
        have : levGo n k (g + 1) m = levGo n k g (raiseL m k) := by rw [levGo, if_neg he, if_neg (by rw [ha]; simp)]
        rw [this]
        refine levGo_ok hk hex g r1 (fun p hp => ⟨by have := r2 p hp; have := (hb p hp).1; omega, ?_⟩) hlow ?_
        · have h1 := List.any_eq_false.1 ha _ (G_mem r1 hp)
          simp at h1
          exact h1
        · obtain ⟨s1, s2⟩ := sum_le (a := m) (b := raiseL m k) (by omega) (fun i h1 h2 => by
            have := r2 i ⟨by omega, by omega⟩
            rwa [G_get h1, G_get h2] at this)
          have : sumI m ≠ sumI (raiseL m k) := fun e => he (s2 e).symm
          omega
theorem levelsOf_ok {n : Nat} {k : List Lk} (hk : LkIn n k) : match levelsOf n k with
    | none => ∀ b, ¬ Sat n k b
    | some a => Least n k a := by
  refine levGo_ok hk (fun ⟨b, hb⟩ => ?_) (n * n + n + 1) (by simp) (fun p hp => by rw [G_rep]; omega) (fun b hb p hp => by rw [G_rep]; exact hb.pos p hp) ?_
  · have := levelsP_ok hk
    cases e : levelsP n k with
    | none => rw [e] at this; exact absurd hb (this b)
    | some a => rw [e] at this; exact ⟨a, this.sat, this.top⟩
  · have : ∀ j, sumI (List.replicate j (0 : Int)) = 0 := fun j => by
      induction j with
      | zero => rfl
      | succ j ih => rw [List.replicate_succ]; simp only [sumI, List.foldr_cons] at ih ⊢; omega
    rw [this]
    simp only [Int.natCast_add, Int.natCast_mul]
    omega
theorem levels_same {n : Nat} {k : List Lk} (hk : LkIn n k) : levelsP n k = levelsOf n k := by
  have h1 := levelsP_ok hk
  have h2 := levelsOf_ok hk
  cases e1 : levelsP n k with
  | none =>
    cases e2 : levelsOf n k with
    | none => rfl
    | some a => rw [e1] at h1; rw [e2] at h2; exact absurd h2.sat (h1 a)
  | some a =>
    cases e2 : levelsOf n k with
    | none => rw [e1] at h1; rw [e2] at h2; exact absurd h1.sat (h2 a)
    | some b => rw [e1] at h1; rw [e2] at h2; rw [h1.unique h2]
end Go.Proofs.Ytkgebkinlpmpnaa
namespace Go.Proofs.Ytkgebkinlpmpnaa

/-! ### no predicate leads back to itself through a negation -/
inductive Reach (k : List Lk) : Int → Int → Prop where
  | refl (p : Int) : Reach k p p
  | step {x : Lk} {q : Int} : x ∈ k → Reach k x.t q → Reach k x.f q
theorem Reach.trans {k : List Lk} {p q r : Int} (h : Reach k p q) (h2 : Reach k q r) : Reach k p r := by
  induction h with
  | refl => exact h2
  | step hx _ ih => exact .step hx (ih h2)
theorem Reach.sat {n : Nat} {k : List Lk} {b : List Int} (hb : Sat n k b) {p q : Int} (h : Reach k p q) : G b q ≤ G b p := by
  induction h with
  | refl => exact Int.le_refl _
  | @step x q hx _ ih =>
    have h1 := hb.lk x hx
    have h2 := negI_le x.neg
    omega
/-- leads to it through a negation -/
def RN (k : List Lk) (p q : Int) : Prop := ∃ x ∈ k, x.neg = true ∧ Reach k p x.f ∧ Reach k x.t q
def Cycle (k : List Lk) : Prop := ∃ x ∈ k, x.neg = true ∧ Reach k x.t x.f
theorem filter_le {α : Type} {p q : α → Bool} : ∀ {l : List α}, (∀ x ∈ l, p x = true → q x = true) → (l.filter p).length ≤ (l.filter q).length
  | [], _ => Nat.le_refl _
  | a :: l, h => by
    have ih := filter_le (l := l) fun x hx => h x (by simp [hx])
    have h0 := h a (by simp)
    rw [List.filter_cons, List.filter_cons]
    cases hp : p a with
    | true => rw [h0 hp]; simp; exact ih
    | false => cases q a <;> simp <;> omega
theorem filter_lt {α : Type} {p q : α → Bool} : ∀ {l : List α}, (∀ x ∈ l, p x = true → q x = true) → ∀ y ∈ l, p y = false → q y = true → (l.filter p).length < (l.filter q).length
  | [], _, y, hy, _, _ => by simp at hy
  | a :: l, h, y, hy, h1, h2 => by
    have h0 := h a (by simp)
    have hle := filter_le (l := l) fun x hx => h x (by simp [hx])
    rw [List.filter_cons, List.filter_cons]
    rcases List.mem_cons.1 hy with rfl | hy
    · rw [h1, h2]; simp; omega
    · have ih := filter_lt (l := l) (fun x hx => h x (by simp [hx])) y hy h1 h2
      cases hp : p a with
      | true => rw [h0 hp]; simp; exact ih
      | false => cases q a <;> simp <;> omega
theorem cdec {p : Prop} : @decide p (Classical.propDecidable p) = true ↔ p := @decide_eq_true_iff p (Classical.propDecidable p)
theorem no_sat_iff {n : Nat} {k : List Lk} (hk : LkIn n k) : (∀ b, ¬ Sat n k b) ↔ Cycle k := by
  constructor
  · intro h
    apply Classical.byContradiction
    intro hc
    refine h ((List.range n).map fun (p : Nat) => (((List.range n).filter fun (q : Nat) => @decide (RN k p q) (Classical.propDecidable _)).length : Int)) ⟨by simp, fun p hp => ?_, fun x hx => ?_⟩
    · unfold In at hp
      unfold G
      rw [List.getD_eq_getElem?_getD, List.getElem?_map, List.getElem?_range (by omega)]
      simp
    · obtain ⟨h1, h2, h3, h4⟩ := hk x hx
      have hg : ∀ p, In n p → G ((List.range n).map fun (p : Nat) => (((List.range n).filter fun (q : Nat) => @decide (RN k p q) (Classical.propDecidable _)).length : Int)) p = (((List.range n).filter fun (q : Nat) => @decide (RN k p q) (Classical.propDecidable _)).length : Int) := fun p hp => by
        unfold In at hp
        unfold G
        rw [List.getD_eq_getElem?_getD, List.getElem?_map, List.getElem?_range (by omega)]
        simp only [Option.map_some, Option.getD_some]
        rw [show ((p.toNat : Nat) : Int) = p by omega]
      rw [hg _ ⟨h1, h2⟩, hg _ ⟨h3, h4⟩]
      have hsub : ∀ (q : Nat), RN k x.t q → RN k x.f q := fun q ⟨y, hy, hn, a, b⟩ => ⟨y, hy, hn, .step hx a, b⟩
      cases hN : x.neg with
      | false =>
        have := filter_le (l := List.range n) (p := fun (q : Nat) => @decide (RN k x.t q) (Classical.propDecidable _)) (q := fun (q : Nat) => @decide (RN k x.f q) (Classical.propDecidable _)) (fun q _ hq => by
          exact cdec.2 (hsub q (cdec.1 hq)))
        simp only [negI]
        simp
        omega
      | true =>
        have hnot : ¬ RN k x.t x.t := fun ⟨y, hy, hn, a, b⟩ => hc ⟨y, hy, hn, b.trans a⟩
        have e1 : ((x.t.toNat : Nat) : Int) = x.t := by omega
        have := filter_lt (l := List.range n) (p := fun (q : Nat) => @decide (RN k x.t q) (Classical.propDecidable _)) (q := fun (q : Nat) => @decide (RN k x.f q) (Classical.propDecidable _)) (fun q _ hq => by
          exact cdec.2 (hsub q (cdec.1 hq))) x.t.toNat (by simp; omega) (by rw [e1]; exact Bool.eq_false_iff.2 fun h => hnot (cdec.1 h)) (by rw [e1]; exact cdec.2 ⟨x, hx, hN, .refl _, .refl _⟩)
        simp only [negI, if_true]
        omega
  · rintro ⟨x, hx, hn, hr⟩ b hb
    have h1 := hb.lk x hx
    have h2 := hr.sat hb
    rw [hn] at h1
    simp only [negI, if_true] at h1
    omega
/-- each level above 0 is asked for -/
theorem Least.asked {n : Nat} {k : List Lk} (hk : LkIn n k) {a : List Int} (h : Least n k a) {p : Int} (hp : In n p) (h0 : 0 < G a p) : ∃ x ∈ k, x.f = p ∧ G a p = G a x.t + negI x.neg := by
  apply Classical.byContradiction
  intro hc
  have hlt : ∀ x ∈ k, x.f = p → G a x.t + negI x.neg < G a p := fun x hx e => by
    have := h.sat.lk x hx
    rw [e] at this
    have : G a p ≠ G a x.t + negI x.neg := fun e2 => hc ⟨x, hx, e, e2⟩
    omega
  have hs : Sat n k (a.set p.toNat (G a p - 1)) := by
    refine ⟨by simp [h.sat.len], fun q hq => ?_, fun x hx => ?_⟩
    · rw [G_set h.sat.len hp hq]; split
      · omega
      · exact h.sat.pos q hq
    · obtain ⟨h1, h2, h3, h4⟩ := hk x hx
      rw [G_set h.sat.len hp ⟨h1, h2⟩, G_set h.sat.len hp ⟨h3, h4⟩]
      have hx1 := h.sat.lk x hx
      by_cases e1 : p = x.f
      · have hl := hlt x hx e1.symm
        rw [if_pos e1]
        split
        next e2 => have := negI_le x.neg; rw [← e2] at hl; omega
        next => omega
      · rw [if_neg e1]
        split
        next e2 => rw [e2]; omega
        next => exact hx1
  have := h.low _ hs p hp
  rw [G_set h.sat.len hp hp, if_pos rfl] at this
  omega

/-! ### what a predicate leads to -/
def BG (l : List Bool) (p : Int) : Bool := l.getD p.toNat false
def lead1 (n : Nat) (q : Int) (so : List Bool) (x : Lk) : List Bool := if x.f = q ∨ x.f < (n : Int) ∧ BG so x.f = true then so.set x.t.toNat true else so
def sweepL (n : Nat) (k : List Lk) (q : Int) (so : List Bool) : List Bool := k.foldl (lead1 n q) so
def leadsGo (n : Nat) (k : List Lk) (q : Int) : Nat → List Bool → List Bool
  | 0, so => so
  | g + 1, so => leadsGo n k q g (sweepL n k q so)
def leadsL (k : List Lk) (q : Int) (n : Nat) : List Bool := leadsGo n k q (n + 1) (List.replicate n false)
theorem BG_set {l : List Bool} {n : Nat} (hl : l.length = n) {p q : Int} (hp : In n p) (hq : In n q) (x : Bool) : BG (l.set p.toNat x) q = if p = q then x else BG l q := by
  unfold BG In at *
  rw [List.getD_eq_getElem?_getD, List.getD_eq_getElem?_getD, List.getElem?_set]
  by_cases e : p = q
  · subst e
    have : p.toNat < l.length := by omega
    simp [this]
  · have : ¬ p.toNat = q.toNat := by omega
    simp [this, e]
theorem lead1_len (n : Nat) (q : Int) (so : List Bool) (x : Lk) : (lead1 n q so x).length = so.length := by unfold lead1; split <;> simp
theorem lead1_up {n : Nat} {q : Int} {so : List Bool} (hl : so.length = n) {x : Lk} (ht : In n x.t) {p : Int} (hp : In n p) (h : BG so p = true) : BG (lead1 n q so x) p = true := by
  unfold lead1
  split
  · rw [BG_set hl ht hp]; split
    · rfl
    · exact h
  · exact h
theorem sweep_len (n : Nat) (q : Int) : ∀ (k : List Lk) (so : List Bool), (sweepL n k q so).length = so.length
  | [], _ => rfl
  | x :: k, so => by
    have := sweep_len n q k (lead1 n q so x)
    rw [lead1_len] at this
    exact this
theorem sweep_up {n : Nat} {q : Int} : ∀ (k : List Lk) {so : List Bool}, LkIn n k → so.length = n → ∀ p, In n p → BG so p = true → BG (sweepL n k q so) p = true
  | [], _, _, _, _, _, h => h
  | x :: k, so, hk, hl, p, hp, h => by
    obtain ⟨_, _, h3, h4⟩ := hk x (by simp)
    exact sweep_up k (so := lead1 n q so x) (fun y hy => hk y (by simp [hy])) (by rw [lead1_len]; exact hl) p hp (lead1_up hl ⟨h3, h4⟩ hp h)
/-- behind a sweep what was led to leads on -/
theorem sweep_on {n : Nat} {q : Int} : ∀ (k : List Lk) {so : List Bool}, LkIn n k → so.length = n → ∀ x ∈ k, (x.f = q ∨ BG so x.f = true) → BG (sweepL n k q so) x.t = true
  | [], _, _, _, x, hx, _ => by simp at hx
  | y :: k, so, hk, hl, x, hx, h => by
    obtain ⟨h1, h2, h3, h4⟩ := hk y (by simp)
    have hk' : LkIn n k := fun z hz => hk z (by simp [hz])
    have hl' : (lead1 n q so y).length = n := by rw [lead1_len]; exact hl
    rcases List.mem_cons.1 hx with rfl | hx
    · refine sweep_up k (so := lead1 n q so x) hk' hl' x.t ⟨h3, h4⟩ ?_
      unfold lead1
      rw [if_pos (by rcases h with h | h
                     · exact .inl h
                     · exact .inr ⟨h2, h⟩), BG_set hl ⟨h3, h4⟩ ⟨h3, h4⟩, if_pos rfl]
    · obtain ⟨g1, g2, _⟩ := hk' x hx
      exact sweep_on k (so := lead1 n q so y) hk' hl' x hx (by
        rcases h with h | h
        · exact .inl h
        · exact .inr (lead1_up hl ⟨h3, h4⟩ ⟨g1, g2⟩ h))
theorem sweep_sound {n : Nat} {q : Int} {K : List Lk} : ∀ (k : List Lk) {so : List Bool}, (∀ x ∈ k, x ∈ K) → LkIn n K → so.length = n → (∀ p, In n p → BG so p = true → ∃ x ∈ K, x.f = q ∧ Reach K x.t p) →
    ∀ p, In n p → BG (sweepL n k q so) p = true → ∃ x ∈ K, x.f = q ∧ Reach K x.t p
  | [], _, _, _, _, h => h
  | y :: k, so, hs, hk, hl, h => by
    obtain ⟨h1, h2, h3, h4⟩ := hk y (hs y (by simp))
    refine sweep_sound k (so := lead1 n q so y) (fun z hz => hs z (by simp [hz])) hk (by rw [lead1_len]; exact hl) fun p hp hb => ?_
    unfold lead1 at hb
    split at hb
    next hc =>
      rw [BG_set hl ⟨h3, h4⟩ hp] at hb
      by_cases e : y.t = p
      · rcases hc with hc | ⟨_, hc⟩
        · exact ⟨y, hs y (by simp), hc, by rw [e]; exact .refl _⟩
        · obtain ⟨x, hx, e1, hr⟩ := h y.f ⟨h1, h2⟩ hc
          exact ⟨x, hx, e1, hr.trans (.step (hs y (by simp)) (by rw [e]; exact .refl _))⟩
      · rw [if_neg e] at hb; exact h p hp hb
    next => exact h p hp hb
theorem leadsGo_len (n : Nat) (k : List Lk) (q : Int) : ∀ (g : Nat) (so : List Bool), (leadsGo n k q g so).length = so.length
  | 0, _ => rfl
  | g + 1, so => by rw [leadsGo, leadsGo_len, sweep_len]
theorem leadsGo_sound {n : Nat} {k : List Lk} (hk : LkIn n k) {q : Int} : ∀ (g : Nat) {so : List Bool}, so.length = n → (∀ p, In n p → BG so p = true → ∃ x ∈ k, x.f = q ∧ Reach k x.t p) →
    ∀ p, In n p → BG (leadsGo n k q g so) p = true → ∃ x ∈ k, x.f = q ∧ Reach k x.t p
  | 0, _, _, h => h
  | g + 1, so, hl, h => leadsGo_sound hk g (by rw [sweep_len]; exact hl) (sweep_sound k (fun _ h => h) hk hl h)
def trues (l : List Bool) : Nat := (l.filter id).length
theorem trues_le : ∀ {a b : List Bool}, a.length = b.length → (∀ i (h1 : i < a.length) (h2 : i < b.length), a[i] = true → b[i] = true) → trues a ≤ trues b ∧ (trues a = trues b → a = b)
  | [], [], _, _ => ⟨Nat.le_refl _, fun _ => rfl⟩
  | x :: a, y :: b, hl, h => by
    have h0 : x = true → y = true := h 0 (by simp) (by simp)
    obtain ⟨h1, h2⟩ := trues_le (a := a) (b := b) (by simpa using hl) (fun i hi hj => h (i + 1) (by simpa using hi) (by simpa using hj))
    unfold trues at h1 h2 ⊢
    rw [List.filter_cons, List.filter_cons]
    cases x <;> cases y <;> simp at h0 ⊢
    · exact ⟨h1, h2⟩
    · exact ⟨by omega, fun e => by omega⟩
    · exact ⟨h1, h2⟩
theorem BG_get {a : List Bool} {i : Nat} (h : i < a.length) : BG a i = a[i] := by
  unfold BG
  rw [List.getD_eq_getElem?_getD, Int.toNat_natCast, List.getElem?_eq_getElem h]; rfl
theorem leadsGo_same {n : Nat} {k : List Lk} {q : Int} {so : List Bool} (h : sweepL n k q so = so) : ∀ g, leadsGo n k q g so = so
  | 0 => rfl
  | g + 1 => by rw [leadsGo, h, leadsGo_same h g]
theorem leadsGo_on {n : Nat} {k : List Lk} (hk : LkIn n k) {q : Int} : ∀ (g : Nat) {so : List Bool}, so.length = n → n < trues so + g → ∀ x ∈ k, (x.f = q ∨ BG (leadsGo n k q g so) x.f = true) → BG (leadsGo n k q g so) x.t = true
  | 0, so, hl, hg, _, _, _ => by
    have : trues so ≤ so.length := List.length_filter_le _ _
    omega
  | g + 1, so, hl, hg, x, hx, h => by
    by_cases e : sweepL n k q so = so
    · rw [leadsGo_same e] at h ⊢
      have := sweep_on k hk hl x hx h
      rwa [e] at this
    · obtain ⟨h1, h2⟩ := trues_le (a := so) (b := sweepL n k q so) (by rw [sweep_len]) (fun i hi hj hb => by
        have := sweep_up (q := q) k hk hl i ⟨by omega, by omega⟩ (by rw [BG_get hi]; exact hb)
        rwa [BG_get hj] at this)
      have h3 : trues so ≠ trues (sweepL n k q so) := fun e2 => e (h2 e2).symm
      exact leadsGo_on hk g (by rw [sweep_len]; exact hl) (by omega) x hx h
theorem leads_iff {n : Nat} {k : List Lk} (hk : LkIn n k) {q p : Int} (hp : In n p) : BG (leadsL k q n) p = true ↔ ∃ x ∈ k, x.f = q ∧ Reach k x.t p := by
  have hl : (List.replicate n false).length = n := by simp
  have ht : ∀ j, trues (List.replicate j false) = 0 := fun j => by simp [trues]
  constructor
  · exact leadsGo_sound hk (n + 1) hl (fun p hp h => by
      unfold BG at h; rw [List.getD_eq_getElem?_getD, List.getElem?_replicate] at h; split at h <;> cases h) p hp
  · rintro ⟨x, hx, e, hr⟩
    have hon := leadsGo_on hk (q := q) (n + 1) hl (by rw [ht]; omega)
    have hx1 := hon x hx (.inl e)
    have : ∀ a b, Reach k a b → BG (leadsGo n k q (n + 1) (List.replicate n false)) a = true → BG (leadsGo n k q (n + 1) (List.replicate n false)) b = true := by
      intro a b ha
      induction ha with
      | refl => exact fun h => h
      | @step y r hy _ ih => exact fun h => ih (hon y hy (.inr h))
    exact this _ _ hr hx1
/-- a link goes round through a negation -/
def roundAt (n : Nat) (k : List Lk) (x : Lk) : Bool := x.neg && (decide (x.t = x.f) || BG (leadsL k x.t n) x.f)
theorem round_iff {n : Nat} {k : List Lk} (hk : LkIn n k) : k.any (roundAt n k) = true ↔ Cycle k := by
  rw [List.any_eq_true]
  constructor
  · rintro ⟨x, hx, h⟩
    obtain ⟨h1, h2, _⟩ := hk x hx
    simp only [roundAt, Bool.and_eq_true, Bool.or_eq_true, decide_eq_true_eq] at h
    obtain ⟨hn, h | h⟩ := h
    · exact ⟨x, hx, hn, by rw [h]; exact .refl _⟩
    · obtain ⟨y, hy, e, hr⟩ := (leads_iff hk ⟨h1, h2⟩).1 h
      exact ⟨x, hx, hn, by rw [← e]; exact .step hy hr⟩
  · rintro ⟨x, hx, hn, hr⟩
    obtain ⟨h1, h2, _⟩ := hk x hx
    refine ⟨x, hx, ?_⟩
    simp only [roundAt, Bool.and_eq_true, Bool.or_eq_true, decide_eq_true_eq]
    refine ⟨hn, ?_⟩
    by_cases e : x.t = x.f
    · exact .inl e
    · right
      rw [leads_iff hk ⟨h1, h2⟩]
      generalize hA : x.t = A at hr e
      generalize x.f = B at hr e h1 h2
      cases hr with
      | refl => exact absurd rfl e
      | @step y q hy hr => exact ⟨y, hy, rfl, hr⟩
theorem levels_round {n : Nat} {k : List Lk} (hk : LkIn n k) : (levelsOf n k).isSome = !(k.any (roundAt n k)) := by
  have h1 := levelsOf_ok hk
  have h2 := round_iff hk
  have h3 := no_sat_iff hk
  cases e : levelsOf n k with
  | none =>
    rw [e] at h1
    rw [h2.2 (h3.1 h1)]; rfl
  | some a =>
    rw [e] at h1
    cases e2 : k.any (roundAt n k) with
    | false => rfl
    | true => exact absurd h1.sat (h3.2 (h2.1 e2) a)
end Go.Proofs.Ytkgebkinlpmpnaa
namespace Go.Proofs.Ytkgebkinlpmpnaa
open Go.RowKit

/-- the levels' object -/
def VObj (w : World) (V : Nat) (c0 c1 c2 c3 : Value) : Prop := w.heap[V]? = some (.cells #[c0, c1, c2, c3] 67 (0, 0))
section
variable {w w' : World} {V : Nat} {c0 c1 c2 c3 : Value}
theorem VObj.lt (h : VObj w V c0 c1 c2 c3) : V < w.heap.size := (Array.getElem?_eq_some_iff.1 h).1
theorem VObj.cells (h : VObj w V c0 c1 c2 c3) : w.cell? ⟨V, 0, none⟩ = some c0 ∧ w.cell? ⟨V, 1, none⟩ = some c1 ∧ w.cell? ⟨V, 2, none⟩ = some c2 ∧ w.cell? ⟨V, 3, none⟩ = some c3 := by
  unfold VObj at h
  refine ⟨?_, ?_, ?_, ?_⟩ <;> (rw [cell_of_row w V _ _ _ _ h]; rfl)
theorem VObj.free (h : VObj w V c0 c1 c2 c3) (k : Nat) : w.frozen? ⟨V, k, none⟩ = false := by
  unfold VObj at h
  simp [World.frozen?, h]
theorem VObj.block (h : VObj w V c0 c1 c2 c3) (hb : w'.heap[V]? = w.heap[V]?) : VObj w' V c0 c1 c2 c3 := hb.trans h
theorem VObj.set3 (h : VObj w V c0 c1 c2 c3) (v : Value) : VObj (w.setCell ⟨V, 3, none⟩ v) V c0 c1 c2 v := by
  unfold VObj at *
  simp only [World.setCell, Array.getElem?_modify, if_true, h, Option.map_some]
  simp
theorem VObj.setOther (h : VObj w V c0 c1 c2 c3) {g k : Nat} (hg : g ≠ V) (v : Value) : VObj (w.setCell ⟨g, k, none⟩ v) V c0 c1 c2 c3 := (Below.heap_setCell w ⟨g, k, none⟩ v V (Ne.symm hg)).trans h
theorem VObj.alloc (h : VObj w V c0 c1 c2 c3) (o : Obj) : VObj (w.alloc o) V c0 c1 c2 c3 := (((Below.refl w.heap.size w).new o).block V h.lt).trans h
end
/-- a row of numbers of the call's own -/
def OwnI (w : World) (B : Nat) (v : Value) (l : List Int) : Prop := w.ownsRow B 3 1 v l.length (l.map (Value.int .i64))
theorem OwnI.block {w w' : World} {B : Nat} {v : Value} {l : List Int} (h : OwnI w B v l) (hb : ∀ g, v.ownBlock = some g → w'.heap[g]? = w.heap[g]?) : OwnI w' B v l := by
  refine ⟨h.1, ?_⟩
  rcases h.2 with h | ⟨g, cap, cur, rfl, hB, hg, rest⟩
  · exact .inl h
  · exact .inr ⟨g, cap, cur, rfl, hB, (hb g rfl).trans hg, rest⟩
theorem In.nat {n : Nat} {p : Int} (h : In n p) : ∃ k : Nat, p = k ∧ k < n := ⟨p.toNat, by unfold In at h; omega, by unfold In at h; omega⟩
theorem up1_yes {lv : Int} {o top : List Int} {k : Nat} (hk : k < o.length) (h : o[k] = lv) : up1 lv (o, top) k = (o.set k (lv + 1), top ++ [(k : Int)]) := by
  unfold up1
  rw [if_pos (by rw [G_get hk]; exact h)]
  simp
theorem up1_no {lv : Int} {o top : List Int} {k : Nat} (hk : k < o.length) (h : ¬ o[k] = lv) : up1 lv (o, top) k = (o, top) := by
  unfold up1
  rw [if_neg (by rw [G_get hk]; exact h)]

set_option maxRecDepth 100000 in
set_option maxHeartbeats 3200000 in
theorem up_any (W0 w : World) (V O n b1 b2 : Nat) (lv : Int) (c1 c2 vt : Value) (o top l : List Int) (a : Option Addr) (cap : Nat)
    (hr : Row (veil [V, O] W0) a cap l) (hfr : Fr [V, O] W0 w) (hV : VObj w V (.slice (some ⟨O, 0, none⟩) n n) c1 c2 vt) (hO : RowU w O o) (hT : OwnI w W0.heap.size vt top)
    (hb1 : W0.cell? ⟨b1, 0, none⟩ = some (.pointer (some ⟨V, 0, none⟩))) (hb2 : W0.cell? ⟨b2, 0, none⟩ = some (.int .i64 lv)) (hn1 : b1 ≠ V ∧ b1 ≠ O ∧ b2 ≠ V ∧ b2 ≠ O ∧ V ≠ O) (hVO : V < W0.heap.size ∧ O < W0.heap.size)
    (hlv : 0 ≤ lv ∧ lv ≤ 100000) (hn : o.length = n ∧ n ≤ 100000) (hl : l.length ≤ 100000) (htl : top.length ≤ 100000) (HI : Hid (∀ p ∈ l, In n p)) :
    Calls Try.prog 60 #[.slice a l.length cap, .pointer (some ⟨b1, 0, none⟩), .pointer (some ⟨b2, 0, none⟩)] w fun e w' => e = .returned (.tuple #[]) ∧ ∃ vt', VObj w' V (.slice (some ⟨O, 0, none⟩) n n) c1 c2 vt' ∧ RowU w' O (upP lv (o, top) l).1 ∧ OwnI w' W0.heap.size vt' (upP lv (o, top) l).2 ∧ Fr [V, O] W0 w' := by
  have hm := hr.max
  have hle := hr.le
  go_enter Try.func60, Try.ntmps60
  go_wp2
  go_loopw [8] (fun i wr => ∃ (k : Nat) (o' top' : List Int) (vt' : Value), k ≤ l.length ∧ i = .int .i64 k ∧ Hid (VObj wr V (.slice (some ⟨O, 0, none⟩) n n) c1 c2 vt') ∧ Hid (RowU wr O o') ∧ Hid (OwnI wr W0.heap.size vt' top') ∧ Hid (Fr [V, O] W0 wr) ∧ Hid (o'.length = n) ∧ top'.length ≤ 100000 + k ∧ Hid (upP lv (o, top) l = upP lv (o', top') (l.drop k))) (fun i wr => l.length - (intOf i).toNat)
  case atStart => exact ⟨0, o, top, vt, Nat.zero_le _, rfl, hV, hO, hT, hfr, hn.1, by omega, rfl⟩
  case round =>
    clear hV hO hT hfr
    obtain ⟨k, o', top', vt', hk, rfl, HV, HO, HT, HF, HL, htl', HS⟩ := hrel
    by_cases hlt : k < l.length
    · obtain ⟨b, off, rfl, hb, hat⟩ := ((hr.keeps HF.out.keeps).keeps (veil_keeps _ _)).cases.resolve_left (fun e => by simp [e] at hlt)
      obtain ⟨c0, hlo, hhi⟩ := int_at hat (Below.refl _ _) hlt
      obtain ⟨p, hp, hpn⟩ := (HI.out _ (List.getElem_mem hlt)).nat
      have d1 : wr.cell? ⟨b1, 0, none⟩ = some (.pointer (some ⟨V, 0, none⟩)) := (veil_cell (HF.out.keeps _ _ _ (veil_of (by simp [hn1]) hb1))).2
      have d2 : wr.cell? ⟨b2, 0, none⟩ = some (.int .i64 lv) := (veil_cell (HF.out.keeps _ _ _ (veil_of (by simp [hn1]) hb2))).2
      obtain ⟨v0, v1, v2, v3⟩ := HV.out.cells
      have hpl : p < o'.length := by have := HL.out; omega
      have e0 := HO.out.read hpl
      have f0 := HO.out.free p
      have f3 := HV.out.free 3
      have hp0 : (0 : Int) ≤ (p : Int) := by omega
      have hp1 : (p : Int) < (n : Int) := by omega
      have hst : upP lv (o', top') (l.drop k) = upP lv (up1 lv (o', top') p) (l.drop (k + 1)) := by rw [List.drop_eq_getElem_cons hlt, hp]; rfl
      have hVl := HV.out.lt
      have hOl := HO.out.lt
      rw [hp] at c0
      clear hp
      by_cases he : o'[p] = lv
      · have HS2' : Hid (upP lv (o, top) l = upP lv (o'.set p (lv + 1), top' ++ [(p : Int)]) (l.drop (k + 1))) := by rw [Hid, HS.out, hst, up1_yes hpl he]
        rw [he] at e0
        have t1 : decide (lv = lv) = true := by simp
        clear hst HS he
        go_wp2
        go_quiet (fail)
        go_wp2
        have HV1 : Hid (VObj ((wr.drewN nq).setCell ⟨O, p, none⟩ (.int .i64 (lv + 1))) V (.slice (some ⟨O, 0, none⟩) n n) c1 c2 vt') := HV.out.setOther (w := wr.drewN nq) (Ne.symm hn1.2.2.2.2) _
        have HO1 : Hid (RowU ((wr.drewN nq).setCell ⟨O, p, none⟩ (.int .i64 (lv + 1))) O (o'.set p (lv + 1))) := HO.out.set (w := wr.drewN nq) p (lv + 1)
        have HT1 : Hid (OwnI ((wr.drewN nq).setCell ⟨O, p, none⟩ (.int .i64 (lv + 1))) W0.heap.size vt' top') := HT.out.block fun g hg => Below.heap_setCell (wr.drewN nq) ⟨O, p, none⟩ _ g (fun e => by have := (HT.out.lt g hg).1; have e : g = O := e; omega)
        have HF1 : Hid (Fr [V, O] W0 ((wr.drewN nq).setCell ⟨O, p, none⟩ (.int .i64 (lv + 1)))) := (HF.out.trans (Fr.of (drewN_below wr nq))).set (by simp) _
        generalize (wr.drewN nq).setCell ⟨O, p, none⟩ (.int .i64 (lv + 1)) = W1 at HV1 HO1 HT1 HF1
        clear HV HO HT HF d1 d2 v0 v1 v2 v3 e0 f0 f3 hVl hOl hat c0 hb
        obtain ⟨at', ct', rfl⟩ : ∃ a c, vt' = .slice a top'.length c := by
          rcases HT1.out.2 with ⟨rfl, h0⟩ | ⟨g, cap, cur, rfl, _⟩
          · rw [h0]; exact ⟨_, _, rfl⟩
          · exact ⟨_, _, rfl⟩
        have d1 : W1.cell? ⟨b1, 0, none⟩ = some (.pointer (some ⟨V, 0, none⟩)) := (veil_cell (HF1.out.keeps _ _ _ (veil_of (by simp [hn1]) hb1))).2
        have d3 := HV1.out.cells.2.2.2
        have f3 := HV1.out.free 3
        have hVl := HV1.out.lt
        have hWs := HF1.out.size
        have hown : W1.ownsRow W0.heap.size 3 1 (.slice at' top'.length ct') top'.length (top'.map (Value.int .i64)) := HT1.out
        have hne : (Value.slice at' top'.length ct').ownBlock ≠ some b1 := fun e => by have := (hown.lt _ e).1; have := cell_lt hb1; omega
        have hneV : (Value.slice at' top'.length ct').ownBlock ≠ some V := fun e => by have := (hown.lt _ e).1; omega
        have hbl1 := cell_lt d1
        obtain ⟨i0, hi0, hz0, hz1, hz2⟩ := info_parts Try.infoInt
        obtain ⟨gg, cg, wa, hrun, hown1, hgrow, hat, hlt2⟩ := run_append_lies (P := Try.prog) (W1.drew.alloc (.cells #[.int .i64 p] 3)) 33 33 W0.heap.size 3 i0 _ 1 8 Try.underlying33 hi0 hz0 hz1 hz2 rfl (by omega) _ top'.length (top'.map (Value.int .i64)) ((show W1.drew.ownsRow W0.heap.size 3 1 _ _ _ from hown).alloc _)
          ⟨W1.drew.heap.size, 0, none⟩ 1 1 [.int .i64 p] rfl (World.news_of_block (cs := #[.int .i64 p]) (t := 3) (fr := (0, 0)) (heap_alloc_new _ _)) (by simp [Value.oneCell']) (by omega) (by unfold maxLen; omega) (by omega) (by rw [World.size_alloc]; exact Nat.le_trans hWs (Nat.le_succ _)) _ rfl
        have hrunA : (Builtin.append_ #[33, 33] 33 #[.slice at' top'.length ct', .slice (some ⟨W1.heap.size, 0, none⟩) 1 1]).run Try.prog (W1.drew.alloc (.cells #[.int .i64 p] 3)) = .ok (.slice (some ⟨gg, 0, none⟩) (top'.length + 1) cg) wa := hrun
        have hrunB : (Builtin.append_ #[33, 33] 33 #[.slice at' top'.length ct', .slice (some ⟨W1.heap.size, 0, none⟩) 1 1]).run Try.prog (W1.alloc (.cells #[.int .i64 p] 3)).drew = .ok (.slice (some ⟨gg, 0, none⟩) (top'.length + 1) cg) wa := hrun
        clear hrun
        have hold : ∀ k, k < W1.heap.size → (Value.slice at' top'.length ct').ownBlock ≠ some k → wa.heap[k]? = W1.heap[k]? := fun k hk hn => (hgrow.block k (by rw [World.size_alloc]; exact Nat.lt_succ_of_lt hk) (fun e => hn e.symm)).trans (heap_alloc_old W1.drew _ hk)
        have hg0 : W0.heap.size ≤ gg := (hown1.lt gg rfl).1
        have hVa : VObj wa V (.slice (some ⟨O, 0, none⟩) n n) c1 c2 (.slice at' top'.length ct') := HV1.out.block (hold V hVl hneV)
        have hOa : RowU wa O (o'.set p (lv + 1)) := (hold O HO1.out.lt (fun e => by have := (hown.lt _ e).1; omega)).trans HO1.out
        have hws2 : W0.heap.size ≤ wa.heap.size := Nat.le_trans hWs (Nat.le_trans (Nat.le_succ W1.heap.size) (by have h1 := hgrow.size; rw [World.size_alloc] at h1; exact h1))
        have HFA : Hid (Fr [V, O] W0 wa) := ⟨hgrow.os.trans HF1.out.os, hgrow.tape.trans HF1.out.tape, hgrow.output.trans HF1.out.output, hws2, fun k hk hn => (hold k (by omega) (fun e => by have h9 := (hown.lt _ e).1; omega)).trans (HF1.out.block k hk hn)⟩
        have f3a := hVa.free 3
        have v3a := hVa.cells.2.2.2
        have HV2 : Hid (VObj (wa.setCell ⟨V, 3, none⟩ (.slice (some ⟨gg, 0, none⟩) (top'.length + 1) cg)) V (.slice (some ⟨O, 0, none⟩) n n) c1 c2 (.slice (some ⟨gg, 0, none⟩) (top'.length + 1) cg)) := hVa.set3 _
        have HO2 : Hid (RowU (wa.setCell ⟨V, 3, none⟩ (.slice (some ⟨gg, 0, none⟩) (top'.length + 1) cg)) O (o'.set p (lv + 1))) := hOa.setOther hn1.2.2.2.2 _
        have HF2 : Hid (Fr [V, O] W0 (wa.setCell ⟨V, 3, none⟩ (.slice (some ⟨gg, 0, none⟩) (top'.length + 1) cg))) := HFA.out.set (by simp) _
        have HT2 : Hid (OwnI (wa.setCell ⟨V, 3, none⟩ (.slice (some ⟨gg, 0, none⟩) (top'.length + 1) cg)) W0.heap.size (.slice (some ⟨gg, 0, none⟩) (top'.length + 1) cg) (top' ++ [(p : Int)])) := OwnI.block (w := wa) (by unfold OwnI; rw [List.length_append, List.map_append]; exact hown1) fun g hg => Below.heap_setCell wa ⟨V, 3, none⟩ _ g (fun e => by have e : g = V := e; have hg : gg = g := (by simpa [Value.ownBlock] using hg); omega)
        have HS1 : Hid ((fun w' : World => w'.cell? ⟨b1, 0, none⟩ = some (.pointer (some ⟨V, 0, none⟩))) W1.drew) := d1
        have HS2 : Hid ((fun w' : World => w'.cell? ⟨b1, 0, none⟩ = some (.pointer (some ⟨V, 0, none⟩))) (W1.drew.alloc (.cells #[.int .i64 p] 3))) := keep (w := W1.drew) d1 ((Below.refl _ _).new _)
        have HS3 : Hid ((fun w' : World => w'.cell? ⟨b1, 0, none⟩ = some (.pointer (some ⟨V, 0, none⟩))) wa) := (World.cell?_of_block (w := W1) (a := ⟨b1, 0, none⟩) (hold b1 hbl1 hne)).trans d1
        have HS4 : Hid ((fun w' : World => w'.cell? ⟨b1, 0, none⟩ = some (.pointer (some ⟨V, 0, none⟩))) (wa.setCell ⟨V, 3, none⟩ (.slice (some ⟨gg, 0, none⟩) (top'.length + 1) cg))) := (veil_cell (HF2.out.keeps _ _ _ (veil_of (by simp [hn1]) hb1))).2
        clear hold hOa hVa hown1 hgrow hown
        refine wp_region_noPanic ?_
        refine wp_region_held_drew (S := (fun w' : World => w'.cell? ⟨b1, 0, none⟩ = some (.pointer (some ⟨V, 0, none⟩)))) (by kernel_rfl) (HS1.out) (fun hSd => ?_)
        refine wpAnyH_take (i := 0) (oi := _) (v := ?_) rfl (by kernel_rfl) (by kernel_rfl) (by kernel_rfl) (fun _ _ _ h => h) (Or.inl ⟨by rfl, ?_⟩) (by assumption) ?_
        rotate_left
        · (intro w' hSw; (try dsimp only at hSw); go_simp; try with_reducible rfl)
        (try simp only [Act.put, List.setIfInBounds_toArray, List.set_cons_zero, List.set_cons_succ])
        refine wpAnyH_take (i := 1) (oi := _) (v := ?_) rfl (by kernel_rfl) (by kernel_rfl) (by kernel_rfl) (fun _ _ _ h => h) (Or.inl ⟨by rfl, ?_⟩) (by assumption) ?_
        rotate_left
        · (intro w' hSw; (try dsimp only at hSw); go_simp; try with_reducible rfl)
        (try simp only [Act.put, List.setIfInBounds_toArray, List.set_cons_zero, List.set_cons_succ])
        refine wpAnyH_take (i := 2) (oi := _) (v := ?_) rfl (by kernel_rfl) (by kernel_rfl) (by kernel_rfl) (fun _ _ _ h => h) (Or.inl ⟨by rfl, ?_⟩) (by assumption) ?_
        rotate_left
        · (intro w' hSw; (try dsimp only at hSw); go_simp; try with_reducible rfl)
        (try simp only [Act.put, List.setIfInBounds_toArray, List.set_cons_zero, List.set_cons_succ])
        refine wpAnyH_take (i := 3) (oi := _) (v := ?_) rfl (by kernel_rfl) (by kernel_rfl) (by kernel_rfl) (fun _ _ _ h => h) (Or.inl ⟨by rfl, ?_⟩) (by assumption) ?_
        rotate_left
        · (intro w' hSw; (try dsimp only at hSw); go_simp; try with_reducible rfl)
        (try simp only [Act.put, List.setIfInBounds_toArray, List.set_cons_zero, List.set_cons_succ])
        refine wpAnyH_take (i := 5) (oi := _) (v := ?_) rfl (by kernel_rfl) (by kernel_rfl) (by kernel_rfl) (fun _ _ _ h => h) (Or.inl ⟨by rfl, ?_⟩) (by assumption) ?_
        rotate_left
        · (intro w' hSw; (try dsimp only at hSw); go_simp; try with_reducible rfl)
        (try simp only [Act.put, List.setIfInBounds_toArray, List.set_cons_zero, List.set_cons_succ])
        refine wpAnyH_ready (rs := [4, 6]) (by kernel_rfl) (by simp) ?_
        refine AllReadyH.cons (o := _) rfl (fun K hK => ?_) ?_
        rotate_left
        refine AllReadyH.cons (o := _) rfl (fun K hK => ?_) AllReadyH.nil
        go_simp
        refine hK.out _ _ (HS2.out) (fun _ => ?_)
        clear hK K
        (try simp only [Act.put, List.setIfInBounds_toArray, List.set_cons_zero, List.set_cons_succ])
        refine wpAnyH_ready (rs := [4]) (by kernel_rfl) (by simp) ?_
        refine AllReadyH.cons (o := _) rfl (fun K hK => ?_) AllReadyH.nil
        go_simp
        refine hK.out _ _ (HS2.out) (fun _ => ?_)
        clear hK K
        (try simp only [Act.put, List.setIfInBounds_toArray, List.set_cons_zero, List.set_cons_succ])
        refine wpAnyH_ready (rs := [7]) (by kernel_rfl) (by simp) ?_
        refine AllReadyH.cons (o := _) rfl (fun K hK => ?_) AllReadyH.nil
        (rw [if_pos (by rfl)]; simp [Oper.wp, execOp, resolve, invoke, builtin, Oper.upon, Act.eval, hrunA, hrunB, Result.andThen, Sem.run_bind])
        refine hK.out _ _ (HS3.out) (fun _ => ?_)
        clear hK K
        (try simp only [Act.put, List.setIfInBounds_toArray, List.set_cons_zero, List.set_cons_succ])
        refine wpAnyH_ready (rs := [8]) (by kernel_rfl) (by simp) ?_
        refine AllReadyH.cons (o := _) rfl (fun K hK => ?_) AllReadyH.nil
        go_simp
        refine hK.out _ _ (HS3.out) (fun _ => ?_)
        clear hK K
        (try simp only [Act.put, List.setIfInBounds_toArray, List.set_cons_zero, List.set_cons_succ])
        refine wpAnyH_ready (rs := [9]) (by kernel_rfl) (by simp) ?_
        refine AllReadyH.cons (o := _) rfl (fun K hK => ?_) AllReadyH.nil
        go_simp
        refine hK.out _ _ (HS3.out) (fun _ => ?_)
        clear hK K
        (try simp only [Act.put, List.setIfInBounds_toArray, List.set_cons_zero, List.set_cons_succ])
        refine wpAnyH_ready (rs := [10]) (by kernel_rfl) (by simp) ?_
        refine AllReadyH.cons (o := _) rfl (fun K hK => ?_) AllReadyH.nil
        go_simp
        refine hK.out _ _ (HS4.out) (fun _ => ?_)
        clear hK K
        (try simp only [Act.put, List.setIfInBounds_toArray, List.set_cons_zero, List.set_cons_succ])
        refine wpAnyH_done (by kernel_rfl) (NoPanic.normal ?_) _
        rotate_left
        go_simp
        refine hK.out _ _ (HS1.out) (fun _ => ?_)
        clear hK K
        (try simp only [Act.put, List.setIfInBounds_toArray, List.set_cons_zero, List.set_cons_succ])
        refine wpAnyH_ready (rs := [6]) (by kernel_rfl) (by simp) ?_
        refine AllReadyH.cons (o := _) rfl (fun K hK => ?_) AllReadyH.nil
        go_simp
        refine hK.out _ _ (HS2.out) (fun _ => ?_)
        clear hK K
        (try simp only [Act.put, List.setIfInBounds_toArray, List.set_cons_zero, List.set_cons_succ])
        refine wpAnyH_ready (rs := [7]) (by kernel_rfl) (by simp) ?_
        refine AllReadyH.cons (o := _) rfl (fun K hK => ?_) AllReadyH.nil
        (rw [if_pos (by rfl)]; simp [Oper.wp, execOp, resolve, invoke, builtin, Oper.upon, Act.eval, hrunA, hrunB, Result.andThen, Sem.run_bind])
        refine hK.out _ _ (HS3.out) (fun _ => ?_)
        clear hK K
        (try simp only [Act.put, List.setIfInBounds_toArray, List.set_cons_zero, List.set_cons_succ])
        refine wpAnyH_ready (rs := [8]) (by kernel_rfl) (by simp) ?_
        refine AllReadyH.cons (o := _) rfl (fun K hK => ?_) AllReadyH.nil
        go_simp
        refine hK.out _ _ (HS3.out) (fun _ => ?_)
        clear hK K
        (try simp only [Act.put, List.setIfInBounds_toArray, List.set_cons_zero, List.set_cons_succ])
        refine wpAnyH_ready (rs := [9]) (by kernel_rfl) (by simp) ?_
        refine AllReadyH.cons (o := _) rfl (fun K hK => ?_) AllReadyH.nil
        go_simp
        refine hK.out _ _ (HS3.out) (fun _ => ?_)
        clear hK K
        (try simp only [Act.put, List.setIfInBounds_toArray, List.set_cons_zero, List.set_cons_succ])
        refine wpAnyH_ready (rs := [10]) (by kernel_rfl) (by simp) ?_
        refine AllReadyH.cons (o := _) rfl (fun K hK => ?_) AllReadyH.nil
        go_simp
        refine hK.out _ _ (HS4.out) (fun _ => ?_)
        clear hK K
        (try simp only [Act.put, List.setIfInBounds_toArray, List.set_cons_zero, List.set_cons_succ])
        refine wpAnyH_done (by kernel_rfl) (NoPanic.normal ?_) _
        all_goals
          go_wp2
          exact ⟨⟨k + 1, _, _, _, by omega, by go_num, HV2, HO2, HT2, HF2, by rw [Hid, List.length_set]; exact HL.out, by simp; omega, HS2'⟩, by simp [intOf]; omega⟩
      · have HS2 : Hid (upP lv (o, top) l = upP lv (o', top') (l.drop (k + 1))) := by rw [Hid, HS.out, hst, up1_no hpl he]
        have t1 : decide (o'[p] = lv) = false := by simpa using he
        have t2 : (o'[p] == lv) = false := by simpa using he
        generalize o'[p] = x at e0 t1 t2
        clear hst HS he
        go_wp2
        go_quiet (fail)
        go_wp2
        exact ⟨⟨k + 1, o', top', vt', by omega, by go_num, HV, HO, HT, HF.out.trans (Fr.of (drewN_below _ _)), HL, by omega, HS2⟩, by simp [intOf]; omega⟩
    · have HF2 : Hid (upP lv (o, top) l = (o', top')) := by rw [Hid, HS.out, List.drop_eq_nil_of_le (by omega)]; rfl
      clear HS
      go_wp2
      refine bodyPost_end (results_none rfl _ _ _) rfl ?_
      rw [HF2.out]
      exact ⟨rfl, vt', HV.out, HO.out, HT.out, HF.out⟩
end Go.Proofs.Ytkgebkinlpmpnaa
namespace Go.Proofs.Ytkgebkinlpmpnaa
open Go.RowKit

/-! ### a round, step by step -/
theorem row7_at {z : World} {b off : Nat} {xs : List (List Int)} (hat : ∀ i (hi : i < xs.length), Rep.E z b (off + i * Rep.sz (List Int)) xs[i]) {k : Nat} (hk : k < xs.length) : ∃ a cap, z.cell? ⟨b, off + k, none⟩ = some (.slice a xs[k].length cap) ∧ Row z a cap xs[k] := by
  have h : ListE z b (off + k * 1) xs[k] := hat k hk
  rw [Nat.mul_one] at h
  exact h.ex
theorem rowAt_get {d : List (List Int)} {k : Nat} (hk : k < d.length) : rowAt d k = d[k] := by
  unfold rowAt
  rw [List.getD_eq_getElem?_getD, Int.toNat_natCast, List.getElem?_eq_getElem hk]; rfl
theorem who_len (n : Nat) (neg : Bool) (k : List Lk) : (whoL n neg k).length = n := by simp [whoL]
theorem who_row_len {n : Nat} {neg : Bool} {k : List Lk} {q : Nat} (hq : q < (whoL n neg k).length) : ((whoL n neg k)[q]).length ≤ k.length := by
  simp only [whoL, List.getElem_map, List.getElem_range, List.length_map]
  exact List.length_filter_le _ _
section
variable {n : Nat} {k : List Lk} {lv : Int} {o last : List Int} {s : List Int × List Int}
theorem who_in (hk : LkIn n k) {neg : Bool} {q p : Int} (hp : p ∈ rowAt (whoL n neg k) q) (hq : In n q) : In n p := by
  obtain ⟨x, hx, rfl, _⟩ := (who_mem hq).1 hp
  obtain ⟨h1, h2, _⟩ := hk x hx
  exact ⟨h1, h2⟩
theorem deny_in (hk : LkIn n k) (hl : ∀ q ∈ last, In n q) (h : RInv n k lv o last s) {q : Int} (hq : q ∈ last) : RInv n k lv o last (upP lv s (rowAt (whoL n true k) q)) :=
  (upP_ok _ h (fun p hp => who_in hk hp (hl q hq)) (fun b hb p hp => by
    obtain ⟨x, hx, rfl, rfl, hn⟩ := (who_mem (hl q hq)).1 hp
    refine ⟨x.t, hq, ?_⟩
    have := hb.lk x hx
    rw [hn] at this
    simpa [negI] using this)).1
theorem spread_in (hk : LkIn n k) (h : RInv n k lv o last s) {q : Int} (hq : q ∈ s.2) : RInv n k lv o last (upP lv s (rowAt (whoL n false k) q)) :=
  have hqi := ((h.top q).1 hq).1
  (upP_ok _ h (fun p hp => who_in hk hp hqi) (fun b hb p hp => by
    obtain ⟨x, hx, rfl, rfl, hn⟩ := (who_mem hqi).1 hp
    obtain ⟨q', hq', h1⟩ := h.why b hb x.t hq
    refine ⟨q', hq', ?_⟩
    have := hb.lk x hx
    rw [hn] at this
    simp [negI] at this
    omega)).1
theorem deny_step {d : List (List Int)} {j : Nat} (hj : j < last.length) : denyP lv d s (last.drop j) = denyP lv d (upP lv s (rowAt d last[j])) (last.drop (j + 1)) := by
  rw [List.drop_eq_getElem_cons hj]; rfl
theorem spread_step {d : List (List Int)} {g i : Nat} (hi : i < s.2.length) : spreadP lv d (g + 1) i s = spreadP lv d g (i + 1) (upP lv s (rowAt d s.2[i])) := by
  rw [spreadP, List.getElem?_eq_getElem hi]
theorem upP_pre : ∀ (l : List Int) (s : List Int × List Int), ∃ r, (upP lv s l).2 = s.2 ++ r
  | [], s => ⟨[], by simp [upP]⟩
  | p :: l, s => by
    obtain ⟨r0, h0⟩ := up1_pre (lv := lv) (s := s) p
    obtain ⟨r, h⟩ := upP_pre l (up1 lv s p)
    refine ⟨r0 ++ r, ?_⟩
    show (upP lv (up1 lv s p) l).2 = _
    rw [h, h0, List.append_assoc]
theorem spread_end {d : List (List Int)} {g i : Nat} (hi : s.2.length ≤ i) : spreadP lv d g i s = s := by
  cases g with
  | zero => rfl
  | succ g => rw [spreadP, List.getElem?_eq_none hi]
end
end Go.Proofs.Ytkgebkinlpmpnaa
namespace Go.Proofs.Ytkgebkinlpmpnaa
open Go.RowKit

theorem OwnI.lt {w : World} {B : Nat} {v : Value} {l : List Int} (h : OwnI w B v l) : ∀ g, v.ownBlock = some g → B ≤ g ∧ g < w.heap.size := fun g hg => World.ownsRow.lt h g hg
theorem OwnI.slice {w : World} {B : Nat} {v : Value} {l : List Int} (h : OwnI w B v l) : ∃ a c, v = .slice a l.length c ∧ l.length ≤ c ∧ c ≤ 9223372036854775807 := by
  rcases h.2 with ⟨rfl, h0⟩ | ⟨g, cap, cur, rfl, _, _, h1, h2, _⟩
  · rw [h0]; exact ⟨_, _, rfl, by simp, by simp⟩
  · exact ⟨_, _, rfl, h1, by unfold maxLen at h2; omega⟩
theorem OwnI.new {w : World} {B : Nat} {v : Value} {l : List Int} (h : OwnI w B v l) (hf : ∀ x ∈ l, -9223372036854775808 ≤ x ∧ x ≤ 9223372036854775807) : ∃ a cap, v = .slice a l.length cap ∧ NewRow B w a cap l :=
  own_newG (α := Int) h (crows_ints _ hf)

/-- the object, its levels and its top: what a round turns -/
structure LevW (W0 w : World) (V O n : Nat) (c1 c2 : Value) (B : Nat) (vt : Value) (s : List Int × List Int) : Prop where
  obj : VObj w V (.slice (some ⟨O, 0, none⟩) n n) c1 c2 vt
  lev : RowU w O s.1
  tops : OwnI w B vt s.2
  fr : Fr [V, O] W0 w

theorem LevW.drew {W0 w : World} {V O n : Nat} {c1 c2 : Value} {B : Nat} {vt : Value} {s : List Int × List Int} (h : LevW W0 w V O n c1 c2 B vt s) : LevW W0 w.drew V O n c1 c2 B vt s := ⟨h.obj, h.lev, h.tops, h.fr.drew⟩
theorem OwnI.mono {w : World} {B B' : Nat} {v : Value} {l : List Int} (h : OwnI w B v l) (hB : B' ≤ B) : OwnI w B' v l := by
  refine ⟨h.1, ?_⟩
  rcases h.2 with h | ⟨g, cap, cur, rfl, hg, rest⟩
  · exact .inl h
  · exact .inr ⟨g, cap, cur, rfl, Nat.le_trans hB hg, rest⟩

theorem up_lev (W0 w : World) (V O n b1 b2 : Nat) (lv : Int) (c1 c2 vt : Value) (s : List Int × List Int) (l : List Int) (a : Option Addr) (cap : Nat)
    (hr : Row (veil [V, O] W0) a cap l) (h : Hid (LevW W0 w V O n c1 c2 W0.heap.size vt s))
    (hb1 : W0.cell? ⟨b1, 0, none⟩ = some (.pointer (some ⟨V, 0, none⟩))) (hb2 : W0.cell? ⟨b2, 0, none⟩ = some (.int .i64 lv)) (hn1 : b1 ≠ V ∧ b1 ≠ O ∧ b2 ≠ V ∧ b2 ≠ O ∧ V ≠ O) (hVO : V < W0.heap.size ∧ O < W0.heap.size)
    (hlv : 0 ≤ lv ∧ lv ≤ 100000) (hn : s.1.length = n ∧ n ≤ 100000) (hl : l.length ≤ 100000) (htl : s.2.length ≤ 100000) (HI : Hid (∀ p ∈ l, In n p)) :
    Calls Try.prog 60 #[.slice a l.length cap, .pointer (some ⟨b1, 0, none⟩), .pointer (some ⟨b2, 0, none⟩)] w fun e w' => e = .returned (.tuple #[]) ∧ ∃ vt', Hid (LevW W0 w' V O n c1 c2 W0.heap.size vt' (upP lv s l)) :=
  (up_any W0 w V O n b1 b2 lv c1 c2 vt s.1 s.2 l a cap hr h.out.fr h.out.obj h.out.lev h.out.tops hb1 hb2 hn1 hVO hlv hn hl htl HI).mono fun _ _ ⟨he, vt', h1, h2, h3, h4⟩ => ⟨he, vt', ⟨h1, h2, h3, h4⟩⟩

set_option maxRecDepth 100000 in
set_option maxHeartbeats 3200000 in
theorem raise_any (w : World) (V O n : Nat) (lv : Int) (aE aD at' : Option Addr) (cE cD ct : Nat) (o last : List Int) (K : List Lk)
    (hV : VObj w V (.slice (some ⟨O, 0, none⟩) n n) (.slice aE n cE) (.slice aD n cD) (.slice at' last.length ct)) (hO : RowU w O o)
    (hE : Row (veil [V, O] w) aE cE (whoL n false K)) (hD : Row (veil [V, O] w) aD cD (whoL n true K)) (ht : Row (veil [V, O] w) at' ct last)
    (hVO : V ≠ O) (hlv : 0 ≤ lv ∧ lv ≤ 100000) (hn : n ≤ 100000) (hK : K.length ≤ 100000) (HK : Hid (LkIn n K)) (HI : Hid (LInv n K lv o last)) :
    Calls Try.prog 43 #[.pointer (some ⟨V, 0, none⟩), .int .i64 lv] w fun e w' => e = .returned (.tuple #[]) ∧ ∃ vt', LevW w w' V O n (.slice aE n cE) (.slice aD n cD) w.heap.size vt' (roundP n (whoL n false K) (whoL n true K) lv o last) := by
  have hmf : ∀ (fn : Fn) (first cap : Array Value) (w : World), (Instr.makeFunc fn first cap).run Try.prog w = .ok (.func fn first cap) w := fun _ _ _ _ => rfl
  have hVl := hV.lt
  have hOl := hO.lt
  have hlm := ht.max
  have hll := ht.le
  have htl : last.length ≤ n := nodup_in_len HI.out.nd fun p hp => ((HI.out.tops p).1 hp).1
  have HLI : Hid (∀ q ∈ last, In n q) := fun q hq => ((HI.out.tops q).1 hq).1
  have HR0 : Hid (RInv n K lv o last (o, [])) := RInv.start HI.out.len
  have hmk : ∀ W, (Instr.makeSlice 33 (.int .i64 0) (.int .i64 last.length)).run Try.prog W = .ok (.slice (some ⟨W.heap.size, 0, none⟩) 0 last.length) (W.alloc (.cells (Array.replicate last.length (Value.int .i64 0)) 3)) := fun W => by
    obtain ⟨i, hi, hz0, hz1, hz2⟩ := info_parts Try.infoInt
    have hrun := run_make (P := Try.prog) W 33 3 i _ Try.underlying33 hi hz0 .i64 .i64 0 last.length (by omega) (by omega) (by rw [hz2]; omega) (by omega)
    rw [hz1, Nat.mul_one, Int.toNat_natCast, made_intsK] at hrun
    exact hrun
  have HMI : Hid (∀ W : World, (W.alloc (.cells (Array.replicate last.length (Value.int .i64 0)) 3)).ownsRow W.heap.size 3 1 (.slice (some ⟨W.heap.size, 0, none⟩) 0 last.length) 0 []) := fun W => World.ownsRow_made W _ _ (Nat.le_refl _) (by unfold maxLen; omega) (by simp)
  have hb0 := ((Below.refl w.heap.size w).new (.cells #[.pointer (some ⟨V, 0, none⟩)] 63)).new (.cells #[.int .i64 lv] 3)
  have hV0 := (hV.alloc (.cells #[.pointer (some ⟨V, 0, none⟩)] 63)).alloc (.cells #[.int .i64 lv] 3)
  have hO0 := (hO.alloc (.cells #[.pointer (some ⟨V, 0, none⟩)] 63)).alloc (.cells #[.int .i64 lv] 3)
  have hfr0 : Fr [V, O] w ((w.alloc (.cells #[.pointer (some ⟨V, 0, none⟩)] 63)).alloc (.cells #[.int .i64 lv] 3)) := Fr.of hb0
  have d1 : ((w.alloc (.cells #[.pointer (some ⟨V, 0, none⟩)] 63)).alloc (.cells #[.int .i64 lv] 3)).cell? ⟨w.heap.size, 0, none⟩ = some (.pointer (some ⟨V, 0, none⟩)) := keep (World.cell?_alloc_at _ _ _ 0 rfl) ((Below.refl _ _).new _)
  have d2 : ((w.alloc (.cells #[.pointer (some ⟨V, 0, none⟩)] 63)).alloc (.cells #[.int .i64 lv] 3)).cell? ⟨w.heap.size + 1, 0, none⟩ = some (.int .i64 lv) := by
    have h9 : ((w.alloc (.cells #[.pointer (some ⟨V, 0, none⟩)] 63)).alloc (.cells #[.int .i64 lv] 3)).cell? ⟨(w.alloc (.cells #[.pointer (some ⟨V, 0, none⟩)] 63)).heap.size, 0, none⟩ = some (.int .i64 lv) := World.cell?_alloc_at _ _ _ 0 rfl
    rwa [World.size_alloc] at h9
  have hs0 : ((w.alloc (.cells #[.pointer (some ⟨V, 0, none⟩)] 63)).alloc (.cells #[.int .i64 lv] 3)).heap.size = w.heap.size + 2 := by simp
  obtain ⟨v0, v1, v2, v3⟩ := hV0.cells
  have f3 := hV0.free 3
  go_enter Try.func43, Try.ntmps43
  go_wp2
  have hE0 := hE.keeps hfr0.keeps
  have hD0 := hD.keeps hfr0.keeps
  have ht0 := ht.keeps hfr0.keeps
  have HFR := mkHid hfr0
  clear hE hD ht hV hO hfr0
  generalize (w.alloc (.cells #[.pointer (some ⟨V, 0, none⟩)] 63)).alloc (.cells #[.int .i64 lv] 3) = W0 at *
  have hw1 : w.heap.size < W0.heap.size := by omega
  have hw2 : w.heap.size + 1 < W0.heap.size := by omega
  have hw3 : w.heap.size ≤ W0.heap.size := by omega
  clear hs0
  have hV1 := ((show VObj W0.drew V _ _ _ _ from hV0).alloc (.cells (Array.replicate last.length (Value.int .i64 0)) 3)).set3 (.slice (some ⟨W0.heap.size, 0, none⟩) 0 last.length)
  have hO1 := ((show RowU W0.drew O o from hO0).alloc (.cells (Array.replicate last.length (Value.int .i64 0)) 3)).setOther hVO (k := 3) (.slice (some ⟨W0.heap.size, 0, none⟩) 0 last.length)
  have hf1 : Fr [V, O] W0 ((W0.drew.alloc (.cells (Array.replicate last.length (Value.int .i64 0)) 3)).setCell ⟨V, 3, none⟩ (.slice (some ⟨W0.heap.size, 0, none⟩) 0 last.length)) := ((Fr.refl _ W0).drew.alloc _).set (by simp) _
  have hT1 : OwnI ((W0.drew.alloc (.cells (Array.replicate last.length (Value.int .i64 0)) 3)).setCell ⟨V, 3, none⟩ (.slice (some ⟨W0.heap.size, 0, none⟩) 0 last.length)) W0.heap.size (.slice (some ⟨W0.heap.size, 0, none⟩) 0 last.length) [] := OwnI.block (HMI.out W0.drew) fun g hg => Below.heap_setCell _ ⟨V, 3, none⟩ _ g (fun e => by
    have e : g = V := e
    have hg : W0.heap.size = g := Option.some.inj hg
    omega)
  have HL1 : Hid (LevW W0 ((W0.drew.alloc (.cells (Array.replicate last.length (Value.int .i64 0)) 3)).setCell ⟨V, 3, none⟩ (.slice (some ⟨W0.heap.size, 0, none⟩) 0 last.length)) V O n (.slice aE n cE) (.slice aD n cD) W0.heap.size (.slice (some ⟨W0.heap.size, 0, none⟩) 0 last.length) (o, [])) := ⟨hV1, hO1, hT1, hf1⟩
  have g3 := (hV0.alloc (.cells (Array.replicate last.length (Value.int .i64 0)) 3)).free 3
  have e3 := (hV0.alloc (.cells (Array.replicate last.length (Value.int .i64 0)) 3)).cells.2.2.2
  have k4 : ((W0.alloc (.cells (Array.replicate last.length (Value.int .i64 0)) 3)).setCell ⟨V, 3, none⟩ (.slice (some ⟨W0.heap.size, 0, none⟩) 0 last.length)).cell? ⟨w.heap.size, 0, none⟩ = some (.pointer (some ⟨V, 0, none⟩)) :=
    (World.cell?_setCell_far _ ⟨V, 3, none⟩ ⟨w.heap.size, 0, none⟩ _ (by show V ≠ w.heap.size; omega)).trans (keep d1 ((Below.refl _ _).new _))
  clear hV1 hO1 hT1 hf1 HMI
  go_region_held3 (fun w' => w'.cell? ⟨w.heap.size, 0, none⟩ = some (.pointer (some ⟨V, 0, none⟩)))
    (first | go_keep | exact k4)
    (fail)
  have HL2 : Hid (LevW W0 (((W0.alloc (.cells (Array.replicate last.length (Value.int .i64 0)) 3)).setCell ⟨V, 3, none⟩ (.slice (some ⟨W0.heap.size, 0, none⟩) 0 last.length)).drew) V O n (.slice aE n cE) (.slice aD n cD) W0.heap.size (.slice (some ⟨W0.heap.size, 0, none⟩) 0 last.length) (o, [])) := HL1
  generalize (((W0.alloc (.cells (Array.replicate last.length (Value.int .i64 0)) 3)).setCell ⟨V, 3, none⟩ (.slice (some ⟨W0.heap.size, 0, none⟩) 0 last.length)).drew) = W1 at HL2
  generalize (Value.slice (some ⟨W0.heap.size, 0, none⟩) 0 last.length) = vt1 at HL2
  have HDL : Hid ((whoL n true K).length = n) := who_len n true K
  have HEL : Hid ((whoL n false K).length = n) := who_len n false K
  have HDR : Hid (∀ q (hq : q < (whoL n true K).length), ((whoL n true K)[q]).length ≤ 100000) := fun q hq => Nat.le_trans (who_row_len hq) hK
  have HER : Hid (∀ q (hq : q < (whoL n false K).length), ((whoL n false K)[q]).length ≤ 100000) := fun q hq => Nat.le_trans (who_row_len hq) hK
  have HDI : Hid (∀ s, RInv n K lv o last s → ∀ q ∈ last, RInv n K lv o last (upP lv s (rowAt (whoL n true K) q))) := fun s h q hq => deny_in HK.out HLI.out h hq
  have HEI : Hid (∀ s, RInv n K lv o last s → ∀ q ∈ s.2, RInv n K lv o last (upP lv s (rowAt (whoL n false K) q))) := fun s h q hq => spread_in HK.out h hq
  have HDN : Hid (∀ q, In n q → ∀ p ∈ rowAt (whoL n true K) q, In n p) := fun q hq p hp => who_in HK.out hp hq
  have HEN : Hid (∀ q, In n q → ∀ p ∈ rowAt (whoL n false K) q, In n p) := fun q hq p hp => who_in HK.out hp hq
  have HRO : Hid (roundP n (whoL n false K) (whoL n true K) lv o last = spreadP lv (whoL n false K) (n + 1) 0 (denyP lv (whoL n true K) (o, []) last)) := rfl
  generalize hDe : whoL n true K = D at *
  generalize hEe : whoL n false K = E at *
  have HDE := mkHid hDe
  have HEE := mkHid hEe
  clear hDe hEe
  have HFW := HFR
  clear HL1 g3 e3 k4 hmk v0 v1 v2 v3 f3 hV0 hO0 HI
  go_wp2
  go_loopw [22] (fun i wr => ∃ (k : Nat) (s : List Int × List Int) (vt : Value), k ≤ last.length ∧ i = .int .i64 k ∧ Hid (LevW W0 wr V O n (.slice aE n cE) (.slice aD n cD) W0.heap.size vt s) ∧ Hid (RInv n K lv o last s) ∧ Hid (denyP lv D (o, []) last = denyP lv D s (last.drop k))) (fun i wr => last.length - (intOf i).toNat)
  case atStart => exact ⟨0, _, _, Nat.zero_le _, rfl, HL2, HR0, rfl⟩
  case round =>
    clear HL2 HR0
    obtain ⟨k, s, vt, hk, rfl, HL, HR, HS⟩ := hrel
    obtain ⟨v0, v1, v2, v3⟩ := HL.out.obj.cells
    by_cases hlt : k < last.length
    · obtain ⟨b, off, rfl, hb, hat⟩ := ((ht0.keeps HL.out.fr.keeps).keeps (veil_keeps _ _)).cases.resolve_left (fun e => by simp [e] at hlt)
      obtain ⟨c0, hlo, hhi⟩ := int_at hat (Below.refl _ _) hlt
      have hqm := List.getElem_mem hlt
      obtain ⟨p, hp, hpn⟩ := (HLI.out _ hqm).nat
      have hpD : p < D.length := by have := HDL.out; omega
      obtain ⟨bD, offD, rfl, hbD, hatD⟩ := ((hD0.keeps HL.out.fr.keeps).keeps (veil_keeps _ _)).cases.resolve_left (fun e => by simp [e] at hpD)
      obtain ⟨aq, cq, cw, hrq⟩ := row7_at hatD hpD
      have hrow0 : Row (veil [V, O] W0) aq cq D[p] := by
        obtain ⟨b2, off2, e2, _, hat2⟩ := hD0.cases.resolve_left (fun e => by simp [e] at hpD)
        injection e2 with e2
        injection e2 with e3 e4
        subst e3; subst e4
        obtain ⟨aq2, cq2, cw2, hrq2⟩ := row7_at hat2 hpD
        have h9 := (veil_cell (HL.out.fr.keeps _ _ _ cw2)).2
        rw [cw] at h9
        injection h9 with h9
        injection h9 with h10 h11 h12
        subst h10; subst h12
        exact hrq2
      have hDl := HDR.out p hpD
      have HIN : Hid (∀ q ∈ D[p], In n q) := by
        have := HDN.out last[k] (HLI.out _ hqm)
        rw [hp, rowAt_get hpD] at this
        exact this
      have HR2 : Hid (RInv n K lv o last (upP lv s D[p])) := by
        have := HDI.out s HR.out last[k] hqm
        rw [hp, rowAt_get hpD] at this
        exact this
      have HS2 : Hid (denyP lv D (o, []) last = denyP lv D (upP lv s D[p]) (last.drop (k + 1))) := by
        rw [Hid, HS.out, deny_step hlt, hp, rowAt_get hpD]
      have d1' : wr.cell? ⟨w.heap.size, 0, none⟩ = some (.pointer (some ⟨V, 0, none⟩)) := (veil_cell (HL.out.fr.keeps _ _ _ (veil_of (by simp; omega) d1))).2
      have hp0 : (0 : Int) ≤ (p : Int) := by omega
      have hp1 : (p : Int) < (n : Int) := by omega
      have hsl := HR.out.len_le
      have HRL : Hid (s.1.length = n) := HR.out.len
      rw [hp] at c0
      obtain ⟨dl, hdl⟩ : ∃ dl, D[p] = dl := ⟨_, rfl⟩
      rw [hdl] at cw hrow0 hDl HIN HR2 HS2
      clear hat hatD hrq hp HS hdl hlo hhi hb hbD hqm
      go_wp2_with (go_at_call 60; refine (up_lev W0 _ V O n w.heap.size (w.heap.size + 1) lv _ _ vt s dl aq cq hrow0 HL d1 d2 (by omega) (by omega) hlv ⟨HRL.out, hn⟩ hDl (by omega) HIN).mono ?_; rintro e w2 ⟨rfl, vt2, HL2⟩)
      go_round
      case rel => exact ⟨k + 1, _, vt2, by omega, by go_num, HL2, HR2, HS2⟩
      case measure => simp [intOf]; omega
    · have HS2 : Hid (roundP n E D lv o last = spreadP lv E (n + 1) 0 s) := by rw [Hid, HRO.out, HS.out, List.drop_eq_nil_of_le (by omega)]; rfl
      have hD0' := hD0
      clear HS hD0 hD0' ht0 HDL HDR HDI HDN HRO HLI
      go_wp2
      go_loopw [8] (fun i wr => ∃ (k g : Nat) (s : List Int × List Int) (vt : Value), k ≤ s.2.length ∧ i = .int .i64 k ∧ Hid (LevW W0 wr V O n (.slice aE n cE) (.slice aD n cD) W0.heap.size vt s) ∧ Hid (RInv n K lv o last s) ∧ Hid (g + k = n + 1) ∧ Hid (roundP n E D lv o last = spreadP lv E g k s)) (fun i wr => n - (intOf i).toNat)
      case atStart => exact ⟨0, n + 1, s, vt, Nat.zero_le _, rfl, HL, HR, rfl, HS2⟩
      case round =>
        clear HL HR HS2 v0 v1 v2 v3
        obtain ⟨i, g, s, vt, hi, rfl, HL, HR, HG, HS⟩ := hrel
        obtain ⟨v0, v1, v2, v3⟩ := HL.out.obj.cells
        obtain ⟨av, cv, rfl, hav, hcv⟩ := HL.out.tops.slice
        have d1' : wr.cell? ⟨w.heap.size, 0, none⟩ = some (.pointer (some ⟨V, 0, none⟩)) := (veil_cell (HL.out.fr.keeps _ _ _ (veil_of (by simp; omega) d1))).2
        have hsl := HR.out.len_le
        by_cases hlt : i < s.2.length
        · have hqm := List.getElem_mem hlt
          have hqi := ((HR.out.top _).1 hqm).1
          obtain ⟨g, rfl⟩ : ∃ g', g = g' + 1 := ⟨g - 1, by have := HG.out; omega⟩
          obtain ⟨av2, cv2, ev2, hnv⟩ := HL.out.tops.new (fun x hx => by have := ((HR.out.top x).1 hx).1; unfold In at this; omega)
          injection ev2 with ev3 ev4 ev5
          subst ev3; subst ev5
          obtain ⟨b, off, rfl, hb, hat⟩ := hnv.row.cases.resolve_left (fun e => by simp [e] at hlt)
          obtain ⟨c0, hlo, hhi⟩ := int_at hat (Below.refl _ _) hlt
          obtain ⟨p, hp, hpn⟩ := hqi.nat
          have hpE : p < E.length := by have := HEL.out; omega
          obtain ⟨bE, offE, rfl, hbE, hatE⟩ := ((hE0.keeps HL.out.fr.keeps).keeps (veil_keeps _ _)).cases.resolve_left (fun e => by simp [e] at hpE)
          obtain ⟨aq, cq, cw, hrq⟩ := row7_at hatE hpE
          have hrow0 : Row (veil [V, O] W0) aq cq E[p] := by
            obtain ⟨b2, off2, e2, _, hat2⟩ := hE0.cases.resolve_left (fun e => by simp [e] at hpE)
            injection e2 with e2
            injection e2 with e3 e4
            subst e3; subst e4
            obtain ⟨aq2, cq2, cw2, hrq2⟩ := row7_at hat2 hpE
            have h9 := (veil_cell (HL.out.fr.keeps _ _ _ cw2)).2
            rw [cw] at h9
            injection h9 with h9
            injection h9 with h10 h11 h12
            subst h10; subst h12
            exact hrq2
          have hEl := HER.out p hpE
          have HIN : Hid (∀ q ∈ E[p], In n q) := by
            have := HEN.out s.2[i] hqi
            rw [hp, rowAt_get hpE] at this
            exact this
          have HR2 : Hid (RInv n K lv o last (upP lv s E[p])) := by
            have := HEI.out s HR.out s.2[i] hqm
            rw [hp, rowAt_get hpE] at this
            exact this
          have HS2 : Hid (roundP n E D lv o last = spreadP lv E g (i + 1) (upP lv s E[p])) := by
            rw [Hid, HS.out, spread_step hlt, hp, rowAt_get hpE]
          have HG2 : Hid (g + (i + 1) = n + 1) := by have := HG.out; rw [Hid]; omega
          have hp0 : (0 : Int) ≤ (p : Int) := by omega
          have hp1 : (p : Int) < (n : Int) := by omega
          have hin : i < n := by omega
          have HRL : Hid (s.1.length = n) := HR.out.len
          have HK2 : Hid (i + 1 ≤ (upP lv s E[p]).2.length) := by
            obtain ⟨r, hr⟩ := upP_pre (lv := lv) E[p] s
            rw [Hid, hr, List.length_append]; omega
          rw [hp] at c0
          obtain ⟨dl, hdl⟩ : ∃ dl, E[p] = dl := ⟨_, rfl⟩
          rw [hdl] at cw hrow0 hEl HIN HR2 HS2 HK2
          clear hat hatE hrq hp HS HG hdl hlo hhi hb hbE hqm hqi hnv ev4
          go_wp2
          go_still_tail 14, (by kernel_rfl)
          change wpList _ _ _ _ _ wr.drew
          have HLd := mkHid HL.out.drew
          generalize wr.drew = wd at HLd
          go_wp2_with (go_at_call 60; refine (up_lev W0 _ V O n w.heap.size (w.heap.size + 1) lv _ _ _ s dl aq cq hrow0 HLd d1 d2 (by omega) (by omega) hlv ⟨HRL.out, hn⟩ hEl (by omega) HIN).mono ?_; rintro e w2 ⟨rfl, vt2, HL2⟩)
          go_round
          case rel => exact ⟨i + 1, g, _, vt2, HK2.out, by go_num, HL2, HR2, HG2, HS2⟩
          case measure => simp [intOf]; omega
        · have HS2 : Hid (roundP n E D lv o last = s) := by rw [Hid, HS.out, spread_end (by omega)]
          clear HS
          go_wp2
          refine bodyPost_end (results_none rfl _ _ _) rfl ?_
          have hLE := HL.out
          refine ⟨rfl, .slice av s.2.length cv, ?_⟩
          rw [HDE.out, HEE.out, HS2.out]
          exact ⟨hLE.obj, hLE.lev, hLE.tops.mono hw3, HFR.out.trans hLE.fr⟩
end Go.Proofs.Ytkgebkinlpmpnaa
namespace Go.Proofs.Ytkgebkinlpmpnaa
open Go.RowKit

/-! ### rows of rows, each of the call's own -/
theorem under_veil {B : Nat} {us : List Nat} (w : World) (h : ∀ k ∈ us, k < B) : Keeps (under B w) (veil us w) := fun b o v hc => by
  obtain ⟨h1, h2⟩ := under_cell hc
  exact veil_of (fun e => by have := h b e; omega) h2
structure Nest (w : World) (B n : Nat) (g : Bool → Nat) (r : Bool → Nat → Value) (L : Bool → Nat → List Int) : Prop where
  blk : ∀ b, ∃ cs : Array Value, w.heap[g b]? = some (.cells cs 33 (0, 0)) ∧ ∀ i, i < n → cs[i]? = some (r b i)
  own : ∀ b i, i < n → OwnI w B (r b i) (L b i)
  apart : ∀ b i b' i' q, i < n → i' < n → (r b i).ownBlock = some q → (r b' i').ownBlock = some q → b = b' ∧ i = i'
section
variable {w w' : World} {B n : Nat} {g : Bool → Nat} {r : Bool → Nat → Value} {L L' : Bool → Nat → List Int}
theorem Nest.cell (h : Nest w B n g r L) (b : Bool) {i : Nat} (hi : i < n) : w.cell? ⟨g b, i, none⟩ = some (r b i) := by
  obtain ⟨cs, h1, h2⟩ := h.blk b
  rw [cell_of_row w (g b) i _ _ _ h1]
  exact h2 i hi
theorem Nest.free (h : Nest w B n g r L) (b : Bool) (i : Nat) : w.frozen? ⟨g b, i, none⟩ = false := by
  obtain ⟨cs, h1, h2⟩ := h.blk b
  simp [World.frozen?, h1]
theorem Nest.lt (h : Nest w B n g r L) (b : Bool) : g b < w.heap.size := by
  obtain ⟨cs, h1, _⟩ := h.blk b
  exact (Array.getElem?_eq_some_iff.1 h1).1
theorem Nest.below (h : Nest w B n g r L) (hb : Below w.heap.size w w') : Nest w' B n g r L := by
  refine ⟨fun b => ?_, fun b i hi => ?_, h.apart⟩
  · obtain ⟨cs, h1, h2⟩ := h.blk b
    exact ⟨cs, (hb.block _ (h.lt b)).trans h1, h2⟩
  · exact (h.own b i hi).block fun q hq => hb.block q ((h.own b i hi).lt q hq).2
theorem Nest.congr (h : Nest w B n g r L) (hL : ∀ b i, i < n → L b i = L' b i) : Nest w B n g r L' := ⟨h.blk, fun b i hi => by rw [← hL b i hi]; exact h.own b i hi, h.apart⟩
theorem Nest.step {w1 : World} (h : Nest w B n g r L) (hg : g true ≠ g false) (hgB : ∀ b, g b < B) {b0 : Bool} {i0 : Nat} (hi0 : i0 < n) {v' : Value} {l' : List Int} (hgrow : w.grownBy w1 (r b0 i0).ownBlock) (hown : OwnI w1 B v' l')
    {q0 : Nat} (hq : v'.ownBlock = some q0) (hat : (r b0 i0).ownBlock = some q0 ∨ w.heap.size ≤ q0) :
    Nest (w1.setCell ⟨g b0, i0, none⟩ v') B n g (fun b i => if b = b0 ∧ i = i0 then v' else r b i) (fun b i => if b = b0 ∧ i = i0 then l' else L b i) := by
  have hold : ∀ k, k < w.heap.size → (r b0 i0).ownBlock ≠ some k → w1.heap[k]? = w.heap[k]? := fun k hk hn => hgrow.block k hk (fun e => hn e.symm)
  refine ⟨fun b => ?_, fun b i hi => ?_, fun b i b' i' q hi hi' h1 h2 => ?_⟩
  · obtain ⟨cs, h1, h2⟩ := h.blk b
    have h3 : w1.heap[g b]? = some (.cells cs 33 (0, 0)) := (hold _ (h.lt b) (fun e => by have := ((h.own b0 i0 hi0).lt _ e).1; have := hgB b; omega)).trans h1
    by_cases e : b = b0
    · subst e
      refine ⟨cs.setIfInBounds i0 v', ?_, fun i hi => ?_⟩
      · simp only [World.setCell, Array.getElem?_modify, if_true, h3, Option.map_some]
        simp
      · have hsz : i0 < cs.size := (Array.getElem?_eq_some_iff.1 (h2 i0 hi0)).1
        by_cases e2 : i = i0
        · subst e2; simp [hsz]
        · rw [Array.getElem?_setIfInBounds_ne (fun e3 => e2 e3.symm)]; simp [e2]; exact h2 i hi
    · refine ⟨cs, ?_, fun i hi => by simp [e]; exact h2 i hi⟩
      have hne : g b0 ≠ g b := by
        cases b <;> cases b0 <;> first | exact absurd rfl e | exact hg | exact hg.symm
      exact (Below.heap_setCell w1 ⟨g b0, i0, none⟩ v' (g b) hne.symm).trans h3
  · show OwnI _ B (if b = b0 ∧ i = i0 then v' else r b i) (if b = b0 ∧ i = i0 then l' else L b i)
    by_cases e : b = b0 ∧ i = i0
    · rw [if_pos e, if_pos e]
      exact hown.block fun q hq' => Below.heap_setCell w1 ⟨g b0, i0, none⟩ v' q (fun e2 => by have := (hown.lt q hq').1; have := hgB b0; have e2 : q = g b0 := e2; omega)
    · rw [if_neg e, if_neg e]
      refine (h.own b i hi).block fun q hq' => ?_
      have hl := (h.own b i hi).lt q hq'
      refine (Below.heap_setCell w1 ⟨g b0, i0, none⟩ v' q (fun e2 => by have := hgB b0; have e2 : q = g b0 := e2; omega)).trans (hold q hl.2 fun e3 => ?_)
      exact e (h.apart b i b0 i0 q hi hi0 hq' e3)
  · replace h1 : (if b = b0 ∧ i = i0 then v' else r b i).ownBlock = some q := h1
    replace h2 : (if b' = b0 ∧ i' = i0 then v' else r b' i').ownBlock = some q := h2
    by_cases e : b = b0 ∧ i = i0
    · by_cases e' : b' = b0 ∧ i' = i0
      · exact ⟨e.1.trans e'.1.symm, e.2.trans e'.2.symm⟩
      · exfalso
        rw [if_pos e, hq] at h1
        rw [if_neg e'] at h2
        injection h1 with h1
        subst h1
        have hl := (h.own b' i' hi').lt q0 h2
        rcases hat with h3 | h3
        · exact e' (h.apart b' i' b0 i0 q0 hi' hi0 h2 h3)
        · omega
    · by_cases e' : b' = b0 ∧ i' = i0
      · exfalso
        rw [if_pos e', hq] at h2
        rw [if_neg e] at h1
        injection h2 with h2
        subst h2
        have hl := (h.own b i hi).lt q0 h1
        rcases hat with h3 | h3
        · exact e (h.apart b i b0 i0 q0 hi hi0 h1 h3)
        · omega
      · rw [if_neg e] at h1
        rw [if_neg e'] at h2
        exact h.apart b i b' i' q hi hi' h1 h2
/-- read as rows -/
theorem Nest.rows (h : Nest w B n g r L) (b : Bool) {us : List Nat} (hu : ∀ k ∈ us, k < B) (hgu : g b ∉ us) (hf : ∀ i, i < n → ∀ x ∈ L b i, -9223372036854775808 ≤ x ∧ x ≤ 9223372036854775807) (hn : n ≤ 1000000) :
    Row (veil us w) (some ⟨g b, 0, none⟩) n ((List.range n).map (L b)) := by
  refine ⟨by simp, by omega, (fun e => by cases e), fun i x hi => ⟨g b, 0, rfl, ?_⟩⟩
  obtain ⟨hl, rfl⟩ := List.getElem?_eq_some_iff.1 hi
  have hin : i < n := by simpa using hl
  show ListE (veil us w) (g b) (0 + i * 1) _
  rw [Nat.zero_add, Nat.mul_one, List.getElem_map, List.getElem_range]
  obtain ⟨a, c, e, hr⟩ := (h.own b i hin).new (hf i hin)
  exact ⟨a, c, veil_of hgu ((h.cell b hin).trans (by rw [e])), Row.keeps hr (under_veil w hu)⟩
end
/-- who leans on what, so far -/
def whoAt (K : List Lk) (b : Bool) (i : Nat) : List Int := (K.filter fun x => decide (x.t = (i : Int)) && (x.neg == b)).map Lk.f
theorem who_at (n : Nat) (b : Bool) (K : List Lk) : (List.range n).map (whoAt K b) = whoL n b K := rfl
theorem whoAt_next {K : List Lk} {k : Nat} (hk : k < K.length) {t : Nat} (ht : K[k].t = t) (b : Bool) (i : Nat) : (if b = K[k].neg ∧ i = t then whoAt (K.take k) K[k].neg t ++ [K[k].f] else whoAt (K.take k) b i) = whoAt (K.take (k + 1)) b i := by
  unfold whoAt
  rw [List.take_succ_eq_append_getElem hk, List.filter_append, List.map_append]
  by_cases e : b = K[k].neg ∧ i = t
  · obtain ⟨rfl, rfl⟩ := e
    simp [ht]
  · rw [if_neg e]
    have : (decide (K[k].t = (i : Int)) && (K[k].neg == b)) = false := by
      rw [ht]
      by_cases e1 : i = t
      · have : ¬ K[k].neg = b := fun e2 => e ⟨e2.symm, e1⟩
        simp [this]
      · have : ¬ ((t : Int) = (i : Int)) := by omega
        simp [this]
    simp [this]
theorem whoAt_in {n : Nat} {K : List Lk} (hK : LkIn n K) (k : Nat) (b : Bool) (i : Nat) : ∀ x ∈ whoAt (K.take k) b i, In n x := by
  intro x hx
  unfold whoAt at hx
  obtain ⟨y, hy, rfl⟩ := List.mem_map.1 hx
  obtain ⟨h1, h2, _⟩ := hK y (List.mem_of_mem_take (List.mem_filter.1 hy).1)
  exact ⟨h1, h2⟩
theorem whoAt_len (K : List Lk) (k : Nat) (b : Bool) (i : Nat) : (whoAt (K.take k) b i).length ≤ k := by
  unfold whoAt
  rw [List.length_map]
  exact Nat.le_trans (List.length_filter_le _ _) (by rw [List.length_take]; omega)

/-! ### the top at first -/
def topsK (n k : Nat) : List Int := (List.range n).map fun (i : Nat) => if i < k then (i : Int) else 0
theorem topsK_len (n k : Nat) : (topsK n k).length = n := by simp [topsK]
theorem topsK_zero (n : Nat) : topsK n 0 = List.replicate n 0 := by
  apply List.ext_getElem
  · simp [topsK]
  · intro i h1 h2; simp [topsK]
theorem topsK_set {n k : Nat} : (topsK n k).set k (k : Int) = topsK n (k + 1) := by
  apply List.ext_getElem
  · simp [topsK]
  · intro i h1 h2
    rw [List.getElem_set]
    simp only [topsK, List.getElem_map, List.getElem_range]
    by_cases e : k = i
    · subst e; simp
    · rw [if_neg e]
      by_cases e2 : i < k
      · rw [if_pos e2, if_pos (by omega)]
      · rw [if_neg e2, if_neg (by omega)]
theorem topsK_all {n k : Nat} (h : n ≤ k) : topsK n k = (List.range n).map fun (i : Nat) => (i : Int) := by
  apply List.ext_getElem
  · simp [topsK]
  · intro i h1 h2
    simp [topsK] at h1 ⊢
    intro; omega
end Go.Proofs.Ytkgebkinlpmpnaa
namespace Go.Proofs.Ytkgebkinlpmpnaa
open Go.RowKit

theorem Try.infoRowK : (Try.prog.info? 33).map (fun i => (i.zero, i.size, i.bytes)) = some (some (.slice none 0 0), 1, 24) := by kernel_rfl
theorem made_rowsK (n : Nat) : madeCells (Value.slice none 0 0).cells n = Array.replicate n (Value.slice none 0 0) := by
  unfold madeCells
  simp only [Value.cells]
  apply Array.ext
  · simp
  · intro i h1 h2
    simp [Nat.mod_one]
theorem run_rowsK (n : Nat) (hn : n ≤ 1000000) (w : World) : (Instr.makeSlice 65 (.int .i64 n) (.int .i64 n)).run Try.prog w = .ok (.slice (some ⟨w.heap.size, 0, none⟩) n n) (w.alloc (.cells (Array.replicate n (Value.slice none 0 0)) 33)) := by
  obtain ⟨i, hi, hz0, hz1, hz2⟩ := info_parts Try.infoRowK
  have hrun := run_make (P := Try.prog) w 65 33 i _ Try.underlying65 hi hz0 .i64 .i64 n n (by omega) (Int.le_refl _) (by rw [hz2]; omega) (by omega)
  rw [hz1, Nat.mul_one, Int.toNat_natCast, made_rowsK] at hrun
  exact hrun
theorem RowU.madeK {w : World} {n u : Nat} (h : w.heap.size = u) : RowU (w.alloc (.cells (Array.replicate n (Value.int .i64 0)) 3)) u (List.replicate n 0) := by
  subst h
  unfold RowU
  rw [heap_alloc_new]
  simp
def NilS (w : World) (u n : Nat) : Prop := w.heap[u]? = some (.cells (Array.replicate n (Value.slice none 0 0)) 33 (0, 0))
theorem NilS.lt {w : World} {u n : Nat} (h : NilS w u n) : u < w.heap.size := (Array.getElem?_eq_some_iff.1 h).1
theorem NilS.made {w : World} {n u : Nat} (h : w.heap.size = u) : NilS (w.alloc (.cells (Array.replicate n (Value.slice none 0 0)) 33)) u n := by
  subst h; exact heap_alloc_new _ _
theorem NilS.alloc {w : World} {n u : Nat} (h : NilS w u n) (o : Obj) : NilS (w.alloc o) u n := (heap_alloc_old _ _ h.lt).trans h
theorem VObj.made {w : World} {V : Nat} {c0 c1 c2 c3 : Value} (h : w.heap.size = V) : VObj (w.alloc (.cells #[c0, c1, c2, c3] 67)) V c0 c1 c2 c3 := by
  subst h; exact heap_alloc_new _ _
theorem RowU.allocK {w : World} {u : Nat} {U : List Int} (h : RowU w u U) (o : Obj) : RowU (w.alloc o) u U := h.alloc o

theorem RowU.blockK {w w2 : World} {u : Nat} {U : List Int} (h : RowU w u U) (hb : w2.heap[u]? = w.heap[u]?) : RowU w2 u U := hb.trans h
/-- the object, just made -/
structure Flat0 (w W : World) (V O E D T n : Nat) : Prop where
  old : w.heap.size ≤ O ∧ w.heap.size ≤ E ∧ w.heap.size ≤ D ∧ w.heap.size ≤ T ∧ w.heap.size ≤ V
  ne : O ≠ E ∧ O ≠ D ∧ O ≠ T ∧ O ≠ V ∧ E ≠ D ∧ E ≠ T ∧ E ≠ V ∧ D ≠ T ∧ D ≠ V ∧ T ≠ V
  of_ : RowU W O (List.replicate n 0)
  tops : RowU W T (List.replicate n 0)
  lean : NilS W E n
  deny : NilS W D n
  obj : VObj W V (.slice (some ⟨O, 0, none⟩) n n) (.slice (some ⟨E, 0, none⟩) n n) (.slice (some ⟨D, 0, none⟩) n n) (.slice (some ⟨T, 0, none⟩) n n)
  b : Below w.heap.size w W
abbrev gOf (E D : Nat) (b : Bool) : Nat := if b then D else E
/-- while links are gone through -/
structure FlatW (w W : World) (V O E D T n B : Nat) (K : List Lk) (k : Nat) : Prop where
  of_ : RowU W O (List.replicate n 0)
  tops : RowU W T (topsK n n)
  obj : VObj W V (.slice (some ⟨O, 0, none⟩) n n) (.slice (some ⟨E, 0, none⟩) n n) (.slice (some ⟨D, 0, none⟩) n n) (.slice (some ⟨T, 0, none⟩) n n)
  nest : ∃ r, Nest W B n (gOf E D) r (whoAt (K.take k))
  b : Below w.heap.size w W
  B : B ≤ W.heap.size

set_option maxHeartbeats 16000000 in
set_option maxRecDepth 100000 in
theorem flat_any (a : Option Addr) (cap : Nat) (w : World) (n : Nat) (K : List Lk) (hr : Row w a cap K) (hn : n ≤ 100000) (hK : K.length ≤ 100000) (HK : Hid (LkIn n K)) :
    Calls Try.prog 42 #[.int .i64 n, .slice a K.length cap] w fun e w' => ∃ V O E D T, e = .returned (.pointer (some ⟨V, 0, none⟩)) ∧ V ≠ O ∧ w.heap.size ≤ V ∧ w.heap.size ≤ O ∧
      VObj w' V (.slice (some ⟨O, 0, none⟩) n n) (.slice (some ⟨E, 0, none⟩) n n) (.slice (some ⟨D, 0, none⟩) n n) (.slice (some ⟨T, 0, none⟩) n n) ∧ RowU w' O (List.replicate n 0) ∧
      Row (veil [V, O] w') (some ⟨E, 0, none⟩) n (whoL n false K) ∧ Row (veil [V, O] w') (some ⟨D, 0, none⟩) n (whoL n true K) ∧ Row (veil [V, O] w') (some ⟨T, 0, none⟩) n (topsK n n) ∧ Below w.heap.size w w' := by
  have hm := hr.max
  have hle := hr.le
  go_enter Try.func42, Try.ntmps42
  go_wp2_with fail
  generalize hA : Act.mk _ _ = A0
  refine Code.wp_mono (Q := fun e A' W' => e = .normal ∧ ∃ V O E D T, A' = (((((((((((A0.put (some 9) (.int .i64 n)).put (some 10) (.slice (some ⟨O, 0, none⟩) n n)).put (some 11) (.int .i64 n)).put (some 12) (.slice (some ⟨E, 0, none⟩) n n)).put (some 13) (.int .i64 n)).put (some 14) (.slice (some ⟨D, 0, none⟩) n n)).put (some 15) (.int .i64 n)).put (some 16) (.slice (some ⟨T, 0, none⟩) n n)).put (some 17) (.agg #[.slice (some ⟨O, 0, none⟩) n n, .slice (some ⟨E, 0, none⟩) n n, .slice (some ⟨D, 0, none⟩) n n, .slice (some ⟨T, 0, none⟩) n n])).put (some 18) (.pointer (some ⟨V, 0, none⟩))).put (some 5) (.pointer (some ⟨V, 0, none⟩))) ∧ Flat0 w W' V O E D T n) ?_ ?_
  · rintro e A' W' ⟨rfl, V, O, E, D, T, rfl, hL⟩
    subst hA
    simp only [Act.put, List.setIfInBounds_toArray, List.set_cons_zero, List.set_cons_succ]
    -- BEGIN BODY
    obtain ⟨o1, o2, o3, o4, o5⟩ := hL.old
    obtain ⟨ne1, ne2, ne3, ne4, hne5, ne6, ne7, ne8, ne9, ne10⟩ := hL.ne
    have HF0 := mkHid hL
    clear hL
    go_wp2_with fail
    go_loopw [20] (fun i wr => ∃ k : Nat, k ≤ n ∧ i = .int .i64 k ∧ Hid (RowU wr T (topsK n k)) ∧ Hid (Fr [T] W' wr)) (fun i wr => n - (intOf i).toNat)
    case atStart => exact ⟨0, Nat.zero_le _, rfl, by rw [Hid, topsK_zero]; exact HF0.out.tops, Fr.refl _ _⟩
    case round =>
      obtain ⟨k, hk, rfl, HT, HF⟩ := hrel
      by_cases hlt : k < n
      · have v3 := (HF0.out.obj.block (HF.out.block V HF0.out.obj.lt (by simp; omega))).cells.2.2.2
        have htl := HT.out.lt
        have hkl : k < (topsK n k).length := by rw [topsK_len]; exact hlt
        have e0 := HT.out.read hkl
        have f0 := HT.out.free k
        have hk0 : (0 : Int) ≤ (k : Int) := by omega
        have hk1 : (k : Int) < (n : Int) := by omega
        have HT2 : Hid (RowU (wr.setCell ⟨T, k, none⟩ (.int .i64 k)) T (topsK n (k + 1))) := by
          have h1 := HT.out.set k (k : Int)
          rw [topsK_set] at h1
          exact h1
        have HF2 : Hid (Fr [T] W' (wr.setCell ⟨T, k, none⟩ (.int .i64 k))) := HF.out.set (by simp) _
        generalize (topsK n k)[k] = x at e0
        clear hkl
        go_wp2_with fail
        go_round
        case rel => exact ⟨k + 1, by omega, by go_num, HT2, HF2⟩
        case measure => simp [intOf]; omega
      · have hkn : k = n := by omega
        have hobj := HF0.out.obj.block (HF.out.block V HF0.out.obj.lt (by simp; omega))
        have hlean : NilS wr E n := (HF.out.block E HF0.out.lean.lt (by simp; omega)).trans HF0.out.lean
        have hdeny : NilS wr D n := (HF.out.block D HF0.out.deny.lt (by simp; omega)).trans HF0.out.deny
        have hof : RowU wr O (List.replicate n 0) := (HF.out.block O HF0.out.of_.lt (by simp; omega)).trans HF0.out.of_
        have hBw : Below w.heap.size w wr := HF0.out.b.trans (HF.out.below HF0.out.b.size (by simp; omega))
        have hN0 : Nest wr wr.heap.size n (gOf E D) (fun _ _ => .slice none 0 0) (whoAt (K.take 0)) := by
          refine ⟨fun b => ?_, fun b i hi => World.ownsRow_nil _ _ _ _, fun b i b' i' q _ _ h1 => by cases h1⟩
          cases b
          · exact ⟨_, hlean, fun i hi => by simp [hi]⟩
          · exact ⟨_, hdeny, fun i hi => by simp [hi]⟩
        obtain ⟨B, hB⟩ : ∃ B, wr.heap.size = B := ⟨_, rfl⟩
        have hVB : V < B := by rw [← hB]; exact hobj.lt
        have hOB : O < B := by rw [← hB]; exact hof.lt
        have hTB : T < B := by rw [← hB]; exact HT.out.lt
        have hEB : E < B := by rw [← hB]; exact hlean.lt
        have hDB : D < B := by rw [← hB]; exact hdeny.lt
        rw [hB] at hN0
        have HW0 : Hid (FlatW w wr V O E D T n B K 0) := ⟨hof, by rw [← hkn]; rw [hkn]; exact hkn ▸ HT.out, hobj, ⟨_, hN0⟩, hBw, by omega⟩
        clear hobj hlean hdeny hof hBw hN0 hB HT HF hkn HF0
        go_wp2_with fail
        go_loopw [33] (fun i wr => ∃ k : Nat, k ≤ K.length ∧ i = .int .i64 k ∧ Hid (FlatW w wr V O E D T n B K k)) (fun i wr => K.length - (intOf i).toNat)
        case atStart => exact ⟨0, Nat.zero_le _, rfl, HW0⟩
        case round =>
          clear HW0
          obtain ⟨k, hk, rfl, HW⟩ := hrel
          by_cases hlt : k < K.length
          · have hL := HW.out
            obtain ⟨b, off, rfl, hb, hat⟩ := hr.cases.resolve_left (fun e => by simp [e] at hlt)
            obtain ⟨c0, c1, c2, hlf⟩ := lk_at hat hL.b hlt
            obtain ⟨f1, f2, t1, t2⟩ := HK.out _ (List.getElem_mem hlt)
            obtain ⟨r, hnest⟩ := hL.nest
            obtain ⟨t, ht⟩ : ∃ t : Nat, K[k].t = t := ⟨K[k].t.toNat, by omega⟩
            have htn : t < n := by omega
            rw [ht] at c1
            have ht0 : (0 : Int) ≤ (t : Int) := by omega
            have ht1 : (t : Int) < (n : Int) := by omega
            have hBs := hL.B
            have hwl := hL.b.size
            have hbx : Below wr.heap.size wr (wr.alloc (.cells #[.int .i64 K[k].f, .int .i64 (t : Int), .bool K[k].neg] 57)) := (Below.refl _ _).new _
            have hGB := hDB
            have hGB2 := hEB
            clear HW hlf hb hat
            cases hN : K[k].neg with
            | false =>
              have hGB := hEB
              have v0 := (hL.obj.alloc (.cells #[.int .i64 K[k].f, .int .i64 (t : Int), .bool K[k].neg] 57))
              have hnb := hnest.below (hbx : Below wr.heap.size wr _)
              rw [hN] at v0 hnb hbx
              rw [hN] at c2
              go_wp2_with fail
              generalize hWb : wr.alloc (.cells #[.int .i64 K[k].f, .int .i64 (t : Int), .bool false] 57) = W1 at v0 hnb hbx
              have b0 : W1.cell? ⟨wr.heap.size, 0, none⟩ = some (.int .i64 K[k].f) := by rw [← hWb]; exact World.cell?_alloc_at _ _ _ 0 rfl
              have b1 : W1.cell? ⟨wr.heap.size, 1, none⟩ = some (.int .i64 t) := by rw [← hWb]; exact World.cell?_alloc_at _ _ _ 1 rfl
              have hw1s : wr.heap.size < W1.heap.size := cell_lt b0
              clear hWb
              have vc := v0.cells.2.1
              have hcl : W1.cell? ⟨E, t, none⟩ = some (r false t) := hnb.cell false htn
              have hfz : W1.frozen? ⟨E, t, none⟩ = false := hnb.free false t
              have hcll : E < W1.heap.size := cell_lt hcl
              have hVl1 := v0.lt
              have hold0 : OwnI W1 B (r false t) (whoAt (K.take k) false t) := hnb.own false t htn
              have hAP := mkHid hnb
              have hlen := whoAt_len K k false t
              have hstep0 := whoAt_next hlt ht
              rw [hN] at hstep0
              have hnq : ∀ q, (r false t).ownBlock = some q → B ≤ q ∧ q < wr.heap.size := fun q hq => (hnest.own false t htn).lt q hq
              obtain ⟨av, cv, hrv, hav1, hav2⟩ := hold0.slice
              obtain ⟨L0, hL0⟩ : ∃ L0, whoAt (K.take k) false t = L0 := ⟨_, rfl⟩
              rw [hL0] at hold0 hlen hrv hstep0 hav1
              have HST : Hid (∀ (b : Bool) (i : Nat), (if b = false ∧ i = t then L0 ++ [K[k].f] else whoAt (K.take k) b i) = whoAt (K.take (k + 1)) b i) := hstep0
              have HRV := mkHid hrv
              rw [hrv] at hcl hold0 hnq
              clear hstep0 hL0 hrv
              have hown : W1.ownsRow B 3 1 (.slice av L0.length cv) L0.length (L0.map (Value.int .i64)) := hold0
              obtain ⟨i0, hi0, hz0, hz1, hz2⟩ := info_parts Try.infoInt
              have hw1 : wr.heap.size ≤ W1.heap.size := Nat.le_of_lt hw1s
              obtain ⟨gg, cg, wa, hrun, hown1, hgrow, hat, hlt2⟩ := run_append_lies (P := Try.prog) (W1.drew.alloc (.cells #[.int .i64 K[k].f] 3)) 33 33 B 3 i0 _ 1 8 Try.underlying33 hi0 hz0 hz1 hz2 rfl (by omega) _ L0.length (L0.map (Value.int .i64)) ((show W1.drew.ownsRow B 3 1 _ _ _ from hown).alloc _)
                ⟨W1.drew.heap.size, 0, none⟩ 1 1 [.int .i64 K[k].f] rfl (World.news_of_block (cs := #[.int .i64 K[k].f]) (t := 3) (fr := (0, 0)) (heap_alloc_new _ _)) (by simp [Value.oneCell']) (by omega) (by unfold maxLen; omega) (by omega) (by rw [World.size_alloc]; exact Nat.le_trans hBs (Nat.le_trans hw1 (Nat.le_succ _))) _ rfl
              have hrunA : (Builtin.append_ #[33, 33] 33 #[.slice av L0.length cv, .slice (some ⟨W1.heap.size, 0, none⟩) 1 1]).run Try.prog (W1.drew.alloc (.cells #[.int .i64 K[k].f] 3)) = .ok (.slice (some ⟨gg, 0, none⟩) (L0.length + 1) cg) wa := hrun
              have hrunB : (Builtin.append_ #[33, 33] 33 #[.slice av L0.length cv, .slice (some ⟨W1.heap.size, 0, none⟩) 1 1]).run Try.prog (W1.alloc (.cells #[.int .i64 K[k].f] 3)).drew = .ok (.slice (some ⟨gg, 0, none⟩) (L0.length + 1) cg) wa := hrun
              clear hrun
              have hold : ∀ k, k < W1.heap.size → (Value.slice av L0.length cv).ownBlock ≠ some k → wa.heap[k]? = W1.heap[k]? := fun k hk hn => (hgrow.block k (by rw [World.size_alloc]; exact Nat.lt_succ_of_lt hk) (fun e => hn e.symm)).trans (heap_alloc_old W1.drew _ hk)
              have hG1 : W1.heap.size ≤ wa.heap.size := Nat.le_trans (Nat.le_succ W1.heap.size) (by have h1 := hgrow.size; rw [World.size_alloc] at h1; exact h1)
              have hnV : ∀ k, k < B ∨ wr.heap.size ≤ k → (Value.slice av L0.length cv).ownBlock ≠ some k := fun k hk e => by have := hnq k e; omega
              have hVa := v0.block (hold V v0.lt (hnV V (.inl hVB)))
              have hcla : wa.cell? ⟨E, t, none⟩ = some (.slice av L0.length cv) := (World.cell?_of_block (w := W1) (a := ⟨E, t, none⟩) (hold E (cell_lt hcl) (hnV E (.inl hGB)))).trans hcl
              have hfza : wa.frozen? ⟨E, t, none⟩ = false := by
                have h1 := hold E (cell_lt hcl) (hnV E (.inl hGB))
                have h2 := hfz
                simp only [World.frozen?] at h2 ⊢
                rw [h1]; exact h2
              have hfin := (hAP.out.below ((Below.refl W1.heap.size W1).drew.alloc (Nat.le_refl _) (.cells #[.int .i64 K[k].f] 3))).step (w1 := wa) (by intro e; exact hne5 e.symm) (fun b => by cases b; exact hEB; exact hDB) (b0 := false) htn (v' := .slice (some ⟨gg, 0, none⟩) (L0.length + 1) cg) (l' := L0 ++ [K[k].f]) (by rw [HRV.out]; exact hgrow) (by unfold OwnI; rw [List.length_append, List.map_append]; exact hown1) (q0 := gg) rfl (by
                rw [HRV.out]
                rcases hat with h | h
                · exact .inl h
                · exact .inr (Nat.le_of_eq h.symm))
              have HFIN := mkHid (hfin.congr fun b i hi => HST.out b i)
              have hsz : (wa.setCell ⟨E, t, none⟩ (.slice (some ⟨gg, 0, none⟩) (L0.length + 1) cg)).heap.size = wa.heap.size := by simp [World.setCell]
              have hbe : Below w.heap.size w (wa.setCell ⟨E, t, none⟩ (.slice (some ⟨gg, 0, none⟩) (L0.length + 1) cg)) := by
                have h1 := hL.b.then hbx
                refine ⟨hgrow.os.trans h1.os, hgrow.tape.trans h1.tape, hgrow.output.trans h1.output, by rw [hsz]; exact Nat.le_trans h1.size hG1, fun k hk => ?_⟩
                exact (Below.heap_setCell wa ⟨E, t, none⟩ _ k (by show k ≠ E; omega)).trans ((hold k (by have := h1.size; omega) (hnV k (.inl (by omega)))).trans (h1.block k hk))
              have HW2 : Hid (FlatW w (wa.setCell ⟨E, t, none⟩ (.slice (some ⟨gg, 0, none⟩) (L0.length + 1) cg)) V O E D T n B K (k + 1)) :=
                ⟨(RowU.blockK (hL.of_.below hbx) (hold O (by have := hL.of_.lt; omega) (hnV O (.inl hOB)))).setOther (by omega) _, (RowU.blockK (hL.tops.below hbx) (hold T (by have := hL.tops.lt; omega) (hnV T (.inl hTB)))).setOther (by omega) _, hVa.setOther (by omega) _, ⟨_, HFIN.out⟩, hbe, by rw [hsz]; omega⟩
              have HS1 : Hid ((fun w' : World => w'.cell? ⟨V, 1, none⟩ = some (.slice (some ⟨E, 0, none⟩) n n) ∧ w'.cell? ⟨wr.heap.size, 1, none⟩ = some (.int .i64 t) ∧ w'.cell? ⟨wr.heap.size, 0, none⟩ = some (.int .i64 K[k].f)) W1.drew) := ⟨vc, b1, b0⟩
              have HS2 : Hid ((fun w' : World => w'.cell? ⟨V, 1, none⟩ = some (.slice (some ⟨E, 0, none⟩) n n) ∧ w'.cell? ⟨wr.heap.size, 1, none⟩ = some (.int .i64 t) ∧ w'.cell? ⟨wr.heap.size, 0, none⟩ = some (.int .i64 K[k].f)) (W1.drew.alloc (.cells #[.int .i64 K[k].f] 3))) := ⟨keep (w := W1.drew) vc ((Below.refl _ _).new _), keep (w := W1.drew) b1 ((Below.refl _ _).new _), keep (w := W1.drew) b0 ((Below.refl _ _).new _)⟩
              have HS3 : Hid ((fun w' : World => w'.cell? ⟨V, 1, none⟩ = some (.slice (some ⟨E, 0, none⟩) n n) ∧ w'.cell? ⟨wr.heap.size, 1, none⟩ = some (.int .i64 t) ∧ w'.cell? ⟨wr.heap.size, 0, none⟩ = some (.int .i64 K[k].f)) wa) := ⟨hVa.cells.2.1, (World.cell?_of_block (w := W1) (a := ⟨wr.heap.size, 1, none⟩) (hold _ hw1s (hnV _ (.inr (Nat.le_refl _))))).trans b1, (World.cell?_of_block (w := W1) (a := ⟨wr.heap.size, 0, none⟩) (hold _ hw1s (hnV _ (.inr (Nat.le_refl _))))).trans b0⟩
              have HS4 : Hid ((fun w' : World => w'.cell? ⟨V, 1, none⟩ = some (.slice (some ⟨E, 0, none⟩) n n) ∧ w'.cell? ⟨wr.heap.size, 1, none⟩ = some (.int .i64 t) ∧ w'.cell? ⟨wr.heap.size, 0, none⟩ = some (.int .i64 K[k].f)) (wa.setCell ⟨E, t, none⟩ (.slice (some ⟨gg, 0, none⟩) (L0.length + 1) cg))) :=
                ⟨(World.cell?_setCell_far wa ⟨E, t, none⟩ ⟨V, 1, none⟩ _ (by show E ≠ V; omega)).trans HS3.out.1, (World.cell?_setCell_far wa ⟨E, t, none⟩ ⟨wr.heap.size, 1, none⟩ _ (by show E ≠ wr.heap.size; omega)).trans HS3.out.2.1, (World.cell?_setCell_far wa ⟨E, t, none⟩ ⟨wr.heap.size, 0, none⟩ _ (by show E ≠ wr.heap.size; omega)).trans HS3.out.2.2⟩
              clear hold hgrow hown hfin hbe hVa hnb HFIN hAP v0 hown1 hat hold0 hbx hL hnest hsz
              refine wp_region_noPanic ?_
              refine wp_region_held_drew (S := (fun w' : World => w'.cell? ⟨V, 1, none⟩ = some (.slice (some ⟨E, 0, none⟩) n n) ∧ w'.cell? ⟨wr.heap.size, 1, none⟩ = some (.int .i64 t) ∧ w'.cell? ⟨wr.heap.size, 0, none⟩ = some (.int .i64 K[k].f))) (by kernel_rfl) (HS1.out) (fun hSd => ?_)
              refine wpAnyH_take (i := 0) (oi := _) (v := ?_) rfl (by kernel_rfl) (by kernel_rfl) (by kernel_rfl) (fun _ _ _ h => h) (Or.inl ⟨by rfl, ?_⟩) (by assumption) ?_
              rotate_left
              · (intro w' hSw; (try dsimp only at hSw); go_simp; try with_reducible rfl)
              (try simp only [Act.put, List.setIfInBounds_toArray, List.set_cons_zero, List.set_cons_succ])
              refine wpAnyH_take (i := 1) (oi := _) (v := ?_) rfl (by kernel_rfl) (by kernel_rfl) (by kernel_rfl) (fun _ _ _ h => h) (Or.inl ⟨by rfl, ?_⟩) (by assumption) ?_
              rotate_left
              · (intro w' hSw; (try dsimp only at hSw); go_simp; try with_reducible rfl)
              (try simp only [Act.put, List.setIfInBounds_toArray, List.set_cons_zero, List.set_cons_succ])
              refine wpAnyH_take (i := 2) (oi := _) (v := ?_) rfl (by kernel_rfl) (by kernel_rfl) (by kernel_rfl) (fun _ _ _ h => h) (Or.inl ⟨by rfl, ?_⟩) (by assumption) ?_
              rotate_left
              · (intro w' hSw; (try dsimp only at hSw); go_simp; try with_reducible rfl)
              (try simp only [Act.put, List.setIfInBounds_toArray, List.set_cons_zero, List.set_cons_succ])
              refine wpAnyH_take (i := 3) (oi := _) (v := ?_) rfl (by kernel_rfl) (by kernel_rfl) (by kernel_rfl) (fun _ _ _ h => h) (Or.inl ⟨by rfl, ?_⟩) (by assumption) ?_
              rotate_left
              · (intro w' hSw; (try dsimp only at hSw); go_simp; try with_reducible rfl)
              (try simp only [Act.put, List.setIfInBounds_toArray, List.set_cons_zero, List.set_cons_succ])
              refine wpAnyH_take (i := 4) (oi := _) (v := ?_) rfl (by kernel_rfl) (by kernel_rfl) (by kernel_rfl) (fun _ _ _ h => h) (Or.inl ⟨by rfl, ?_⟩) (by assumption) ?_
              rotate_left
              · (intro w' hSw; (try dsimp only at hSw); go_simp; try with_reducible rfl)
              (try simp only [Act.put, List.setIfInBounds_toArray, List.set_cons_zero, List.set_cons_succ])
              refine wpAnyH_take (i := 5) (oi := _) (v := ?_) rfl (by kernel_rfl) (by kernel_rfl) (by kernel_rfl) (fun _ _ _ h => h) (Or.inl ⟨by rfl, ?_⟩) (by assumption) ?_
              rotate_left
              · (intro w' hSw; (try dsimp only at hSw); go_simp; try with_reducible rfl)
              (try simp only [Act.put, List.setIfInBounds_toArray, List.set_cons_zero, List.set_cons_succ])
              refine wpAnyH_take (i := 6) (oi := _) (v := ?_) rfl (by kernel_rfl) (by kernel_rfl) (by kernel_rfl) (fun _ _ _ h => h) (Or.inl ⟨by rfl, ?_⟩) (by assumption) ?_
              rotate_left
              · (intro w' hSw; (try dsimp only at hSw); go_simp; try with_reducible rfl)
              (try simp only [Act.put, List.setIfInBounds_toArray, List.set_cons_zero, List.set_cons_succ])
              refine wpAnyH_take (i := 7) (oi := _) (v := ?_) rfl (by kernel_rfl) (by kernel_rfl) (by kernel_rfl) (fun _ _ _ h => h) (Or.inl ⟨by rfl, ?_⟩) (by assumption) ?_
              rotate_left
              · (intro w' hSw; (try dsimp only at hSw); go_simp; try with_reducible rfl)
              (try simp only [Act.put, List.setIfInBounds_toArray, List.set_cons_zero, List.set_cons_succ])
              refine wpAnyH_take (i := 8) (oi := _) (v := ?_) rfl (by kernel_rfl) (by kernel_rfl) (by kernel_rfl) (fun _ _ _ h => h) (Or.inl ⟨by rfl, ?_⟩) (by assumption) ?_
              rotate_left
              · (intro w' hSw; (try dsimp only at hSw); go_simp; try with_reducible rfl)
              (try simp only [Act.put, List.setIfInBounds_toArray, List.set_cons_zero, List.set_cons_succ])
              refine wpAnyH_take (i := 9) (oi := _) (v := ?_) rfl (by kernel_rfl) (by kernel_rfl) (by kernel_rfl) (fun _ _ _ h => h) (Or.inl ⟨by rfl, ?_⟩) (by assumption) ?_
              rotate_left
              · (intro w' hSw; (try dsimp only at hSw); go_simp; try with_reducible rfl)
              (try simp only [Act.put, List.setIfInBounds_toArray, List.set_cons_zero, List.set_cons_succ])
              refine wpAnyH_take (i := 10) (oi := _) (v := ?_) rfl (by kernel_rfl) (by kernel_rfl) (by kernel_rfl) (fun _ _ _ h => h) (Or.inl ⟨by rfl, ?_⟩) (by assumption) ?_
              rotate_left
              · (intro w' hSw; (try dsimp only at hSw); go_simp; try with_reducible rfl)
              (try simp only [Act.put, List.setIfInBounds_toArray, List.set_cons_zero, List.set_cons_succ])
              refine wpAnyH_take (i := 11) (oi := _) (v := ?_) rfl (by kernel_rfl) (by kernel_rfl) (by kernel_rfl) (fun _ _ _ h => h) (Or.inl ⟨by rfl, ?_⟩) (by assumption) ?_
              rotate_left
              · (intro w' hSw; (try dsimp only at hSw); go_simp; try with_reducible rfl)
              (try simp only [Act.put, List.setIfInBounds_toArray, List.set_cons_zero, List.set_cons_succ])
              refine wpAnyH_take (i := 12) (oi := _) (v := ?_) rfl (by kernel_rfl) (by kernel_rfl) (by kernel_rfl) (fun _ _ _ h => h) (Or.inl ⟨by rfl, ?_⟩) (by assumption) ?_
              rotate_left
              · (intro w' hSw; (try dsimp only at hSw); go_simp; try with_reducible rfl)
              (try simp only [Act.put, List.setIfInBounds_toArray, List.set_cons_zero, List.set_cons_succ])
              refine wpAnyH_take (i := 14) (oi := _) (v := ?_) rfl (by kernel_rfl) (by kernel_rfl) (by kernel_rfl) (fun _ _ _ h => h) (Or.inl ⟨by rfl, ?_⟩) (by assumption) ?_
              rotate_left
              · (intro w' hSw; (try dsimp only at hSw); go_simp; try with_reducible rfl)
              (try simp only [Act.put, List.setIfInBounds_toArray, List.set_cons_zero, List.set_cons_succ])
              refine wpAnyH_take (i := 15) (oi := _) (v := ?_) rfl (by kernel_rfl) (by kernel_rfl) (by kernel_rfl) (fun _ _ _ h => h) (Or.inl ⟨by rfl, ?_⟩) (by assumption) ?_
              rotate_left
              · (intro w' hSw; (try dsimp only at hSw); go_simp; try with_reducible rfl)
              (try simp only [Act.put, List.setIfInBounds_toArray, List.set_cons_zero, List.set_cons_succ])
              refine wpAnyH_ready (rs := [13, 16]) (by kernel_rfl) (by simp) ?_
              refine AllReadyH.cons (o := _) rfl (fun Kq hKq => ?_) ?_
              rotate_left
              refine AllReadyH.cons (o := _) rfl (fun Kq hKq => ?_) AllReadyH.nil
              go_simp
              refine hKq.out _ _ (HS2.out) (fun _ => ?_)
              clear hKq Kq
              (try simp only [Act.put, List.setIfInBounds_toArray, List.set_cons_zero, List.set_cons_succ])
              refine wpAnyH_ready (rs := [13]) (by kernel_rfl) (by simp) ?_
              refine AllReadyH.cons (o := _) rfl (fun Kq hKq => ?_) AllReadyH.nil
              go_simp
              refine hKq.out _ _ (HS2.out) (fun _ => ?_)
              clear hKq Kq
              (try simp only [Act.put, List.setIfInBounds_toArray, List.set_cons_zero, List.set_cons_succ])
              refine wpAnyH_ready (rs := [17]) (by kernel_rfl) (by simp) ?_
              refine AllReadyH.cons (o := _) rfl (fun Kq hKq => ?_) AllReadyH.nil
              (rw [if_pos (by rfl)]; simp [Oper.wp, execOp, resolve, invoke, builtin, Oper.upon, Act.eval, hrunA, hrunB, Result.andThen, Sem.run_bind])
              refine hKq.out _ _ (HS3.out) (fun _ => ?_)
              clear hKq Kq
              (try simp only [Act.put, List.setIfInBounds_toArray, List.set_cons_zero, List.set_cons_succ])
              refine wpAnyH_ready (rs := [18]) (by kernel_rfl) (by simp) ?_
              refine AllReadyH.cons (o := _) rfl (fun Kq hKq => ?_) AllReadyH.nil
              go_simp
              refine hKq.out _ _ (HS3.out) (fun _ => ?_)
              clear hKq Kq
              (try simp only [Act.put, List.setIfInBounds_toArray, List.set_cons_zero, List.set_cons_succ])
              refine wpAnyH_ready (rs := [19]) (by kernel_rfl) (by simp) ?_
              refine AllReadyH.cons (o := _) rfl (fun Kq hKq => ?_) AllReadyH.nil
              go_simp
              refine hKq.out _ _ (HS4.out) (fun _ => ?_)
              clear hKq Kq
              (try simp only [Act.put, List.setIfInBounds_toArray, List.set_cons_zero, List.set_cons_succ])
              refine wpAnyH_done (by kernel_rfl) (NoPanic.normal ?_) _
              rotate_left
              go_simp
              refine hKq.out _ _ (HS1.out) (fun _ => ?_)
              clear hKq Kq
              (try simp only [Act.put, List.setIfInBounds_toArray, List.set_cons_zero, List.set_cons_succ])
              refine wpAnyH_ready (rs := [16]) (by kernel_rfl) (by simp) ?_
              refine AllReadyH.cons (o := _) rfl (fun Kq hKq => ?_) AllReadyH.nil
              go_simp
              refine hKq.out _ _ (HS2.out) (fun _ => ?_)
              clear hKq Kq
              (try simp only [Act.put, List.setIfInBounds_toArray, List.set_cons_zero, List.set_cons_succ])
              refine wpAnyH_ready (rs := [17]) (by kernel_rfl) (by simp) ?_
              refine AllReadyH.cons (o := _) rfl (fun Kq hKq => ?_) AllReadyH.nil
              (rw [if_pos (by rfl)]; simp [Oper.wp, execOp, resolve, invoke, builtin, Oper.upon, Act.eval, hrunA, hrunB, Result.andThen, Sem.run_bind])
              refine hKq.out _ _ (HS3.out) (fun _ => ?_)
              clear hKq Kq
              (try simp only [Act.put, List.setIfInBounds_toArray, List.set_cons_zero, List.set_cons_succ])
              refine wpAnyH_ready (rs := [18]) (by kernel_rfl) (by simp) ?_
              refine AllReadyH.cons (o := _) rfl (fun Kq hKq => ?_) AllReadyH.nil
              go_simp
              refine hKq.out _ _ (HS3.out) (fun _ => ?_)
              clear hKq Kq
              (try simp only [Act.put, List.setIfInBounds_toArray, List.set_cons_zero, List.set_cons_succ])
              refine wpAnyH_ready (rs := [19]) (by kernel_rfl) (by simp) ?_
              refine AllReadyH.cons (o := _) rfl (fun Kq hKq => ?_) AllReadyH.nil
              go_simp
              refine hKq.out _ _ (HS4.out) (fun _ => ?_)
              clear hKq Kq
              (try simp only [Act.put, List.setIfInBounds_toArray, List.set_cons_zero, List.set_cons_succ])
              refine wpAnyH_done (by kernel_rfl) (NoPanic.normal ?_) _
              all_goals
                go_wp2
                exact ⟨⟨k + 1, by omega, by go_num, HW2⟩, by simp [intOf]; omega⟩
            | true =>
              have v0 := (hL.obj.alloc (.cells #[.int .i64 K[k].f, .int .i64 (t : Int), .bool K[k].neg] 57))
              have hnb := hnest.below (hbx : Below wr.heap.size wr _)
              rw [hN] at v0 hnb hbx
              rw [hN] at c2
              go_wp2_with fail
              generalize hWb : wr.alloc (.cells #[.int .i64 K[k].f, .int .i64 (t : Int), .bool true] 57) = W1 at v0 hnb hbx
              have b0 : W1.cell? ⟨wr.heap.size, 0, none⟩ = some (.int .i64 K[k].f) := by rw [← hWb]; exact World.cell?_alloc_at _ _ _ 0 rfl
              have b1 : W1.cell? ⟨wr.heap.size, 1, none⟩ = some (.int .i64 t) := by rw [← hWb]; exact World.cell?_alloc_at _ _ _ 1 rfl
              have hw1s : wr.heap.size < W1.heap.size := cell_lt b0
              clear hWb
              have vc := v0.cells.2.2.1
              have hcl : W1.cell? ⟨D, t, none⟩ = some (r true t) := hnb.cell true htn
              have hfz : W1.frozen? ⟨D, t, none⟩ = false := hnb.free true t
              have hcll : D < W1.heap.size := cell_lt hcl
              have hVl1 := v0.lt
              have hold0 : OwnI W1 B (r true t) (whoAt (K.take k) true t) := hnb.own true t htn
              have hAP := mkHid hnb
              have hlen := whoAt_len K k true t
              have hstep0 := whoAt_next hlt ht
              rw [hN] at hstep0
              have hnq : ∀ q, (r true t).ownBlock = some q → B ≤ q ∧ q < wr.heap.size := fun q hq => (hnest.own true t htn).lt q hq
              obtain ⟨av, cv, hrv, hav1, hav2⟩ := hold0.slice
              obtain ⟨L0, hL0⟩ : ∃ L0, whoAt (K.take k) true t = L0 := ⟨_, rfl⟩
              rw [hL0] at hold0 hlen hrv hstep0 hav1
              have HST : Hid (∀ (b : Bool) (i : Nat), (if b = true ∧ i = t then L0 ++ [K[k].f] else whoAt (K.take k) b i) = whoAt (K.take (k + 1)) b i) := hstep0
              have HRV := mkHid hrv
              rw [hrv] at hcl hold0 hnq
              clear hstep0 hL0 hrv
              have hown : W1.ownsRow B 3 1 (.slice av L0.length cv) L0.length (L0.map (Value.int .i64)) := hold0
              obtain ⟨i0, hi0, hz0, hz1, hz2⟩ := info_parts Try.infoInt
              have hw1 : wr.heap.size ≤ W1.heap.size := Nat.le_of_lt hw1s
              obtain ⟨gg, cg, wa, hrun, hown1, hgrow, hat, hlt2⟩ := run_append_lies (P := Try.prog) (W1.drew.alloc (.cells #[.int .i64 K[k].f] 3)) 33 33 B 3 i0 _ 1 8 Try.underlying33 hi0 hz0 hz1 hz2 rfl (by omega) _ L0.length (L0.map (Value.int .i64)) ((show W1.drew.ownsRow B 3 1 _ _ _ from hown).alloc _)
                ⟨W1.drew.heap.size, 0, none⟩ 1 1 [.int .i64 K[k].f] rfl (World.news_of_block (cs := #[.int .i64 K[k].f]) (t := 3) (fr := (0, 0)) (heap_alloc_new _ _)) (by simp [Value.oneCell']) (by omega) (by unfold maxLen; omega) (by omega) (by rw [World.size_alloc]; exact Nat.le_trans hBs (Nat.le_trans hw1 (Nat.le_succ _))) _ rfl
              have hrunA : (Builtin.append_ #[33, 33] 33 #[.slice av L0.length cv, .slice (some ⟨W1.heap.size, 0, none⟩) 1 1]).run Try.prog (W1.drew.alloc (.cells #[.int .i64 K[k].f] 3)) = .ok (.slice (some ⟨gg, 0, none⟩) (L0.length + 1) cg) wa := hrun
              have hrunB : (Builtin.append_ #[33, 33] 33 #[.slice av L0.length cv, .slice (some ⟨W1.heap.size, 0, none⟩) 1 1]).run Try.prog (W1.alloc (.cells #[.int .i64 K[k].f] 3)).drew = .ok (.slice (some ⟨gg, 0, none⟩) (L0.length + 1) cg) wa := hrun
              clear hrun
              have hold : ∀ k, k < W1.heap.size → (Value.slice av L0.length cv).ownBlock ≠ some k → wa.heap[k]? = W1.heap[k]? := fun k hk hn => (hgrow.block k (by rw [World.size_alloc]; exact Nat.lt_succ_of_lt hk) (fun e => hn e.symm)).trans (heap_alloc_old W1.drew _ hk)
              have hG1 : W1.heap.size ≤ wa.heap.size := Nat.le_trans (Nat.le_succ W1.heap.size) (by have h1 := hgrow.size; rw [World.size_alloc] at h1; exact h1)
              have hnV : ∀ k, k < B ∨ wr.heap.size ≤ k → (Value.slice av L0.length cv).ownBlock ≠ some k := fun k hk e => by have := hnq k e; omega
              have hVa := v0.block (hold V v0.lt (hnV V (.inl hVB)))
              have hcla : wa.cell? ⟨D, t, none⟩ = some (.slice av L0.length cv) := (World.cell?_of_block (w := W1) (a := ⟨D, t, none⟩) (hold D (cell_lt hcl) (hnV D (.inl hGB)))).trans hcl
              have hfza : wa.frozen? ⟨D, t, none⟩ = false := by
                have h1 := hold D (cell_lt hcl) (hnV D (.inl hGB))
                have h2 := hfz
                simp only [World.frozen?] at h2 ⊢
                rw [h1]; exact h2
              have hfin := (hAP.out.below ((Below.refl W1.heap.size W1).drew.alloc (Nat.le_refl _) (.cells #[.int .i64 K[k].f] 3))).step (w1 := wa) (by intro e; exact hne5 e.symm) (fun b => by cases b; exact hEB; exact hDB) (b0 := true) htn (v' := .slice (some ⟨gg, 0, none⟩) (L0.length + 1) cg) (l' := L0 ++ [K[k].f]) (by rw [HRV.out]; exact hgrow) (by unfold OwnI; rw [List.length_append, List.map_append]; exact hown1) (q0 := gg) rfl (by
                rw [HRV.out]
                rcases hat with h | h
                · exact .inl h
                · exact .inr (Nat.le_of_eq h.symm))
              have HFIN := mkHid (hfin.congr fun b i hi => HST.out b i)
              have hsz : (wa.setCell ⟨D, t, none⟩ (.slice (some ⟨gg, 0, none⟩) (L0.length + 1) cg)).heap.size = wa.heap.size := by simp [World.setCell]
              have hbe : Below w.heap.size w (wa.setCell ⟨D, t, none⟩ (.slice (some ⟨gg, 0, none⟩) (L0.length + 1) cg)) := by
                have h1 := hL.b.then hbx
                refine ⟨hgrow.os.trans h1.os, hgrow.tape.trans h1.tape, hgrow.output.trans h1.output, by rw [hsz]; exact Nat.le_trans h1.size hG1, fun k hk => ?_⟩
                exact (Below.heap_setCell wa ⟨D, t, none⟩ _ k (by show k ≠ D; omega)).trans ((hold k (by have := h1.size; omega) (hnV k (.inl (by omega)))).trans (h1.block k hk))
              have HW2 : Hid (FlatW w (wa.setCell ⟨D, t, none⟩ (.slice (some ⟨gg, 0, none⟩) (L0.length + 1) cg)) V O E D T n B K (k + 1)) :=
                ⟨(RowU.blockK (hL.of_.below hbx) (hold O (by have := hL.of_.lt; omega) (hnV O (.inl hOB)))).setOther (by omega) _, (RowU.blockK (hL.tops.below hbx) (hold T (by have := hL.tops.lt; omega) (hnV T (.inl hTB)))).setOther (by omega) _, hVa.setOther (by omega) _, ⟨_, HFIN.out⟩, hbe, by rw [hsz]; omega⟩
              have HS1 : Hid ((fun w' : World => w'.cell? ⟨V, 2, none⟩ = some (.slice (some ⟨D, 0, none⟩) n n) ∧ w'.cell? ⟨wr.heap.size, 1, none⟩ = some (.int .i64 t) ∧ w'.cell? ⟨wr.heap.size, 0, none⟩ = some (.int .i64 K[k].f)) W1.drew) := ⟨vc, b1, b0⟩
              have HS2 : Hid ((fun w' : World => w'.cell? ⟨V, 2, none⟩ = some (.slice (some ⟨D, 0, none⟩) n n) ∧ w'.cell? ⟨wr.heap.size, 1, none⟩ = some (.int .i64 t) ∧ w'.cell? ⟨wr.heap.size, 0, none⟩ = some (.int .i64 K[k].f)) (W1.drew.alloc (.cells #[.int .i64 K[k].f] 3))) := ⟨keep (w := W1.drew) vc ((Below.refl _ _).new _), keep (w := W1.drew) b1 ((Below.refl _ _).new _), keep (w := W1.drew) b0 ((Below.refl _ _).new _)⟩
              have HS3 : Hid ((fun w' : World => w'.cell? ⟨V, 2, none⟩ = some (.slice (some ⟨D, 0, none⟩) n n) ∧ w'.cell? ⟨wr.heap.size, 1, none⟩ = some (.int .i64 t) ∧ w'.cell? ⟨wr.heap.size, 0, none⟩ = some (.int .i64 K[k].f)) wa) := ⟨hVa.cells.2.2.1, (World.cell?_of_block (w := W1) (a := ⟨wr.heap.size, 1, none⟩) (hold _ hw1s (hnV _ (.inr (Nat.le_refl _))))).trans b1, (World.cell?_of_block (w := W1) (a := ⟨wr.heap.size, 0, none⟩) (hold _ hw1s (hnV _ (.inr (Nat.le_refl _))))).trans b0⟩
              have HS4 : Hid ((fun w' : World => w'.cell? ⟨V, 2, none⟩ = some (.slice (some ⟨D, 0, none⟩) n n) ∧ w'.cell? ⟨wr.heap.size, 1, none⟩ = some (.int .i64 t) ∧ w'.cell? ⟨wr.heap.size, 0, none⟩ = some (.int .i64 K[k].f)) (wa.setCell ⟨D, t, none⟩ (.slice (some ⟨gg, 0, none⟩) (L0.length + 1) cg))) :=
                ⟨(World.cell?_setCell_far wa ⟨D, t, none⟩ ⟨V, 2, none⟩ _ (by show D ≠ V; omega)).trans HS3.out.1, (World.cell?_setCell_far wa ⟨D, t, none⟩ ⟨wr.heap.size, 1, none⟩ _ (by show D ≠ wr.heap.size; omega)).trans HS3.out.2.1, (World.cell?_setCell_far wa ⟨D, t, none⟩ ⟨wr.heap.size, 0, none⟩ _ (by show D ≠ wr.heap.size; omega)).trans HS3.out.2.2⟩
              clear hold hgrow hown hfin hbe hVa hnb HFIN hAP v0 hown1 hat hold0 hbx hL hnest hsz
              refine wp_region_noPanic ?_
              refine wp_region_held_drew (S := (fun w' : World => w'.cell? ⟨V, 2, none⟩ = some (.slice (some ⟨D, 0, none⟩) n n) ∧ w'.cell? ⟨wr.heap.size, 1, none⟩ = some (.int .i64 t) ∧ w'.cell? ⟨wr.heap.size, 0, none⟩ = some (.int .i64 K[k].f))) (by kernel_rfl) (HS1.out) (fun hSd => ?_)
              refine wpAnyH_take (i := 0) (oi := _) (v := ?_) rfl (by kernel_rfl) (by kernel_rfl) (by kernel_rfl) (fun _ _ _ h => h) (Or.inl ⟨by rfl, ?_⟩) (by assumption) ?_
              rotate_left
              · (intro w' hSw; (try dsimp only at hSw); go_simp; try with_reducible rfl)
              (try simp only [Act.put, List.setIfInBounds_toArray, List.set_cons_zero, List.set_cons_succ])
              refine wpAnyH_take (i := 1) (oi := _) (v := ?_) rfl (by kernel_rfl) (by kernel_rfl) (by kernel_rfl) (fun _ _ _ h => h) (Or.inl ⟨by rfl, ?_⟩) (by assumption) ?_
              rotate_left
              · (intro w' hSw; (try dsimp only at hSw); go_simp; try with_reducible rfl)
              (try simp only [Act.put, List.setIfInBounds_toArray, List.set_cons_zero, List.set_cons_succ])
              refine wpAnyH_take (i := 2) (oi := _) (v := ?_) rfl (by kernel_rfl) (by kernel_rfl) (by kernel_rfl) (fun _ _ _ h => h) (Or.inl ⟨by rfl, ?_⟩) (by assumption) ?_
              rotate_left
              · (intro w' hSw; (try dsimp only at hSw); go_simp; try with_reducible rfl)
              (try simp only [Act.put, List.setIfInBounds_toArray, List.set_cons_zero, List.set_cons_succ])
              refine wpAnyH_take (i := 3) (oi := _) (v := ?_) rfl (by kernel_rfl) (by kernel_rfl) (by kernel_rfl) (fun _ _ _ h => h) (Or.inl ⟨by rfl, ?_⟩) (by assumption) ?_
              rotate_left
              · (intro w' hSw; (try dsimp only at hSw); go_simp; try with_reducible rfl)
              (try simp only [Act.put, List.setIfInBounds_toArray, List.set_cons_zero, List.set_cons_succ])
              refine wpAnyH_take (i := 4) (oi := _) (v := ?_) rfl (by kernel_rfl) (by kernel_rfl) (by kernel_rfl) (fun _ _ _ h => h) (Or.inl ⟨by rfl, ?_⟩) (by assumption) ?_
              rotate_left
              · (intro w' hSw; (try dsimp only at hSw); go_simp; try with_reducible rfl)
              (try simp only [Act.put, List.setIfInBounds_toArray, List.set_cons_zero, List.set_cons_succ])
              refine wpAnyH_take (i := 5) (oi := _) (v := ?_) rfl (by kernel_rfl) (by kernel_rfl) (by kernel_rfl) (fun _ _ _ h => h) (Or.inl ⟨by rfl, ?_⟩) (by assumption) ?_
              rotate_left
              · (intro w' hSw; (try dsimp only at hSw); go_simp; try with_reducible rfl)
              (try simp only [Act.put, List.setIfInBounds_toArray, List.set_cons_zero, List.set_cons_succ])
              refine wpAnyH_take (i := 6) (oi := _) (v := ?_) rfl (by kernel_rfl) (by kernel_rfl) (by kernel_rfl) (fun _ _ _ h => h) (Or.inl ⟨by rfl, ?_⟩) (by assumption) ?_
              rotate_left
              · (intro w' hSw; (try dsimp only at hSw); go_simp; try with_reducible rfl)
              (try simp only [Act.put, List.setIfInBounds_toArray, List.set_cons_zero, List.set_cons_succ])
              refine wpAnyH_take (i := 7) (oi := _) (v := ?_) rfl (by kernel_rfl) (by kernel_rfl) (by kernel_rfl) (fun _ _ _ h => h) (Or.inl ⟨by rfl, ?_⟩) (by assumption) ?_
              rotate_left
              · (intro w' hSw; (try dsimp only at hSw); go_simp; try with_reducible rfl)
              (try simp only [Act.put, List.setIfInBounds_toArray, List.set_cons_zero, List.set_cons_succ])
              refine wpAnyH_take (i := 8) (oi := _) (v := ?_) rfl (by kernel_rfl) (by kernel_rfl) (by kernel_rfl) (fun _ _ _ h => h) (Or.inl ⟨by rfl, ?_⟩) (by assumption) ?_
              rotate_left
              · (intro w' hSw; (try dsimp only at hSw); go_simp; try with_reducible rfl)
              (try simp only [Act.put, List.setIfInBounds_toArray, List.set_cons_zero, List.set_cons_succ])
              refine wpAnyH_take (i := 9) (oi := _) (v := ?_) rfl (by kernel_rfl) (by kernel_rfl) (by kernel_rfl) (fun _ _ _ h => h) (Or.inl ⟨by rfl, ?_⟩) (by assumption) ?_
              rotate_left
              · (intro w' hSw; (try dsimp only at hSw); go_simp; try with_reducible rfl)
              (try simp only [Act.put, List.setIfInBounds_toArray, List.set_cons_zero, List.set_cons_succ])
              refine wpAnyH_take (i := 10) (oi := _) (v := ?_) rfl (by kernel_rfl) (by kernel_rfl) (by kernel_rfl) (fun _ _ _ h => h) (Or.inl ⟨by rfl, ?_⟩) (by assumption) ?_
              rotate_left
              · (intro w' hSw; (try dsimp only at hSw); go_simp; try with_reducible rfl)
              (try simp only [Act.put, List.setIfInBounds_toArray, List.set_cons_zero, List.set_cons_succ])
              refine wpAnyH_take (i := 11) (oi := _) (v := ?_) rfl (by kernel_rfl) (by kernel_rfl) (by kernel_rfl) (fun _ _ _ h => h) (Or.inl ⟨by rfl, ?_⟩) (by assumption) ?_
              rotate_left
              · (intro w' hSw; (try dsimp only at hSw); go_simp; try with_reducible rfl)
              (try simp only [Act.put, List.setIfInBounds_toArray, List.set_cons_zero, List.set_cons_succ])
              refine wpAnyH_take (i := 12) (oi := _) (v := ?_) rfl (by kernel_rfl) (by kernel_rfl) (by kernel_rfl) (fun _ _ _ h => h) (Or.inl ⟨by rfl, ?_⟩) (by assumption) ?_
              rotate_left
              · (intro w' hSw; (try dsimp only at hSw); go_simp; try with_reducible rfl)
              (try simp only [Act.put, List.setIfInBounds_toArray, List.set_cons_zero, List.set_cons_succ])
              refine wpAnyH_take (i := 14) (oi := _) (v := ?_) rfl (by kernel_rfl) (by kernel_rfl) (by kernel_rfl) (fun _ _ _ h => h) (Or.inl ⟨by rfl, ?_⟩) (by assumption) ?_
              rotate_left
              · (intro w' hSw; (try dsimp only at hSw); go_simp; try with_reducible rfl)
              (try simp only [Act.put, List.setIfInBounds_toArray, List.set_cons_zero, List.set_cons_succ])
              refine wpAnyH_take (i := 15) (oi := _) (v := ?_) rfl (by kernel_rfl) (by kernel_rfl) (by kernel_rfl) (fun _ _ _ h => h) (Or.inl ⟨by rfl, ?_⟩) (by assumption) ?_
              rotate_left
              · (intro w' hSw; (try dsimp only at hSw); go_simp; try with_reducible rfl)
              (try simp only [Act.put, List.setIfInBounds_toArray, List.set_cons_zero, List.set_cons_succ])
              refine wpAnyH_ready (rs := [13, 16]) (by kernel_rfl) (by simp) ?_
              refine AllReadyH.cons (o := _) rfl (fun Kq hKq => ?_) ?_
              rotate_left
              refine AllReadyH.cons (o := _) rfl (fun Kq hKq => ?_) AllReadyH.nil
              go_simp
              refine hKq.out _ _ (HS2.out) (fun _ => ?_)
              clear hKq Kq
              (try simp only [Act.put, List.setIfInBounds_toArray, List.set_cons_zero, List.set_cons_succ])
              refine wpAnyH_ready (rs := [13]) (by kernel_rfl) (by simp) ?_
              refine AllReadyH.cons (o := _) rfl (fun Kq hKq => ?_) AllReadyH.nil
              go_simp
              refine hKq.out _ _ (HS2.out) (fun _ => ?_)
              clear hKq Kq
              (try simp only [Act.put, List.setIfInBounds_toArray, List.set_cons_zero, List.set_cons_succ])
              refine wpAnyH_ready (rs := [17]) (by kernel_rfl) (by simp) ?_
              refine AllReadyH.cons (o := _) rfl (fun Kq hKq => ?_) AllReadyH.nil
              (rw [if_pos (by rfl)]; simp [Oper.wp, execOp, resolve, invoke, builtin, Oper.upon, Act.eval, hrunA, hrunB, Result.andThen, Sem.run_bind])
              refine hKq.out _ _ (HS3.out) (fun _ => ?_)
              clear hKq Kq
              (try simp only [Act.put, List.setIfInBounds_toArray, List.set_cons_zero, List.set_cons_succ])
              refine wpAnyH_ready (rs := [18]) (by kernel_rfl) (by simp) ?_
              refine AllReadyH.cons (o := _) rfl (fun Kq hKq => ?_) AllReadyH.nil
              go_simp
              refine hKq.out _ _ (HS3.out) (fun _ => ?_)
              clear hKq Kq
              (try simp only [Act.put, List.setIfInBounds_toArray, List.set_cons_zero, List.set_cons_succ])
              refine wpAnyH_ready (rs := [19]) (by kernel_rfl) (by simp) ?_
              refine AllReadyH.cons (o := _) rfl (fun Kq hKq => ?_) AllReadyH.nil
              go_simp
              refine hKq.out _ _ (HS4.out) (fun _ => ?_)
              clear hKq Kq
              (try simp only [Act.put, List.setIfInBounds_toArray, List.set_cons_zero, List.set_cons_succ])
              refine wpAnyH_done (by kernel_rfl) (NoPanic.normal ?_) _
              rotate_left
              go_simp
              refine hKq.out _ _ (HS1.out) (fun _ => ?_)
              clear hKq Kq
              (try simp only [Act.put, List.setIfInBounds_toArray, List.set_cons_zero, List.set_cons_succ])
              refine wpAnyH_ready (rs := [16]) (by kernel_rfl) (by simp) ?_
              refine AllReadyH.cons (o := _) rfl (fun Kq hKq => ?_) AllReadyH.nil
              go_simp
              refine hKq.out _ _ (HS2.out) (fun _ => ?_)
              clear hKq Kq
              (try simp only [Act.put, List.setIfInBounds_toArray, List.set_cons_zero, List.set_cons_succ])
              refine wpAnyH_ready (rs := [17]) (by kernel_rfl) (by simp) ?_
              refine AllReadyH.cons (o := _) rfl (fun Kq hKq => ?_) AllReadyH.nil
              (rw [if_pos (by rfl)]; simp [Oper.wp, execOp, resolve, invoke, builtin, Oper.upon, Act.eval, hrunA, hrunB, Result.andThen, Sem.run_bind])
              refine hKq.out _ _ (HS3.out) (fun _ => ?_)
              clear hKq Kq
              (try simp only [Act.put, List.setIfInBounds_toArray, List.set_cons_zero, List.set_cons_succ])
              refine wpAnyH_ready (rs := [18]) (by kernel_rfl) (by simp) ?_
              refine AllReadyH.cons (o := _) rfl (fun Kq hKq => ?_) AllReadyH.nil
              go_simp
              refine hKq.out _ _ (HS3.out) (fun _ => ?_)
              clear hKq Kq
              (try simp only [Act.put, List.setIfInBounds_toArray, List.set_cons_zero, List.set_cons_succ])
              refine wpAnyH_ready (rs := [19]) (by kernel_rfl) (by simp) ?_
              refine AllReadyH.cons (o := _) rfl (fun Kq hKq => ?_) AllReadyH.nil
              go_simp
              refine hKq.out _ _ (HS4.out) (fun _ => ?_)
              clear hKq Kq
              (try simp only [Act.put, List.setIfInBounds_toArray, List.set_cons_zero, List.set_cons_succ])
              refine wpAnyH_done (by kernel_rfl) (NoPanic.normal ?_) _
              all_goals
                go_wp2
                exact ⟨⟨k + 1, by omega, by go_num, HW2⟩, by simp [intOf]; omega⟩
          · have hkn : k = K.length := by omega
            have hL := HW.out
            obtain ⟨r, hnest⟩ := hL.nest
            rw [hkn, List.take_length] at hnest
            have hfit : ∀ (b : Bool) (i : Nat), i < n → ∀ x ∈ whoAt K b i, -9223372036854775808 ≤ x ∧ x ≤ 9223372036854775807 := fun b i _ x hx => by
              have h1 := whoAt_in HK.out K.length b i x (by rw [List.take_length]; exact hx)
              unfold In at h1; omega
            have hus : ∀ k ∈ [V, O], k < B := by simp; omega
            have hRE := hnest.rows false hus (by show E ∉ [V, O]; simp; omega) (hfit false) (by omega)
            have hRD := hnest.rows true hus (by show D ∉ [V, O]; simp; omega) (hfit true) (by omega)
            rw [who_at] at hRE hRD
            have hRT : Row (veil [V, O] wr) (some ⟨T, 0, none⟩) n (topsK n n) := ⟨by rw [topsK_len]; exact Nat.le_refl _, by omega, (fun e => by cases e), fun i x hi => ⟨T, 0, rfl, by
              obtain ⟨hil, rfl⟩ := List.getElem?_eq_some_iff.1 hi
              have h1 := hL.tops.read hil
              have h2 : (0 : Int) ≤ (topsK n n)[i] ∧ (topsK n n)[i] ≤ n := by
                rw [topsK_len] at hil
                simp [topsK, hil]; omega
              show IntE (veil [V, O] wr) T (0 + i * 1) _
              rw [Nat.zero_add, Nat.mul_one]
              exact ⟨veil_of (by simp; omega) h1, by omega, by omega⟩⟩⟩
            have HL := mkHid hL
            have HE2 := mkHid hRE
            have HD2 := mkHid hRD
            have HT2 := mkHid hRT
            clear hL hnest hfit hRE hRD hRT HW
            go_wp2_with fail
            go_ret
            exact ⟨V, O, E, D, T, rfl, by omega, o5, o1, HL.out.obj, HL.out.of_, HE2.out, HD2.out, HT2.out, HL.out.b⟩
  · subst hA
    have hms := run_intsK n (by omega)
    have hmr := run_rowsK n (by omega)
    go_region_held3 (fun _ => True) (trivial) (fail)
    all_goals
      have q0 : w.drew.heap.size = w.heap.size := rfl
      have hbd : Below w.heap.size w w.drew := (Below.refl _ _).drew
      refine ⟨rfl, _, _, _, _, _, (by rfl), ⟨?_, ?_, ?_, ?_, ?_, ?_, ?_, ?_⟩⟩
      · (try simp only [World.size_alloc, q0]); omega
      · (try simp only [World.size_alloc, q0]); omega
      · repeat (first | exact RowU.madeK (by first | rfl | (simp only [World.size_alloc]; done) | (simp only [World.size_alloc]; rfl)) | refine RowU.alloc ?_ _)
      · repeat (first | exact RowU.madeK (by first | rfl | (simp only [World.size_alloc]; done) | (simp only [World.size_alloc]; rfl)) | refine RowU.alloc ?_ _)
      · repeat (first | exact NilS.made (by first | rfl | (simp only [World.size_alloc]; done) | (simp only [World.size_alloc]; rfl)) | refine NilS.alloc ?_ _)
      · repeat (first | exact NilS.made (by first | rfl | (simp only [World.size_alloc]; done) | (simp only [World.size_alloc]; rfl)) | refine NilS.alloc ?_ _)
      · exact VObj.made (by first | rfl | (simp only [World.size_alloc]; done) | (simp only [World.size_alloc]; rfl))
      · refine Below.drew ?_
        repeat (first | exact Below.refl _ _ | refine Below.new ?_ _)
end Go.Proofs.Ytkgebkinlpmpnaa
namespace Go.Proofs.Ytkgebkinlpmpnaa
open Go.RowKit Go.Shelf Go.Lib

theorem links_nodup (m : List Cl) : (linksL m).Nodup := (links_up m).imp fun {x y} h e => by subst e; rw [lk_lo.irr] at h; cases h
theorem allK_len (P : List Pd) {m : List Cl} (h : Mays m) : (allK P m).length ≤ 8 * m.length := by
  unfold allK
  induction m with
  | nil => simp
  | cons c m ih =>
    have h1 := ih fun x hx => h x (by simp [hx])
    have h2 := (h.at_ (k := 0) (by simp)).1
    rw [List.flatMap_cons, List.length_append, List.length_map, List.length_cons]
    simp at h2
    omega
theorem levP_end {n : Nat} {E D : List (List Int)} {g : Nat} {lv : Int} {o : List Int} : levP n E D (g + 1) lv o [] = some o := by rw [levP, if_pos rfl]
theorem levP_stop {n : Nat} {E D : List (List Int)} {g : Nat} {lv : Int} {o top : List Int} (h : top ≠ []) (he : (roundP n E D lv o top).2.length = top.length) : levP n E D (g + 1) lv o top = none := by rw [levP, if_neg h, if_pos he]
theorem levP_on {n : Nat} {E D : List (List Int)} {g : Nat} {lv : Int} {o top : List Int} (h : top ≠ []) (he : ¬ (roundP n E D lv o top).2.length = top.length) : levP n E D (g + 1) lv o top = levP n E D g (lv + 1) (roundP n E D lv o top).1 (roundP n E D lv o top).2 := by rw [levP, if_neg h, if_neg he]
theorem rowU_new {w : World} {B u n : Nat} {U : List Int} (h : RowU w u U) (hB : B ≤ u) (hl : U.length = n) (hn : n ≤ 1000000) (hf : ∀ x ∈ U, -9223372036854775808 ≤ x ∧ x ≤ 9223372036854775807) : NewRow B w (some ⟨u, 0, none⟩) n U :=
  ⟨by omega, by omega, (fun e => by cases e), fun i x hi => ⟨u, 0, rfl, by
    obtain ⟨hil, rfl⟩ := List.getElem?_eq_some_iff.1 hi
    show IntE (under B w) u (0 + i * 1) _
    rw [Nat.zero_add, Nat.mul_one]
    have h1 := hf _ (List.getElem_mem hil)
    exact ⟨under_of hB (h.read hil), h1.1, h1.2⟩⟩⟩

set_option maxRecDepth 100000 in
set_option maxHeartbeats 3200000 in
theorem levelsp_any (a : Option Addr) (cap : Nat) (w : World) (m : List Cl) (hr : Row w a cap m) (HM : Hid (Mays m)) (hl : m.length ≤ 1000) :
    Calls Try.prog 18 #[.slice a m.length cap] w fun e w' => LevPost (levelsL m) w e w' := by
  have hm := hr.max
  have hm2 := hr.le
  have hpl := preds_len HM.out
  have HLK := mkHid (links_lkin m)
  have hkl : (linksL m).length ≤ 8000 := by
    have h1 := sub_len (links_nodup m) (r := allK (predsL m) m) (fun x hx => mem_links.1 hx)
    have h2 := allK_len (predsL m) HM.out
    omega
  have HE : Hid (levelsL m = levelsP (predsL m).length (linksL m)) := (levels_same (links_lkin m)).symm
  go_enter Try.func18, Try.ntmps18
  go_wp2_with (go_at_call 20; refine (predsp_any _ _ _ _ hr HM hl).mono ?_; rintro e w1 ⟨vp, rfl, haccp, hb1⟩; obtain ⟨ap, capp, rfl, hrowp⟩ := haccp.row; have hrm := hr.below hb1)
  obtain ⟨n, hn⟩ : ∃ n, (predsL m).length = n := ⟨_, rfl⟩
  rw [hn] at hpl HE HLK
  rw [hn]
  clear haccp hrowp hn
  go_wp2_with (go_at_call 26; refine (linksp_any _ _ _ _ hrm HM hl).mono ?_; rintro e w2 ⟨vk, rfl, hacck, hb2⟩; obtain ⟨ak, capk, rfl, hrowk⟩ := hacck.row)
  obtain ⟨K, hK⟩ : ∃ K, linksL m = K := ⟨_, rfl⟩
  rw [hK] at hrowk HE HLK hkl
  rw [hK]
  have hw2 := hb1.then hb2
  have HI0 : Hid (LInv n K 0 (List.replicate n 0) (topsK n n)) := by rw [Hid, topsK_all (Nat.le_refl n)]; exact LInv.start
  have HE0 : Hid (levelsL m = levP n (whoL n false K) (whoL n true K) (n + 1) 0 (List.replicate n 0) (topsK n n)) := by rw [Hid, HE.out, topsK_all (Nat.le_refl n)]; rfl
  have HTL : Hid ((topsK n n).length = n) := topsK_len n n
  clear hacck hK hrm HE
  go_wp2_with (go_at_call 42; refine (flat_any ak capk w2 n K hrowk (by omega) (by omega) HLK).mono ?_; rintro e w3 ⟨V, O, E, D, T, rfl, hVO, hV, hO, hobj, hof, hrE, hrD, hrT, hb3⟩)
  have hw3 := hw2.then hb3
  have hsz := hw2.size
  have hVs := hobj.lt
  have hOs := hof.lt
  have HW3 := mkHid hw3
  have hob2 : VObj w3 V (.slice (some ⟨O, 0, none⟩) n n) (.slice (some ⟨E, 0, none⟩) n n) (.slice (some ⟨D, 0, none⟩) n n) (.slice (some ⟨T, 0, none⟩) (topsK n n).length n) := by rw [HTL.out]; exact hobj
  have HOB := mkHid hob2
  have HOF := mkHid hof
  have HRT := mkHid hrT
  clear hob2 hobj hof hrT hb3 hb2 hb1 hw2 hw3 HTL
  go_loopw [5] (fun i wr => ∃ (g lv : Nat) (o top : List Int) (at' : Option Addr) (ct : Nat), i = .int .i64 lv ∧ Hid (VObj wr V (.slice (some ⟨O, 0, none⟩) n n) (.slice (some ⟨E, 0, none⟩) n n) (.slice (some ⟨D, 0, none⟩) n n) (.slice at' top.length ct)) ∧ Hid (RowU wr O o) ∧ Hid (Row (veil [V, O] wr) at' ct top) ∧ Hid (Fr [V, O] w3 wr) ∧ Hid (LInv n K lv o top) ∧ Hid (top.length < g) ∧ Hid (levelsL m = levP n (whoL n false K) (whoL n true K) g lv o top)) (fun i wr => n + 1 - (intOf i).toNat)
  case atStart => exact ⟨n + 1, 0, _, _, _, _, rfl, HOB, HOF, HRT, Fr.refl _ _, HI0, by rw [Hid, topsK_len]; omega, HE0⟩
  case round =>
    clear HOB HOF HRT HI0 HE0
    obtain ⟨g, lv, o, top, at', ct, rfl, HOB, HOF, HRT, HF, HI, HG, HS⟩ := hrel
    obtain ⟨v0, v1, v2, v3⟩ := HOB.out.cells
    have htm := HRT.out.max
    have htl := HRT.out.le
    have hsz2 := HF.out.size
    have hlv := HI.out.size
    obtain ⟨g, rfl⟩ : ∃ g', g = g' + 1 := ⟨g - 1, by have := HG.out; omega⟩
    by_cases h0 : top = []
    · subst h0
      have HT : Hid (levelsL m = some o) := by rw [Hid, HS.out, levP_end]
      have HB : Hid (Below w.heap.size w wr) := HW3.out.trans (HF.out.below (by omega) (by simp; omega))
      have HOL := mkHid HI.out.len
      have HOR : Hid (∀ x ∈ o, -9223372036854775808 ≤ x ∧ x ≤ 9223372036854775807) := fun x hx => by
        obtain ⟨p, hp, rfl⟩ := mem_G HI.out.len hx
        have := HI.out.rng p hp
        simp at hlv
        omega
      clear HS
      go_wp2
      go_ret2
      refine ⟨HB.out, ?_⟩
      rw [HT.out]
      exact ⟨_, _, by rw [HOL.out]; rfl, rowU_new HOF.out (by omega) HOL.out (by omega) HOR.out⟩
    · have htp : 0 < top.length := List.length_pos_iff.2 h0
      have hE1 := (hrE.keeps HF.out.keeps)
      have hD1 := (hrD.keeps HF.out.keeps)
      have hcall := raise_any wr V O n lv _ _ _ _ _ _ o top K HOB.out HOF.out hE1 hD1 HRT.out hVO (by omega) (by omega) (by omega) HLK HI
      have HC := mkHid hcall
      obtain ⟨n1, n2, n3⟩ := round_next HLK.out HI.out
      have HRI := mkHid (round_ok HLK.out HI.out).1
      have H0 := mkHid h0
      have HS1 : Hid ((roundP n (whoL n false K) (whoL n true K) lv o top).2.length = top.length → levelsL m = none) := fun e => by rw [HS.out, levP_stop h0 e]
      have HS2 : Hid (¬ (roundP n (whoL n false K) (whoL n true K) lv o top).2.length = top.length → levelsL m = levP n (whoL n false K) (whoL n true K) g ((lv : Int) + 1) (roundP n (whoL n false K) (whoL n true K) lv o top).1 (roundP n (whoL n false K) (whoL n true K) lv o top).2) := fun e => by rw [HS.out, levP_on h0 e]
      have hVw := HOB.out.lt
      have hOw := HOF.out.lt
      have hw2 : ∀ w', Fr [V, O] wr w' → Below w.heap.size w w' := fun w' hf => HW3.out.trans ((HF.out.trans hf).below (by omega) (by simp; omega))
      have HW2 := mkHid hw2
      obtain ⟨s, hs⟩ : ∃ s, roundP n (whoL n false K) (whoL n true K) lv o top = s := ⟨_, rfl⟩
      rw [hs] at hcall HC n1 n2 n3 HRI HS1 HS2
      have HN2 := mkHid n2
      clear hcall hE1 hD1 h0 hs n3 n2 hw2 HS
      by_cases he : s.2.length = top.length
      · have HT : Hid (levelsL m = none) := HS1.out he
        have t1 : ((s.2.length : Int) == (top.length : Int)) = true := by simp [he]
        have t2 : decide ((s.2.length : Int) = (top.length : Int)) = true := by simp [he]
        have HEQ := mkHid he
        clear he HS1 HS2
        go_wp2_with (go_at_call 43; refine HC.out.mono ?_; rintro e w4 ⟨rfl, vt4, hL4⟩; have HL4 := mkHid hL4; obtain ⟨a4, c4, rfl, h41, h42⟩ := hL4.tops.slice; obtain ⟨x0, x1, x2, x3⟩ := hL4.obj.cells; clear hL4)
        go_ret2
        refine ⟨HW2.out _ HL4.out.fr, ?_⟩
        rw [HT.out]
        rfl
      · have HT := mkHid (HS2.out he)
        have t1 : ((s.2.length : Int) == (top.length : Int)) = false := by simp; omega
        have t2 : decide ((s.2.length : Int) = (top.length : Int)) = false := by simp; omega
        have HNX : Hid (LInv n K ((lv + 1 : Nat) : Int) s.1 s.2) := by
          have := HN2.out (by omega)
          exact this
        have HGX : Hid (s.2.length < g) := by have := HG.out; rw [Hid]; omega
        have HTX : Hid (levelsL m = levP n (whoL n false K) (whoL n true K) g ((lv + 1 : Nat) : Int) s.1 s.2) := by rw [Hid, HT.out]; rfl
        have hll : lv < n := by omega
        have HFIT : Hid (∀ x ∈ s.2, -9223372036854775808 ≤ x ∧ x ≤ 9223372036854775807) := fun x hx => by
          have := ((HRI.out.top x).1 hx).1
          unfold In at this; omega
        clear he HS1 HS2 HT HN2 HG
        go_wp2_with (go_at_call 43; refine HC.out.mono ?_; rintro e w4 ⟨rfl, vt4, hL4⟩; have HL4 := mkHid hL4; obtain ⟨a4, c4, ev4, hn4⟩ := hL4.tops.new HFIT.out; subst ev4; have HN4 := mkHid hn4; obtain ⟨x0, x1, x2, x3⟩ := hL4.obj.cells; clear hL4 hn4)
        go_round
        case rel => exact ⟨g, lv + 1, s.1, s.2, a4, c4, by go_num, HL4.out.obj, HL4.out.lev, Row.keeps HN4.out (under_veil _ (by simp; omega)), HF.out.trans HL4.out.fr, HNX, HGX, HTX⟩
        case measure => simp [intOf]; omega
end Go.Proofs.Ytkgebkinlpmpnaa
namespace Go.Proofs.Ytkgebkinlpmpnaa
open Go.RowKit Go.Shelf Go.Lib

/-! ### the head's literals -/
def vC (n : Int) : Cel := ⟨1, ⟨#[]⟩, n⟩
def fC (b : UInt8) (n : Int) : Cel := ⟨3, ⟨#[b]⟩, n⟩
def a1L (b : UInt8) (n : Int) : List Cel := [fC b 1, vC n]
def a0L (b : UInt8) : List Cel := [fC b 0]
def clA : Cl := ⟨a1L 112 0, [⟨false, a1L 113 0⟩, ⟨true, a1L 114 0⟩]⟩
def clB : Cl := ⟨a1L 112 0, [⟨true, a1L 114 0⟩, ⟨false, a1L 113 0⟩]⟩
def clC : Cl := ⟨a0L 97, [⟨true, a0L 98⟩]⟩
def clD : Cl := ⟨a0L 98, [⟨true, a0L 97⟩]⟩
def pd1 (b : UInt8) (n : Int) : Pd := ⟨⟨#[b]⟩, n⟩
theorem hd_mayA : mayB clA = true := by decide +kernel
theorem hd_safeA : safeB clA = true := by decide +kernel
theorem hd_safeB : safeB clB = false := by decide +kernel
theorem hd_mayC : mayB clC = true := by decide +kernel
theorem hd_p3 : safeB ⟨a1L 112 3, []⟩ = false := by decide +kernel
theorem hd_p0 : safeB ⟨a0L 112, []⟩ = true := by decide +kernel
theorem hd_ra : rightP [clA] = true := by decide +kernel
theorem hd_rb : rightP [clA, clB] = false := by decide +kernel
theorem hd_of : ofL [clC, clA, clC] (pd1 97 0) = [0, 2] := by decide +kernel
theorem hd_pr : predsL [clA] = [pd1 112 1, pd1 113 1, pd1 114 1] := by decide +kernel
theorem hd_lk : linksL [clA] = [⟨0, 1, false⟩, ⟨0, 2, true⟩] := by decide +kernel
theorem hd_lv : levelsL [clA] = some [1, 0, 0] := by decide +kernel
theorem hd_ln : levelsL [clC, clD] = none := by decide +kernel
theorem Row.ex1 {w : World} {xs : List Cel} (h : ∀ c ∈ xs, c.fit) (hl : xs.length ≤ 1000) : Row (w.alloc (.cells (flat xs).toArray 50)) (some ⟨w.heap.size, 0, none⟩) xs.length xs :=
  row_new w (flat xs).toArray (50, 0) (by simpa using crows_flat _ h) (by omega)
theorem vC_fit {n : Int} (h1 : -1000000 ≤ n) (h2 : n ≤ 1000000) : (vC n).fit := ⟨by simp [vC], by simp [vC], by simp [vC]; omega, by simp [vC]; omega, by show (0 : Nat) ≤ _; omega⟩
theorem fC_fit (b : UInt8) {n : Int} (h1 : -1000000 ≤ n) (h2 : n ≤ 1000000) : (fC b n).fit := ⟨by simp [fC], by simp [fC], by simp [fC]; omega, by simp [fC]; omega, by show (1 : Nat) ≤ _; omega⟩
theorem atom_var (b : UInt8) (n : Int) (w : World) (h1 : 0 ≤ n) (h2 : n ≤ 1000000) :
    Calls Try.prog 33 #[.string ⟨#[b]⟩, .int .i64 n] w fun e w' => ∃ a c, e = .returned (.slice a 2 c) ∧ Row w' a c (a1L b n) ∧ Below w.heap.size w w' := by
  have hd : decide (n < 0) = false := by simp; omega
  have hr := Row.ex1 (w := w) (xs := a1L b n) (by intro c hc; simp [a1L] at hc; rcases hc with rfl | rfl; exact fC_fit b (by omega) (by omega); exact vC_fit (by omega) (by omega)) (by simp [a1L])
  have hb := (Below.refl w.heap.size w).new (.cells (flat (a1L b n)).toArray 50)
  have HR := mkHid hr
  have HB := mkHid hb
  clear hr hb
  go_enter Try.func33, Try.ntmps33
  go_wp2
  go_ret
  exact ⟨_, _, rfl, HR.out, HB.out⟩
theorem atom_none (b : UInt8) (w : World) :
    Calls Try.prog 33 #[.string ⟨#[b]⟩, .int .i64 (-1)] w fun e w' => ∃ a c, e = .returned (.slice a 1 c) ∧ Row w' a c (a0L b) ∧ Below w.heap.size w w' := by
  have hr := Row.ex1 (w := w) (xs := a0L b) (by intro c hc; simp [a0L] at hc; subst hc; exact fC_fit b (by omega) (by omega)) (by simp [a0L])
  have hb := (Below.refl w.heap.size w).new (.cells (flat (a0L b)).toArray 50)
  have HR := mkHid hr
  have HB := mkHid hb
  clear hr hb
  go_enter Try.func33, Try.ntmps33
  go_wp2
  go_ret
  exact ⟨_, _, rfl, HR.out, HB.out⟩

theorem Row.ltc {w : World} {a : Option Addr} {c : Nat} {l : List Cel} {n : Bool} (r : Row w a c l) : RepC.C w [.bool n, .slice a l.length c] (⟨n, l⟩ : Lt) := ⟨a, c, rfl, r⟩
/-- a clause just laid, in its box -/
theorem clbox {w : World} {a0 a1 a2 : Option Addr} {c0 c1 c2 : Nat} {h l1 l2 : List Cel} {n1 n2 : Bool} (r0 : Row w a0 c0 h) (r1 : Row w a1 c1 l1) (r2 : Row w a2 c2 l2) :
    ClE ((w.alloc (.cells #[.bool n1, .slice a1 l1.length c1, .bool n2, .slice a2 l2.length c2] 47)).alloc (.cells #[.slice a0 h.length c0, .slice (some ⟨w.heap.size, 0, none⟩) 2 2] 31)) (w.heap.size + 1) 0 ⟨h, [⟨n1, l1⟩, ⟨n2, l2⟩]⟩ ∧
    Below w.heap.size w ((w.alloc (.cells #[.bool n1, .slice a1 l1.length c1, .bool n2, .slice a2 l2.length c2] 47)).alloc (.cells #[.slice a0 h.length c0, .slice (some ⟨w.heap.size, 0, none⟩) 2 2] 31)) := by
  have hb1 := (Below.refl w.heap.size w).new (.cells #[.bool n1, .slice a1 l1.length c1, .bool n2, .slice a2 l2.length c2] 47)
  have hb2 := (Below.refl (w.alloc (.cells #[.bool n1, .slice a1 l1.length c1, .bool n2, .slice a2 l2.length c2] 47)).heap.size _).new (.cells #[.slice a0 h.length c0, .slice (some ⟨w.heap.size, 0, none⟩) 2 2] 31)
  have hrow : Row (w.alloc (.cells #[.bool n1, .slice a1 l1.length c1, .bool n2, .slice a2 l2.length c2] 47)) (some ⟨w.heap.size, 0, none⟩) 2 [(⟨n1, l1⟩ : Lt), ⟨n2, l2⟩] :=
    row_new w _ (47, 0) (.cons (cs := [.bool n1, .slice a1 l1.length c1]) (r1.below hb1).ltc (.cons (cs := [.bool n2, .slice a2 l2.length c2]) (r2.below hb1).ltc .nil)) (by simp)
  refine ⟨⟨a0, c0, some ⟨w.heap.size, 0, none⟩, 2, ?_, ?_, (r0.below hb1).below hb2, hrow.below hb2⟩, hb1.then hb2⟩
  · exact World.cell?_alloc_at _ _ _ 0 (by rw [World.size_alloc])
  · exact World.cell?_alloc_at _ _ _ 1 (by rw [World.size_alloc])
theorem clbox1 {w : World} {a0 a1 : Option Addr} {c0 c1 : Nat} {h l1 : List Cel} {n1 : Bool} (r0 : Row w a0 c0 h) (r1 : Row w a1 c1 l1) :
    ClE ((w.alloc (.cells #[.bool n1, .slice a1 l1.length c1] 47)).alloc (.cells #[.slice a0 h.length c0, .slice (some ⟨w.heap.size, 0, none⟩) 1 1] 31)) (w.heap.size + 1) 0 ⟨h, [⟨n1, l1⟩]⟩ ∧
    Below w.heap.size w ((w.alloc (.cells #[.bool n1, .slice a1 l1.length c1] 47)).alloc (.cells #[.slice a0 h.length c0, .slice (some ⟨w.heap.size, 0, none⟩) 1 1] 31)) := by
  have hb1 := (Below.refl w.heap.size w).new (.cells #[.bool n1, .slice a1 l1.length c1] 47)
  have hb2 := (Below.refl (w.alloc (.cells #[.bool n1, .slice a1 l1.length c1] 47)).heap.size _).new (.cells #[.slice a0 h.length c0, .slice (some ⟨w.heap.size, 0, none⟩) 1 1] 31)
  have hrow : Row (w.alloc (.cells #[.bool n1, .slice a1 l1.length c1] 47)) (some ⟨w.heap.size, 0, none⟩) 1 [(⟨n1, l1⟩ : Lt)] :=
    row_new w _ (47, 0) (.cons (cs := [.bool n1, .slice a1 l1.length c1]) (r1.below hb1).ltc .nil) (by simp)
  refine ⟨⟨a0, c0, some ⟨w.heap.size, 0, none⟩, 1, ?_, ?_, (r0.below hb1).below hb2, hrow.below hb2⟩, hb1.then hb2⟩
  · exact World.cell?_alloc_at _ _ _ 0 (by rw [World.size_alloc])
  · exact World.cell?_alloc_at _ _ _ 1 (by rw [World.size_alloc])
/-- what stands in a clause's box -/
structure ClV (w : World) (a : Option Addr) (c : Nat) (a' : Option Addr) (c' : Nat) (x : Cl) : Prop where
  h : Row w a c x.h
  b : Row w a' c' x.b
theorem ClV.below {w w' : World} {a a' : Option Addr} {c c' : Nat} {x : Cl} (h : ClV w a c a' c' x) (hb : Below w.heap.size w w') : ClV w' a c a' c' x := ⟨h.h.below hb, h.b.below hb⟩
theorem ClV.c {w : World} {a a' : Option Addr} {c c' : Nat} {x : Cl} (h : ClV w a c a' c' x) : RepC.C w [.slice a x.h.length c, .slice a' x.b.length c'] x := ⟨a, c, a', c', rfl, h.h, h.b⟩
theorem ClV.c' {w w' : World} {a a' : Option Addr} {c c' : Nat} {x : Cl} (h : ClV w a c a' c' x) (hb : Below w.heap.size w w') : RepC.C w' [.slice a x.h.length c, .slice a' x.b.length c'] x := (h.below hb).c
theorem cls1 {w : World} {a a' : Option Addr} {c c' : Nat} {x : Cl} (h : ClV w a c a' c' x) : Row (w.alloc (.cells #[.slice a x.h.length c, .slice a' x.b.length c'] 31)) (some ⟨w.heap.size, 0, none⟩) 1 [x] :=
  row_new w _ (31, 0) (.cons (cs := [.slice a x.h.length c, .slice a' x.b.length c']) (h.c' ((Below.refl _ _).new _)) .nil) (by simp)
theorem cls2 {w : World} {a a' b b' : Option Addr} {c c' d d' : Nat} {x y : Cl} (h : ClV w a c a' c' x) (h2 : ClV w b d b' d' y) : Row (w.alloc (.cells #[.slice a x.h.length c, .slice a' x.b.length c', .slice b y.h.length d, .slice b' y.b.length d'] 31)) (some ⟨w.heap.size, 0, none⟩) 2 [x, y] :=
  row_new w _ (31, 0) (.cons (cs := [.slice a x.h.length c, .slice a' x.b.length c']) (h.c' ((Below.refl _ _).new _)) (.cons (cs := [.slice b y.h.length d, .slice b' y.b.length d']) (h2.c' ((Below.refl _ _).new _)) .nil)) (by simp)
theorem cls3 {w : World} {a a' b b' e e' : Option Addr} {c c' d d' f f' : Nat} {x y z : Cl} (h : ClV w a c a' c' x) (h2 : ClV w b d b' d' y) (h3 : ClV w e f e' f' z) : Row (w.alloc (.cells #[.slice a x.h.length c, .slice a' x.b.length c', .slice b y.h.length d, .slice b' y.b.length d', .slice e z.h.length f, .slice e' z.b.length f'] 31)) (some ⟨w.heap.size, 0, none⟩) 3 [x, y, z] :=
  row_new w _ (31, 0) (.cons (cs := [.slice a x.h.length c, .slice a' x.b.length c']) (h.c' ((Below.refl _ _).new _)) (.cons (cs := [.slice b y.h.length d, .slice b' y.b.length d']) (h2.c' ((Below.refl _ _).new _)) (.cons (cs := [.slice e z.h.length f, .slice e' z.b.length f']) (h3.c' ((Below.refl _ _).new _)) .nil))) (by simp)

/-! ### the contracts at answers that are known -/
theorem predsp_is (a : Option Addr) (cap : Nat) (w : World) (m : List Cl) (L : List Pd) (hr : Row w a cap m) (HM : Hid (Mays m)) (hl : m.length ≤ 1000) (H : Hid (predsL m = L)) :
    Calls Try.prog 20 #[.slice a m.length cap] w fun e w' => ∃ a' c', e = .returned (.slice a' L.length c') ∧ Row w' a' c' L ∧ Below w.heap.size w w' :=
  (predsp_any a cap w m hr HM hl).mono fun _ w' ⟨v, he, hacc, hb⟩ => by
    obtain ⟨a', c', rfl, hrow⟩ := hacc.row
    rw [H.out] at he hrow
    exact ⟨a', c', he, hrow, hb⟩
theorem linksp_is (a : Option Addr) (cap : Nat) (w : World) (m : List Cl) (L : List Lk) (hr : Row w a cap m) (HM : Hid (Mays m)) (hl : m.length ≤ 1000) (H : Hid (linksL m = L)) :
    Calls Try.prog 26 #[.slice a m.length cap] w fun e w' => ∃ a' c', e = .returned (.slice a' L.length c') ∧ Row w' a' c' L ∧ Below w.heap.size w w' :=
  (linksp_any a cap w m hr HM hl).mono fun _ w' ⟨v, he, hacc, hb⟩ => by
    obtain ⟨a', c', rfl, hrow⟩ := hacc.row
    rw [H.out] at he hrow
    exact ⟨a', c', he, hrow, hb⟩
theorem ofp_is (a : Option Addr) (cap : Nat) (w : World) (m : List Cl) (p : Pd) (L : List Int) (hr : Row w a cap m) (HM : Hid (Mays m)) (hl : m.length ≤ 1000) (H : Hid (ofL m p = L)) :
    Calls Try.prog 23 #[.slice a m.length cap, .agg #[.string p.s, .int .i64 p.n]] w fun e w' => ∃ a' c', e = .returned (.slice a' L.length c') ∧ Row w' a' c' L ∧ Below w.heap.size w w' :=
  (ofp_any a cap w m p hr HM hl).mono fun _ w' ⟨v, he, hacc, hb⟩ => by
    obtain ⟨a', c', rfl, hrow⟩ := hacc.row
    rw [H.out] at he hrow
    exact ⟨a', c', he, hrow, hb⟩
theorem levelsp_some (a : Option Addr) (cap : Nat) (w : World) (m : List Cl) (L : List Int) (hr : Row w a cap m) (HM : Hid (Mays m)) (hl : m.length ≤ 1000) (H : Hid (levelsL m = some L)) :
    Calls Try.prog 18 #[.slice a m.length cap] w fun e w' => ∃ a' c', e = .returned (.tuple #[.slice a' L.length c', .bool true]) ∧ Row w' a' c' L ∧ Below w.heap.size w w' :=
  (levelsp_any a cap w m hr HM hl).mono fun _ w' ⟨hb, h⟩ => by
    rw [H.out] at h
    obtain ⟨a', c', he, hrow⟩ := h
    exact ⟨a', c', he, hrow.row, hb⟩
theorem levelsp_none (a : Option Addr) (cap : Nat) (w : World) (m : List Cl) (hr : Row w a cap m) (HM : Hid (Mays m)) (hl : m.length ≤ 1000) (H : Hid (levelsL m = none)) :
    Calls Try.prog 18 #[.slice a m.length cap] w fun e w' => e = .returned (.tuple #[.slice none 0 0, .bool false]) ∧ Below w.heap.size w w' :=
  (levelsp_any a cap w m hr HM hl).mono fun _ w' ⟨hb, h⟩ => by
    rw [H.out] at h
    exact ⟨h, hb⟩
theorem safep_is (a : Option Addr) (cap : Nat) (a' : Option Addr) (cap' : Nat) (w : World) (x : Cl) (b : Bool) (h : ClV w a cap a' cap' x) (H : Hid (safeB x = b)) :
    Calls Try.prog 13 #[.agg #[.slice a x.h.length cap, .slice a' x.b.length cap']] w fun e w' => e = .returned (.bool b) ∧ Below w.heap.size w w' :=
  (safep_any a cap a' cap' w x.h x.b h.h h.b).mono fun _ _ ⟨he, hb⟩ => ⟨by rw [he]; exact ret_bool H.out, hb⟩
theorem rightp_is (a : Option Addr) (cap : Nat) (w : World) (m : List Cl) (b : Bool) (hr : Row w a cap m) (H : Hid (rightP m = b)) :
    Calls Try.prog 15 #[.slice a m.length cap] w fun e w' => e = .returned (.bool b) ∧ Below w.heap.size w w' :=
  (rightprog_any a cap w m hr).mono fun _ _ ⟨he, hb⟩ => ⟨by rw [he]; exact ret_bool H.out, hb⟩
end Go.Proofs.Ytkgebkinlpmpnaa
