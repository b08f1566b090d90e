/-
  Of layer 8 of sorrel: whatever arguments come in, the law HeapBack returns true, and what was handed in reads as it did: what is put is got, each variable as the place where it stands; all slots that were there are as they were, and so is what is got of them. No condition.
-/
import Derived.Test.YtefnmjoapmnkbaaZr8
import Derived.OrdersHeld
import Derived.Deep.RegionHeld3
set_option linter.unusedVariables false
namespace Go.Proofs.Ytefnmjoapmnkbaa
open Go.RowKit

/-! ### the term that stands at a place -/
mutual
inductive Tree (l : List Cel) : Int → Tm → Prop where
  | var {a : Int} {i : Nat} (h : Fl l a i) (hf : sfreeB (cellN l i) i = true) : Tree l a (.mk ⟨1, (cellN l i).s, (i : Int)⟩ [])
  | num {a : Int} {i : Nat} (h : Fl l a i) (hk : (cellN l i).k = 2) : Tree l a (.mk ⟨2, (cellN l i).s, (cellN l i).n⟩ [])
  | top {a : Int} {i : Nat} {ts : List Tm} (h : Fl l a i) (hk : (cellN l i).k = 4) (hn : ((ts.length : Nat) : Int) = (cellN l i).n) (hts : Trees l ((i : Int) + 1) ts) : Tree l a (.mk ⟨3, (cellN l i).s, (cellN l i).n⟩ ts)
inductive Trees (l : List Cel) : Int → List Tm → Prop where
  | nil (p : Int) : Trees l p []
  | cons {p : Int} {t : Tm} {ts : List Tm} (h : Tree l p t) (hs : Trees l (p + 1) ts) : Trees l p (t :: ts)
end
/-- each slot of a right heap has its term -/
theorem tree_total {l : List Cel} {ts : List Int} {r : Int} (hr : RightP l ts r) (k : Nat) (hk : k < l.length) : ∃ t, Tree l k t := by
  have hs : SlotsOk l := hr.slots
  revert hk
  induction hr.acyc k with
  | intro k _ ih =>
    intro hk
    cases ho : onB l k with
    | true =>
      obtain ⟨q, hq, he⟩ := on_edge hs hk ho
      obtain ⟨t, ht⟩ := ih q he he.lt.2
      have go : ∀ {i : Nat}, Fl l q i → Fl l k i := fun hf => .on hk ho (by rw [hq]; exact hf)
      cases ht with
      | var h hf => exact ⟨_, .var (go h) hf⟩
      | num h hk' => exact ⟨_, .num (go h) hk'⟩
      | top h hk' hn hts => exact ⟨_, .top (go h) hk' hn hts⟩
    | false =>
      have hst : Fl l k k := .stop hk ho
      have hp := slotsP.1 hs k hk
      rcases hp with ⟨h1, _, h2, h3⟩ | ⟨h2, _⟩ | ⟨h3, _, _, _, _, _⟩ | ⟨h4, a1, a2, a3, a4, a5⟩
      · refine ⟨_, .var hst ?_⟩
        unfold onB onwardB at ho
        simp [h1] at ho
        simp [sfreeB, h1, ho]
      · exact ⟨_, .num hst h2⟩
      · unfold onB onwardB at ho
        simp [h3] at ho
      · have hall : ∀ m : Nat, (m : Int) ≤ (cellN l k).n → ∃ ts : List Tm, ts.length = m ∧ Trees l ((k : Int) + 1 + ((cellN l k).n - m)) ts := by
          intro m
          induction m with
          | zero => intro _; exact ⟨[], rfl, .nil _⟩
          | succ m ihm =>
            intro hm
            obtain ⟨ts, hl, hts⟩ := ihm (by omega)
            obtain ⟨b, hb⟩ : ∃ b : Nat, (b : Int) = (k : Int) + 1 + ((cellN l k).n - ((m + 1 : Nat) : Int)) := ⟨((k : Int) + 1 + ((cellN l k).n - ((m + 1 : Nat) : Int))).toNat, by omega⟩
            have he : edge l k b := (edge_right hs k b).2 ⟨hk, .inl ⟨h4, by omega, by omega⟩⟩
            obtain ⟨t, ht⟩ := ih b he he.lt.2
            refine ⟨t :: ts, by simp [hl], ?_⟩
            rw [← hb]
            refine .cons ht ?_
            rw [show (b : Int) + 1 = (k : Int) + 1 + ((cellN l k).n - m) by omega]
            exact hts
        obtain ⟨ts, hl, hts⟩ := hall (cellN l k).n.toNat (by omega)
        refine ⟨_, .top hst h4 (by rw [hl]; omega) ?_⟩
        rw [show (k : Int) + 1 = (k : Int) + 1 + ((cellN l k).n - ((cellN l k).n.toNat : Int)) by omega]
        exact hts
mutual
theorem Tree.det {l : List Cel} : ∀ {a : Int} {t : Tm}, Tree l a t → ∀ {t' : Tm}, Tree l a t' → t = t'
  | _, _, .var h hf, _, h' => by
    cases h' with
    | var h2 hf2 => obtain rfl := h.det h2; rfl
    | num h2 hk2 => obtain rfl := h.det h2; simp [sfreeB] at hf; omega
    | top h2 hk2 _ _ => obtain rfl := h.det h2; simp [sfreeB] at hf; omega
  | _, _, .num h hk, _, h' => by
    cases h' with
    | var h2 hf2 => obtain rfl := h.det h2; simp [sfreeB] at hf2; omega
    | num h2 hk2 => obtain rfl := h.det h2; rfl
    | top h2 hk2 _ _ => obtain rfl := h.det h2; omega
  | _, _, .top h hk hn hts, _, h' => by
    cases h' with
    | var h2 hf2 => obtain rfl := h.det h2; simp [sfreeB] at hf2; omega
    | num h2 hk2 => obtain rfl := h.det h2; omega
    | top h2 hk2 hn2 hts2 =>
      obtain rfl := h.det h2
      have := Trees.det hts hts2 (by omega)
      rw [this]
theorem Trees.det {l : List Cel} : ∀ {p : Int} {ts : List Tm}, Trees l p ts → ∀ {ts' : List Tm}, Trees l p ts' → ts.length = ts'.length → ts = ts'
  | _, _, .nil _, ts', h', e => by
    cases ts' with
    | nil => rfl
    | cons _ _ => simp at e
  | _, _, .cons h hs, ts', h', e => by
    cases h' with
    | nil => simp at e
    | cons h2 hs2 =>
      rw [h.det h2, Trees.det hs hs2 (by simpa using e)]
end
/-- what is laid of a place's term is the term, if it is short; else it is long -/
theorem layG_grow8 (l : List Cel) : ∀ (f : Nat) (acc : List Cel) (i : Int), ∃ ys, layG l f acc i = acc ++ ys
  | 0, acc, _ => ⟨[], by simp [layG]⟩
  | f + 1, acc, i => by
    unfold layG
    split
    · exact ⟨[], by simp⟩
    · split
      · exact ⟨[], by simp⟩
      · rename_i j _ _
        have key : ∀ (xs : List Int) (acc : List Cel), ∃ ys, xs.foldl (fun acc x => layG l f acc x) acc = acc ++ ys := by
          intro xs
          induction xs with
          | nil => intro acc; exact ⟨[], by simp⟩
          | cons x xs ih =>
            intro acc
            obtain ⟨y1, e1⟩ := layG_grow8 l f acc x
            obtain ⟨y2, e2⟩ := ih (layG l f acc x)
            exact ⟨y1 ++ y2, by rw [List.foldl_cons, e2, e1, List.append_assoc]⟩
        obtain ⟨ys, e⟩ := key (fromI (leads1 l j.toNat (cellN l j.toNat)) (leads2 l j.toNat (cellN l j.toNat) - leads1 l j.toNat (cellN l j.toNat)).toNat) (acc ++ [termC (cellN l j.toNat)])
        exact ⟨[termC (cellN l j.toNat)] ++ ys, by rw [e, List.append_assoc]⟩
end Go.Proofs.Ytefnmjoapmnkbaa
set_option linter.unusedVariables false
namespace Go.Proofs.Ytefnmjoapmnkbaa
open Go.RowKit

/-! ### what is got of a place is its term -/
theorem layG_stop {l : List Cel} {f : Nat} {acc : List Cel} {i : Int} {j : Nat} (h : followL l l.length i = some (j : Int)) (hl : ¬ acc.length > 200) : layG l (f + 1) acc i = (fromI (leads1 l j (cellN l j)) (leads2 l j (cellN l j) - leads1 l j (cellN l j)).toNat).foldl (fun acc x => layG l f acc x) (acc ++ [termC (cellN l j)]) := by
  conv => lhs; unfold layG
  rw [h]
  simp only [Int.toNat_natCast]
  rw [if_neg hl]
theorem fold_long (l : List Cel) (f : Nat) (xs : List Int) (acc : List Cel) (h : 200 < acc.length) : 200 < (xs.foldl (fun acc x => layG l f acc x) acc).length :=
  Nat.lt_of_lt_of_le h (foldl_grow _ (layG_grow l f) _ _)
theorem fold_tree {l : List Cel} {f : Nat} (IH : ∀ (acc : List Cel) (a : Int) (t : Tm), Tree l a t → 202 ≤ acc.length + f → (acc.length + t.flat.length ≤ 200 → layG l f acc a = acc ++ t.flat) ∧ (200 < acc.length + t.flat.length → 200 < (layG l f acc a).length)) :
    ∀ (ts : List Tm) (p : Int) (acc : List Cel), Trees l p ts → 202 ≤ acc.length + f →
      (acc.length + (flats ts).length ≤ 200 → (fromI p ts.length).foldl (fun acc x => layG l f acc x) acc = acc ++ flats ts) ∧ (200 < acc.length + (flats ts).length → 200 < ((fromI p ts.length).foldl (fun acc x => layG l f acc x) acc).length)
  | [], p, acc, _, h => by
    refine ⟨fun _ => by simp [flats, fromI], fun h2 => ?_⟩
    simp [flats] at h2
    simpa [fromI] using h2
  | t :: ts, p, acc, .cons ht hts, h => by
    have hfr : fromI p (t :: ts).length = p :: fromI (p + 1) ts.length := by
      unfold fromI
      rw [List.length_cons, List.range_succ_eq_map, List.map_cons, List.map_map]
      congr 1
      · simp
      · apply List.map_congr_left
        intro x _
        simp only [Function.comp]
        omega
    rw [hfr, List.foldl_cons]
    obtain ⟨h1, h2⟩ := IH acc p t ht h
    have hfl : (flats (t :: ts)).length = t.flat.length + (flats ts).length := by simp [flats]
    rw [hfl]
    by_cases hs : acc.length + t.flat.length ≤ 200
    · rw [h1 hs]
      obtain ⟨h3, h4⟩ := fold_tree IH ts (p + 1) (acc ++ t.flat) hts (by rw [List.length_append]; omega)
      rw [List.length_append] at h3 h4
      exact ⟨fun e => by rw [h3 (by omega)]; simp [flats], fun e => h4 (by omega)⟩
    · refine ⟨fun e => by omega, fun _ => fold_long l f _ _ (h2 (by omega))⟩
theorem layG_tree {l : List Cel} {us : List Int} {r : Int} (hr : RightP l us r) : ∀ (f : Nat) (acc : List Cel) (a : Int) (t : Tm), Tree l a t → 202 ≤ acc.length + f → (acc.length + t.flat.length ≤ 200 → layG l f acc a = acc ++ t.flat) ∧ (200 < acc.length + t.flat.length → 200 < (layG l f acc a).length)
  | 0, acc, a, t, ht, h => ⟨fun e => by omega, fun _ => by show 200 < acc.length; omega⟩
  | f + 1, acc, a, t, ht, h => by
    have hs : SlotsOk l := hr.slots
    by_cases hl : acc.length > 200
    · refine ⟨fun e => by omega, fun _ => Nat.lt_of_lt_of_le hl (layG_grow l _ _ _)⟩
    · have endc : ∀ {i : Nat}, Fl l a i → (cellN l i).k ≠ 4 → layG l (f + 1) acc a = acc ++ [termC (cellN l i)] := fun {i} hf hk => by
        rw [layG_stop (hf.steps hr) hl]
        have c1 : ¬ (onwardB (cellN l i) i = true ∧ standsB l (cellN l i).n = true) := fun h => by
          have := hf.end_.2
          unfold onB at this
          rw [h.1] at this; cases this
        have a1 : leads1 l i (cellN l i) = i := by unfold leads1; rw [if_neg hk, if_neg c1]
        have a2 : leads2 l i (cellN l i) = i := by unfold leads2; rw [if_neg hk, if_neg c1]
        rw [a1, a2, Int.sub_self]; rfl
      cases ht with
      | @var a i h1 hf =>
        simp [sfreeB] at hf
        have he := endc h1 (by omega)
        have hc : termC (cellN l i) = ⟨1, (cellN l i).s, (i : Int)⟩ := by unfold termC kindI; rw [if_pos hf.1, hf.2]
        rw [he, hc]
        simp only [Tm.flat, flats, List.length_append, List.length_cons, List.length_nil]
        exact ⟨fun _ => by first | rfl | trivial, fun e => by omega⟩
      | @num a i h1 hk =>
        have he := endc h1 (by omega)
        have hc : termC (cellN l i) = ⟨2, (cellN l i).s, (cellN l i).n⟩ := by unfold termC kindI; rw [if_neg (by omega), if_pos hk]
        rw [he, hc]
        simp only [Tm.flat, flats, List.length_append, List.length_cons, List.length_nil]
        exact ⟨fun _ => by first | rfl | trivial, fun e => by omega⟩
      | @top a i ts h1 hk hn hts =>
        have hil := h1.end_.1
        have n1 := top_of hs hil (by rw [← cellN_at hil]; exact hk)
        rw [← cellN_at hil] at n1
        rw [layG_stop (h1.steps hr) hl]
        have a1 : leads1 l i (cellN l i) = i + 1 := by unfold leads1; rw [if_pos hk]
        have a2 : leads2 l i (cellN l i) = i + 1 + (cellN l i).n := by unfold leads2; rw [if_pos hk]; omega
        have hc : termC (cellN l i) = ⟨3, (cellN l i).s, (cellN l i).n⟩ := by unfold termC kindI; rw [if_neg (by omega), if_neg (by omega), if_pos hk]
        rw [a1, a2, hc, show ((i : Int) + 1 + (cellN l i).n - (i + 1)).toNat = ts.length by omega]
        obtain ⟨h3, h4⟩ := fold_tree (layG_tree hr f) ts ((i : Int) + 1) (acc ++ [⟨3, (cellN l i).s, (cellN l i).n⟩]) hts (by simp; omega)
        simp only [Tm.flat, List.length_append, List.length_cons, List.length_nil] at h3 h4 ⊢
        exact ⟨fun e => by rw [h3 (by omega)]; simp, fun e => h4 (by omega)⟩
theorem got_tree {l : List Cel} {us : List Int} {r : Int} (hr : RightP l us r) {a : Int} {t : Tm} (ht : Tree l a t) : (t.flat.length ≤ 200 → gotL l a = t.flat) ∧ (200 < t.flat.length → getB l a = false) := by
  obtain ⟨h1, h2⟩ := layG_tree hr 202 [] a t ht (by simp)
  refine ⟨fun h => by have := h1 (by simpa using h); rw [List.nil_append] at this; exact this, fun h => ?_⟩
  have h3 := h2 (by simpa using h)
  unfold getB
  cases hb : rightB (gotL l a) with
  | false => rfl
  | true =>
    obtain ⟨_, _, _, h4⟩ := right_tm hb
    unfold gotL at h4
    omega
theorem get_tree {l : List Cel} {us : List Int} {r : Int} (hr : RightP l us r) {a : Int} {t : Tm} (ht : Tree l a t) : getB l a = rightB t.flat ∧ (getB l a = true → getL l a = t.flat) := by
  obtain ⟨h1, h2⟩ := got_tree hr ht
  by_cases h : t.flat.length ≤ 200
  · have hg := h1 h
    have hb : getB l a = rightB t.flat := by unfold getB; rw [hg]
    refine ⟨hb, fun e => ?_⟩
    unfold getL; rw [if_pos e, hg]
  · have hf := h2 (by omega)
    refine ⟨?_, fun e => by rw [hf] at e; cases e⟩
    rw [hf]
    cases hb : rightB t.flat with
    | false => rfl
    | true => obtain ⟨_, _, _, h4⟩ := right_tm hb; omega
end Go.Proofs.Ytefnmjoapmnkbaa
set_option linter.unusedVariables false
namespace Go.Proofs.Ytefnmjoapmnkbaa
open Go.RowKit

/-! ### what Put lays stands there -/
mutual
/-- the Fun t stands at the slot k, its variables at the places ps -/
inductive Std (l : List Cel) (ps : List Int) : Tm → Nat → Prop where
  | mk {c : Cel} {ts : List Tm} {k : Nat} (hk : k < l.length) (hc : cellN l k = ⟨4, c.s, c.n⟩) (hts : StdA l ps k ts (k + 1)) : Std l ps (.mk c ts) k
/-- arguments stand at the slots from p on; their Funs at b or behind -/
inductive StdA (l : List Cel) (ps : List Int) : Nat → List Tm → Nat → Prop where
  | nil (b p : Nat) : StdA l ps b [] p
  | fn {b p q : Nat} {t : Tm} {ts : List Tm} (h3 : t.hd.k = 3) (hp : p < l.length) (hb : b ≤ p) (hq : b ≤ q) (hc : (cellN l p).k = 3) (hn : (cellN l p).n = (q : Int)) (ht : Std l ps t q) (hs : StdA l ps b ts (p + 1)) : StdA l ps b (t :: ts) p
  | vr {b p : Nat} {t : Tm} {ts : List Tm} (h1 : t.hd.k = 1) (hp : p < l.length) (hb : b ≤ p) (hne : ps.getD t.hd.n.toNat 0 ≠ -1) (hc : cellN l p = ⟨1, ⟨#[]⟩, ps.getD t.hd.n.toNat 0⟩) (hs : StdA l ps b ts (p + 1)) : StdA l ps b (t :: ts) p
  | nm {b p : Nat} {t : Tm} {ts : List Tm} (h1 : ¬ t.hd.k = 1) (h3 : ¬ t.hd.k = 3) (hp : p < l.length) (hb : b ≤ p) (hc : cellN l p = ⟨2, ⟨#[]⟩, t.hd.n⟩) (hs : StdA l ps b ts (p + 1)) : StdA l ps b (t :: ts) p
end
/-- places stay where they were found -/
structure PsG (ps ps' : List Int) : Prop where
  len : ps'.length = ps.length
  eq : ∀ k, ps.getD k 0 ≠ -1 → ps'.getD k 0 = ps.getD k 0
theorem PsG.refl (ps : List Int) : PsG ps ps := ⟨rfl, fun _ _ => rfl⟩
theorem PsG.trans {a b c : List Int} (h : PsG a b) (h' : PsG b c) : PsG a c := ⟨h'.len.trans h.len, fun k hk => by rw [h'.eq k (by rw [h.eq k hk]; exact hk), h.eq k hk]⟩
theorem PsG.slot (n : Nat) (ps : List Int) (c : Cel) : PsG ps (slotM n ps c).2 := by
  unfold slotM
  split
  · split
    · rename_i h
      refine ⟨by simp, fun k hk => ?_⟩
      simp only [List.getD_eq_getElem?_getD] at h hk ⊢
      by_cases e : c.n.toNat = k
      · subst e; exact absurd h hk
      · rw [List.getElem?_set_ne e]
    · exact .refl _
  · split <;> exact .refl _
theorem PsG.slots : ∀ (ts : List Tm) (s : List Cel × List Int), PsG s.2 (slotsT s ts).2
  | [], s => .refl _
  | t :: ts, s => by
    have e : slotsT s (t :: ts) = slotsT (s.1 ++ [(slotM s.1.length s.2 t.hd).1], (slotM s.1.length s.2 t.hd).2) ts := by unfold slotsT; rw [List.foldl_cons]
    rw [e]
    exact (PsG.slot s.1.length s.2 t.hd).trans (PsG.slots ts (s.1 ++ [(slotM s.1.length s.2 t.hd).1], (slotM s.1.length s.2 t.hd).2))
mutual
theorem PsG.lay : ∀ (t : Tm) (s : List Cel × List Int), PsG s.2 (layT t s).2
  | .mk c ts, s => by
    unfold layT
    exact (PsG.slots ts (s.1 ++ [⟨4, c.s, c.n⟩], s.2)).trans (PsG.lays ts _ _)
theorem PsG.lays : ∀ (ts : List Tm) (p : Nat) (s : List Cel × List Int), PsG s.2 (layTs ts p s).2
  | [], _, s => by unfold layTs; exact .refl _
  | t :: ts, p, s => by
    unfold layTs
    by_cases h3 : t.hd.k = 3
    · rw [if_pos h3]; exact (PsG.lay t s).trans (PsG.lays ts (p + 1) (setNs (layT t s).1 p (s.1.length : Int), (layT t s).2))
    · rw [if_neg h3]; exact PsG.lays ts (p + 1) s
end
mutual
theorem Std.grow {l l' : List Cel} {ps ps' : List Int} (hl : l.length ≤ l'.length) (hp : PsG ps ps') : ∀ {t : Tm} {k : Nat}, Std l ps t k → (∀ j, k ≤ j → j < l.length → cellN l' j = cellN l j) → Std l' ps' t k
  | _, _, .mk hk hc hts, h => .mk (by omega) (by rw [h _ (Nat.le_refl _) hk]; exact hc) (StdA.grow hl hp hts h)
theorem StdA.grow {l l' : List Cel} {ps ps' : List Int} (hl : l.length ≤ l'.length) (hp : PsG ps ps') : ∀ {b p : Nat} {ts : List Tm}, StdA l ps b ts p → (∀ j, b ≤ j → j < l.length → cellN l' j = cellN l j) → StdA l' ps' b ts p
  | _, _, _, .nil b p, _ => .nil b p
  | _, _, _, .fn h3 hpl hb hq hc hn ht hs, h => .fn h3 (by omega) hb hq (by rw [h _ hb hpl]; exact hc) (by rw [h _ hb hpl]; exact hn) (Std.grow hl hp ht fun j hj => h j (by omega)) (StdA.grow hl hp hs h)
  | _, _, _, .vr h1 hpl hb hne hc hs, h => .vr h1 (by omega) hb (by rw [hp.eq _ hne]; exact hne) (by rw [h _ hb hpl, hp.eq _ hne]; exact hc) (StdA.grow hl hp hs h)
  | _, _, _, .nm h1 h3 hpl hb hc hs, h => .nm h1 h3 (by omega) hb (by rw [h _ hb hpl]; exact hc) (StdA.grow hl hp hs h)
end
/-- the slots of arguments, their Funs not laid yet -/
def PreA (l : List Cel) (ps : List Int) : List Tm → Nat → Prop
  | [], _ => True
  | t :: ts, p => p < l.length ∧ (if t.hd.k = 1 then ps.getD t.hd.n.toNat 0 ≠ -1 ∧ cellN l p = ⟨1, ⟨#[]⟩, ps.getD t.hd.n.toNat 0⟩ else if t.hd.k = 3 then (cellN l p).k = 3 else cellN l p = ⟨2, ⟨#[]⟩, t.hd.n⟩) ∧ PreA l ps ts (p + 1)
theorem PreA.grow {l l' : List Cel} {ps ps' : List Int} (hl : l.length ≤ l'.length) (hp : PsG ps ps') : ∀ {ts : List Tm} {p : Nat}, PreA l ps ts p → (∀ j, p ≤ j → j < p + ts.length → cellN l' j = cellN l j) → PreA l' ps' ts p
  | [], _, _, _ => trivial
  | t :: ts, p, ⟨h1, h2, h3⟩, h => by
    have e : cellN l' p = cellN l p := h p (Nat.le_refl _) (by simp)
    refine ⟨by omega, ?_, PreA.grow hl hp h3 fun j hj hj2 => h j (by omega) (by simp; omega)⟩
    rw [e]
    by_cases k1 : t.hd.k = 1
    · rw [if_pos k1] at h2 ⊢
      rw [hp.eq _ h2.1]; exact h2
    · rw [if_neg k1] at h2 ⊢; exact h2
theorem slotsT_pre8 (m : Nat) : ∀ (ts : List Tm) (s : List Cel × List Int), (∀ t ∈ ts, t.hd.k = 1 → 0 ≤ t.hd.n ∧ t.hd.n < (s.2.length : Int)) → oks ts → PreA (slotsT s ts).1 (slotsT s ts).2 ts s.1.length
  | [], s, _, _ => trivial
  | t :: ts, s, hv, hok => by
    have e : slotsT s (t :: ts) = slotsT (s.1 ++ [(slotM s.1.length s.2 t.hd).1], (slotM s.1.length s.2 t.hd).2) ts := by unfold slotsT; rw [List.foldl_cons]
    rw [e]
    have hpre := slotsT_pre ts (s.1 ++ [(slotM s.1.length s.2 t.hd).1], (slotM s.1.length s.2 t.hd).2) (s.1.length + 1) (by simp)
    have hlen := (slotsT_length ts (s.1 ++ [(slotM s.1.length s.2 t.hd).1], (slotM s.1.length s.2 t.hd).2)).1
    have hg := PsG.slots ts (s.1 ++ [(slotM s.1.length s.2 t.hd).1], (slotM s.1.length s.2 t.hd).2)
    simp only [List.length_append, List.length_cons, List.length_nil] at hlen
    have hcell : cellN (slotsT (s.1 ++ [(slotM s.1.length s.2 t.hd).1], (slotM s.1.length s.2 t.hd).2) ts).1 s.1.length = (slotM s.1.length s.2 t.hd).1 := by
      rw [← cellN_take (m := s.1.length + 1) (by omega), hpre, cellN_take (by omega), cellN_app_r (Nat.le_refl _), Nat.sub_self]; rfl
    refine ⟨by omega, ?_, ?_⟩
    · rw [hcell]
      by_cases k1 : t.hd.k = 1
      · rw [if_pos k1]
        obtain ⟨v1, v2⟩ := hv t List.mem_cons_self k1
        have hk : t.hd.n.toNat < s.2.length := by omega
        have hq : (slotM s.1.length s.2 t.hd).2.getD t.hd.n.toNat 0 ≠ -1 ∧ (slotM s.1.length s.2 t.hd).1 = ⟨1, ⟨#[]⟩, (slotM s.1.length s.2 t.hd).2.getD t.hd.n.toNat 0⟩ := by
          unfold slotM
          rw [if_pos k1]
          by_cases h0 : s.2.getD t.hd.n.toNat 0 = -1
          · rw [if_pos h0]
            have : (s.2.set t.hd.n.toNat (s.1.length : Int)).getD t.hd.n.toNat 0 = (s.1.length : Int) := by
              rw [List.getD_eq_getElem?_getD, List.getElem?_set_self hk]; rfl
            simp only
            rw [this]
            exact ⟨by omega, rfl⟩
          · rw [if_neg h0]
            exact ⟨h0, rfl⟩
        simp only at hg
        rw [hg.eq _ hq.1]
        exact hq
      · rw [if_neg k1]
        by_cases k3 : t.hd.k = 3
        · rw [if_pos k3]
          unfold slotM
          rw [if_neg k1, if_neg (by omega)]
        · rw [if_neg k3]
          have hc := ((ok_iff t).1 hok.1).1
          have k2 : t.hd.k = 2 := by
            unfold cellOk at hc
            simp [k1, k3] at hc
            exact hc.1.1.1
          unfold slotM
          rw [if_neg k1, if_pos k2]
    · have := slotsT_pre8 m ts (s.1 ++ [(slotM s.1.length s.2 t.hd).1], (slotM s.1.length s.2 t.hd).2) (fun u hu => by simp only [slotM_length]; exact hv u (List.mem_cons_of_mem _ hu)) hok.2
      simpa using this
theorem layTs_keep : ∀ (ts : List Tm) (p : Nat) (s : List Cel × List Int), p + ts.length ≤ s.1.length → ∀ k, k < s.1.length → (k < p ∨ p + ts.length ≤ k) → cellN (layTs ts p s).1 k = cellN s.1 k
  | [], _, s, _, k, _, _ => by unfold layTs; rfl
  | t :: ts, p, s, hp, k, hk, hh => by
    simp only [List.length_cons] at hp hh
    unfold layTs
    by_cases h3 : t.hd.k = 3
    · rw [if_pos h3]
      have hlen := (layT_length t s).1
      have hpre : cellN (layT t s).1 k = cellN s.1 k := by rw [← cellN_take (xs := (layT t s).1) hk, layT_pre t s s.1.length (Nat.le_refl _), cellN_take hk]
      rw [layTs_keep ts (p + 1) (setNs (layT t s).1 p (s.1.length : Int), (layT t s).2) (by simp only [setNs_length]; omega) k (by simp only [setNs_length]; omega) (by omega)]
      simp only
      rw [cellN_setNs _ _ _ _ (by omega), if_neg (by omega), hpre]
    · rw [if_neg h3]
      exact layTs_keep ts (p + 1) s (by omega) k hk (by omega)
mutual
theorem layT_std : ∀ (t : Tm) (s : List Cel × List Int), t.ok → t.hd.k = 3 → VarsIn s.2.length t → Std (layT t s).1 (layT t s).2 t s.1.length
  | .mk c ts, s, hok, h3, hv => by
    have hl1 := slotsT_length ts (s.1 ++ [⟨4, c.s, c.n⟩], s.2)
    simp only [List.length_append, List.length_cons, List.length_nil] at hl1
    have hpre := slotsT_pre8 0 ts (s.1 ++ [⟨4, c.s, c.n⟩], s.2) (fun u hu => (hv.arg hu).hd) hok.2.2
    simp only [List.length_append, List.length_cons, List.length_nil] at hpre
    have htop : cellN (slotsT (s.1 ++ [⟨4, c.s, c.n⟩], s.2) ts).1 s.1.length = ⟨4, c.s, c.n⟩ := by
      rw [← cellN_take (m := s.1.length + 1) (by omega), slotsT_pre ts _ _ (by simp), cellN_take (by omega), cellN_app_r (Nat.le_refl _), Nat.sub_self]; rfl
    have hva : ∀ u ∈ ts, VarsIn (slotsT (s.1 ++ [⟨4, c.s, c.n⟩], s.2) ts).2.length u := fun u hu => (hv.arg hu).len (by rw [hl1.2])
    have hA := layTs_std ts (s.1.length + 1) s.1.length (slotsT (s.1 ++ [⟨4, c.s, c.n⟩], s.2) ts) hok.2.2 hva hpre (by omega) (by omega)
    have hln := (layTs_length ts (s.1.length + 1) (slotsT (s.1 ++ [⟨4, c.s, c.n⟩], s.2) ts)).1
    have hkeep := layTs_keep ts (s.1.length + 1) (slotsT (s.1 ++ [⟨4, c.s, c.n⟩], s.2) ts) (by omega) s.1.length (by omega) (.inl (by omega))
    have e : layT (.mk c ts) s = layTs ts (s.1.length + 1) (slotsT (s.1 ++ [⟨4, c.s, c.n⟩], s.2) ts) := by unfold layT; rfl
    rw [e]
    exact .mk (by omega) (by rw [hkeep, htop]) hA
theorem layTs_std : ∀ (ts : List Tm) (p b : Nat) (s : List Cel × List Int), oks ts → (∀ u ∈ ts, VarsIn s.2.length u) → PreA s.1 s.2 ts p → b ≤ p → p + ts.length ≤ s.1.length → StdA (layTs ts p s).1 (layTs ts p s).2 b ts p
  | [], p, b, s, _, _, _, _, _ => .nil _ _
  | t :: ts, p, b, s, hok, hv, ⟨c1, c2, c3⟩, hb, hp => by
    simp only [List.length_cons] at hp
    have hvt := hv t List.mem_cons_self
    by_cases h3 : t.hd.k = 3
    · have e : layTs (t :: ts) p s = layTs ts (p + 1) (setNs (layT t s).1 p (s.1.length : Int), (layT t s).2) := by
        conv => lhs; unfold layTs
        rw [if_pos h3]
      rw [e]
      have hlen := layT_length t s
      have hn1 : 1 ≤ slotsN t := by cases t; simp [slotsN]; omega
      have hold : ∀ k, k < s.1.length → cellN (layT t s).1 k = cellN s.1 k := fun k hk => by rw [← cellN_take (xs := (layT t s).1) hk, layT_pre t s s.1.length (Nat.le_refl _), cellN_take hk]
      have hpl : p < (layT t s).1.length := by omega
      have hset : ∀ k, k ≠ p → cellN (setNs (layT t s).1 p (s.1.length : Int)) k = cellN (layT t s).1 k := fun k hk => by rw [cellN_setNs _ _ _ _ hpl, if_neg hk]
      have hpg := PsG.lay t s
      have hk1 : ¬ t.hd.k = 1 := by omega
      rw [if_neg hk1, if_pos h3] at c2
      have hpre' : PreA (setNs (layT t s).1 p (s.1.length : Int)) (layT t s).2 ts (p + 1) := c3.grow (by rw [setNs_length]; omega) hpg fun j hj hj2 => by rw [hset j (by omega), hold j (by omega)]
      have hrest := layTs_std ts (p + 1) b (setNs (layT t s).1 p (s.1.length : Int), (layT t s).2) hok.2 (fun u hu => (hv u (List.mem_cons_of_mem _ hu)).len (layT_places t s).symm) hpre' (by omega) (by simp only [setNs_length]; omega)
      have hln := (layTs_length ts (p + 1) (setNs (layT t s).1 p (s.1.length : Int), (layT t s).2)).1
      simp only [setNs_length] at hln
      have hkeep := layTs_keep ts (p + 1) (setNs (layT t s).1 p (s.1.length : Int), (layT t s).2) (by simp only [setNs_length]; omega)
      simp only [setNs_length] at hkeep
      have hpg2 := PsG.lays ts (p + 1) (setNs (layT t s).1 p (s.1.length : Int), (layT t s).2)
      have hstd := (layT_std t s hok.1 h3 hvt).grow (l' := (layTs ts (p + 1) (setNs (layT t s).1 p (s.1.length : Int), (layT t s).2)).1) (ps' := (layTs ts (p + 1) (setNs (layT t s).1 p (s.1.length : Int), (layT t s).2)).2) (by omega) hpg2 (fun j hj hj2 => by rw [hkeep j hj2 (.inr (by omega)), hset j (by omega)])
      have hcp := hkeep p hpl (.inl (by omega))
      rw [cellN_setNs _ _ _ _ hpl, if_pos rfl] at hcp
      refine .fn (q := s.1.length) h3 (by omega) hb (by omega) ?_ ?_ hstd hrest
      · rw [hcp]; simp only; rw [hold p c1]; exact c2
      · rw [hcp]
    · have e : layTs (t :: ts) p s = layTs ts (p + 1) s := by
        conv => lhs; unfold layTs
        rw [if_neg h3]
      rw [e]
      have hrest := layTs_std ts (p + 1) b s hok.2 (fun u hu => hv u (List.mem_cons_of_mem _ hu)) c3 (by omega) (by omega)
      have hln := (layTs_length ts (p + 1) s).1
      have hcp := layTs_keep ts (p + 1) s (by omega) p c1 (.inl (by omega))
      have hpg2 := PsG.lays ts (p + 1) s
      by_cases k1 : t.hd.k = 1
      · rw [if_pos k1] at c2
        exact .vr k1 (by omega) hb (by rw [hpg2.eq _ c2.1]; exact c2.1) (by rw [hcp, hpg2.eq _ c2.1]; exact c2.2) hrest
      · rw [if_neg k1, if_neg h3] at c2
        exact .nm k1 h3 (by omega) hb (by rw [hcp]; exact c2) hrest
end
end Go.Proofs.Ytefnmjoapmnkbaa
set_option linter.unusedVariables false
namespace Go.Proofs.Ytefnmjoapmnkbaa
open Go.RowKit

/-! ### the term that Put's place has: the term put in, each variable the term of its place -/
mutual
def instT (τ : Int → Tm) : Tm → Tm
  | .mk c ts => if c.k = 1 then τ c.n else .mk c (instTs τ ts)
def instTs (τ : Int → Tm) : List Tm → List Tm
  | [] => []
  | t :: ts => instT τ t :: instTs τ ts
end
theorem instTs_length (τ : Int → Tm) : ∀ ts : List Tm, (instTs τ ts).length = ts.length
  | [] => rfl
  | t :: ts => by simp [instTs, instTs_length τ ts]
theorem Tree.pre {l : List Cel} {a b : Int} {t : Tm} (h : Tree l b t) (hp : ∀ i, Fl l b i → Fl l a i) : Tree l a t := by
  cases h with
  | var h hf => exact .var (hp _ h) hf
  | num h hk => exact .num (hp _ h) hk
  | top h hk hn hts => exact .top (hp _ h) hk hn hts
theorem empty_name {s : ByteArray} (h : s.toList = []) : s = ⟨#[]⟩ := (toList_inj s ⟨#[]⟩).1 (by rw [h, nil_bytes8])
theorem var_inst {τ : Int → Tm} {t : Tm} (h : t.hd.k = 1) : instT τ t = τ t.hd.n := by
  cases t with
  | mk c ts => unfold instT; exact if_pos h
theorem num_inst {τ : Int → Tm} {t : Tm} (hok : t.ok) (h1 : ¬ t.hd.k = 1) (h3 : ¬ t.hd.k = 3) : instT τ t = .mk ⟨2, ⟨#[]⟩, t.hd.n⟩ [] := by
  obtain ⟨hc, hl, _⟩ := (ok_iff t).1 hok
  cases t with
  | mk c ts =>
    simp only [Tm.hd, Tm.args] at *
    unfold ar at hl
    rw [if_neg h3] at hl
    have : ts = [] := List.eq_nil_of_length_eq_zero hl
    subst this
    unfold cellOk at hc
    simp [h1, h3] at hc
    unfold instT
    rw [if_neg h1]
    have hs := empty_name hc.1.1.2
    obtain ⟨ck, cs, cn⟩ := c
    simp only at hs hc ⊢
    rw [hs, hc.1.1.1]; rfl
mutual
theorem std_tree {l : List Cel} {ps : List Int} {τ : Int → Tm} (hτ : ∀ n : Int, ps.getD n.toNat 0 ≠ -1 → Tree l (ps.getD n.toNat 0) (τ n)) : ∀ {t : Tm} {k : Nat}, Std l ps t k → t.ok → t.hd.k = 3 → Tree l k (instT τ t)
  | .mk c ts, _, .mk hk hc hts, hok, h3 => by
    have h3' : c.k = 3 := h3
    have hA := stdA_tree hτ hts hok.2.2
    have har := hok.2.1
    unfold ar at har
    rw [if_pos h3'] at har
    have hn := (top_cell hok.1 h3').2.1
    have e : instT τ (.mk c ts) = .mk ⟨3, c.s, c.n⟩ (instTs τ ts) := by
      unfold instT
      rw [if_neg (by omega)]
      obtain ⟨ck, cs, cn⟩ := c
      simp only at h3' ⊢
      rw [h3']
    rw [e]
    have hT : Tree l _ (.mk ⟨3, (cellN l _).s, (cellN l _).n⟩ (instTs τ ts)) := .top (.stop hk (top_on (by rw [hc]))) (by rw [hc]) (by rw [hc, instTs_length]; simp only; omega) (by simpa using hA)
    rw [hc] at hT
    exact hT
theorem stdA_tree {l : List Cel} {ps : List Int} {τ : Int → Tm} (hτ : ∀ n : Int, ps.getD n.toNat 0 ≠ -1 → Tree l (ps.getD n.toNat 0) (τ n)) : ∀ {b p : Nat} {ts : List Tm}, StdA l ps b ts p → oks ts → Trees l (p : Int) (instTs τ ts)
  | _, _, _, .nil _ _, _ => .nil _
  | _, p, _, .fn h3 hp hb hq hc hn ht hs, hok => by
    have h1 := std_tree hτ ht hok.1 h3
    have h2 := stdA_tree hτ hs hok.2
    refine .cons (h1.pre fun i hi => .on hp (by unfold onB onwardB; rw [hc]; rfl) (by rw [hn]; exact hi)) ?_
    simpa using h2
  | _, p, t :: ts, .vr k1 hp hb hne hc hs, hok => by
    have h2 := stdA_tree hτ hs hok.2
    have hT := hτ _ hne
    have e : instT τ t = τ t.hd.n := var_inst k1
    refine .cons ?_ (by simpa using h2)
    rw [e]
    by_cases hq : ps.getD t.hd.n.toNat 0 = (p : Int)
    · rw [hq] at hT; exact hT
    · exact hT.pre fun i hi => .on hp (by unfold onB onwardB; rw [hc]; simp only; simpa using hq) (by rw [hc]; exact hi)
  | _, p, t :: ts, .nm h1 h3 hp hb hc hs, hok => by
    have h2 := stdA_tree hτ hs hok.2
    refine .cons ?_ (by simpa using h2)
    rw [num_inst hok.1 h1 h3]
    have hT : Tree l p (.mk ⟨2, (cellN l p).s, (cellN l p).n⟩ []) := .num (.stop hp (by unfold onB onwardB; rw [hc]; rfl)) (by rw [hc])
    rw [hc] at hT
    exact hT
end
/-- what stands at the place that Put tells -/
theorem putS_tree {xs : List Cel} {ps : List Int} {t : Tm} {us : List Int} {r : Int} {τ : Int → Tm} (hok : t.ok) (hv : VarsIn ps.length t) (hτ : ∀ n : Int, (putS xs ps t).1.2.getD n.toNat 0 ≠ -1 → Tree (putS xs ps t).1.1 ((putS xs ps t).1.2.getD n.toNat 0) (τ n)) : Tree (putS xs ps t).1.1 (putS xs ps t).2 (instT τ t) := by
  unfold putS at hτ ⊢
  by_cases h3 : t.hd.k = 3
  · rw [if_pos h3] at hτ ⊢
    exact std_tree hτ (layT_std t (xs, ps) hok h3 hv) hok h3
  · rw [if_neg h3] at hτ ⊢
    by_cases hp : t.hd.k = 1 ∧ ps.getD t.hd.n.toNat 0 ≠ -1
    · rw [if_pos hp] at hτ ⊢
      have e : instT τ t = τ t.hd.n := var_inst hp.1
      rw [e]
      exact hτ _ hp.2
    · rw [if_neg hp] at hτ ⊢
      simp only at hτ ⊢
      by_cases k1 : t.hd.k = 1
      · have h0 : ps.getD t.hd.n.toNat 0 = -1 := by
          by_cases e : ps.getD t.hd.n.toNat 0 = -1
          · exact e
          · exact absurd ⟨k1, e⟩ hp
        obtain ⟨v1, v2⟩ := hv.hd k1
        have e : instT τ t = τ t.hd.n := var_inst k1
        have hs : (slotM xs.length ps t.hd).2.getD t.hd.n.toNat 0 = (xs.length : Int) := by
          unfold slotM
          rw [if_pos k1, if_pos h0]
          simp only
          rw [List.getD_eq_getElem?_getD, List.getElem?_set_self (by omega)]; rfl
        have := hτ t.hd.n (by rw [hs]; omega)
        rw [hs] at this
        rw [e]; exact this
      · rw [num_inst hok k1 h3]
        have hc : cellN (xs ++ [(slotM xs.length ps t.hd).1]) xs.length = ⟨2, ⟨#[]⟩, t.hd.n⟩ := by
          rw [cellN_app_r (Nat.le_refl _), Nat.sub_self]
          have hcl := ((ok_iff t).1 hok).1
          have k2 : t.hd.k = 2 := by
            unfold cellOk at hcl
            simp [k1, h3] at hcl
            exact hcl.1.1.1
          unfold slotM
          rw [if_neg k1, if_pos k2]; rfl
        have hT : Tree (xs ++ [(slotM xs.length ps t.hd).1]) (xs.length : Int) (.mk ⟨2, (cellN (xs ++ [(slotM xs.length ps t.hd).1]) xs.length).s, (cellN (xs ++ [(slotM xs.length ps t.hd).1]) xs.length).n⟩ []) := .num (.stop (by simp) (by unfold onB onwardB; rw [hc]; rfl)) (by rw [hc])
        rw [hc] at hT
        exact hT
end Go.Proofs.Ytefnmjoapmnkbaa
set_option linter.unusedVariables false
namespace Go.Proofs.Ytefnmjoapmnkbaa
open Go.RowKit

/-! ### more slots behind leave each place its term -/
structure More (l l' : List Cel) : Prop where
  len : l.length ≤ l'.length
  eq : ∀ k, k < l.length → cellN l' k = cellN l k
theorem more_take {l l' : List Cel} (h : l'.take l.length = l) : More l l' := by
  have hl : l.length ≤ l'.length := by
    have := congrArg List.length h
    rw [List.length_take] at this
    omega
  exact ⟨hl, fun k hk => by rw [← cellN_take (xs := l') hk, h]⟩
theorem More.fl {l l' : List Cel} (h : More l l') {a : Int} {i : Nat} (hf : Fl l a i) : Fl l' a i := by
  induction hf with
  | @stop k hk ho => exact .stop (Nat.lt_of_lt_of_le hk h.len) (by unfold onB at ho ⊢; rw [h.eq k hk]; exact ho)
  | @on k j hk ho hr ih => exact .on (Nat.lt_of_lt_of_le hk h.len) (by unfold onB at ho ⊢; rw [h.eq k hk]; exact ho) (by rw [h.eq k hk]; exact ih)
mutual
theorem Tree.more {l l' : List Cel} (h : More l l') : ∀ {a : Int} {t : Tm}, Tree l a t → Tree l' a t
  | _, _, .var (i := i) hf hs => by
    have he := h.eq i hf.end_.1
    have hT : Tree l' _ (.mk ⟨1, (cellN l' i).s, (i : Int)⟩ []) := .var (h.fl hf) (by rw [he]; exact hs)
    rw [he] at hT; exact hT
  | _, _, .num (i := i) hf hk => by
    have he := h.eq i hf.end_.1
    have hT : Tree l' _ (.mk ⟨2, (cellN l' i).s, (cellN l' i).n⟩ []) := .num (h.fl hf) (by rw [he]; exact hk)
    rw [he] at hT; exact hT
  | _, _, .top (i := i) hf hk hn hts => by
    have he := h.eq i hf.end_.1
    have h2 := Trees.more h hts
    have hT : Tree l' _ (.mk ⟨3, (cellN l' i).s, (cellN l' i).n⟩ _) := .top (h.fl hf) (by rw [he]; exact hk) (by rw [he]; exact hn) h2
    rw [he] at hT; exact hT
theorem Trees.more {l l' : List Cel} (h : More l l') : ∀ {p : Int} {ts : List Tm}, Trees l p ts → Trees l' p ts
  | _, _, .nil p => .nil p
  | _, _, .cons ht hts => .cons (Tree.more h ht) (Trees.more h hts)
end
/-- what is got of an elder place stays -/
theorem get_more {l l' : List Cel} {us us' : List Int} {r r' : Int} (hr : RightP l us r) (hr' : RightP l' us' r') (h : More l l') {k : Nat} (hk : k < l.length) : getB l' k = getB l k ∧ getL l' k = getL l k := by
  obtain ⟨t, ht⟩ := tree_total hr k hk
  obtain ⟨h1, h2⟩ := get_tree hr ht
  obtain ⟨h3, h4⟩ := get_tree hr' (Tree.more h ht)
  have e : getB l' k = getB l k := h3.trans h1.symm
  refine ⟨e, ?_⟩
  cases hb : getB l k with
  | true => rw [h2 hb, h4 (by rw [e]; exact hb)]
  | false =>
    have hb' : getB l' k = false := by rw [e]; exact hb
    have g1 : getL l k = [] := by unfold getL; rw [if_neg (by rw [hb]; simp)]
    have g2 : getL l' k = [] := by unfold getL; rw [if_neg (by rw [hb']; simp)]
    rw [g1, g2]
/-- a term with terms put in, as a row -/
def instC (τ : Int → Tm) (c : Cel) : List Cel := if c.k = 1 then (τ c.n).flat else [c]
mutual
theorem inst_flat (τ : Int → Tm) : ∀ t : Tm, t.ok → (instT τ t).flat = t.flat.flatMap (instC τ)
  | .mk c ts, hok => by
    unfold instT
    by_cases h1 : c.k = 1
    · rw [if_pos h1]
      have hl := hok.2.1
      unfold ar at hl
      rw [if_neg (by omega)] at hl
      have : ts = [] := List.eq_nil_of_length_eq_zero hl
      subst this
      simp [Tm.flat, flats, instC, h1]
    · rw [if_neg h1]
      simp only [Tm.flat, List.flatMap_cons]
      rw [insts_flat τ ts hok.2.2]
      simp [instC, h1]
theorem insts_flat (τ : Int → Tm) : ∀ ts : List Tm, oks ts → flats (instTs τ ts) = (flats ts).flatMap (instC τ)
  | [], _ => rfl
  | t :: ts, hok => by
    simp only [instTs, flats, List.flatMap_append]
    rw [inst_flat τ t hok.1, insts_flat τ ts hok.2]
end
end Go.Proofs.Ytefnmjoapmnkbaa
set_option linter.unusedVariables false
namespace Go.Proofs.Ytefnmjoapmnkbaa
open Go.RowKit

/-! ### the bindings that HeapBack gathers -/
def ownVar8 (n : Int) : List Cel := [⟨1, ⟨#[]⟩, n⟩]
def bindO (F : Int → List Cel) (vs : List Int) (i : Int) : List Bnd := if i ∈ vs ∧ F i ≠ ownVar8 i then [⟨i, F i⟩] else []
def bindsK (F : Int → List Cel) (vs : List Int) (k : Nat) : List Bnd := (List.range k).flatMap fun i : Nat => bindO F vs i
theorem bindsK_succ (F : Int → List Cel) (vs : List Int) (k : Nat) : bindsK F vs (k + 1) = bindsK F vs k ++ bindO F vs k := by
  unfold bindsK
  rw [List.range_succ, List.flatMap_append]; simp
theorem bindsK_len (F : Int → List Cel) (vs : List Int) : ∀ k, (bindsK F vs k).length ≤ k
  | 0 => by simp [bindsK]
  | k + 1 => by
    rw [bindsK_succ, List.length_append]
    have := bindsK_len F vs k
    unfold bindO
    split <;> simp <;> omega
theorem bindsK_mem {F : Int → List Cel} {vs : List Int} {k : Nat} {b : Bnd} (h : b ∈ bindsK F vs k) : b.v ∈ vs ∧ b.t = F b.v := by
  unfold bindsK at h
  obtain ⟨i, _, hi⟩ := List.mem_flatMap.1 h
  unfold bindO at hi
  split at hi
  · rename_i hc
    simp at hi
    subst hi
    exact ⟨hc.1, rfl⟩
  · simp at hi
theorem look_bindsK (F : Int → List Cel) (vs : List Int) (n : Int) : ∀ k : Nat, look (bindsK F vs k) n = if 0 ≤ n ∧ n < (k : Int) ∧ n ∈ vs ∧ F n ≠ ownVar8 n then some (F n) else none
  | 0 => by rw [if_neg (by omega)]; rfl
  | k + 1 => by
    have ih := look_bindsK F vs n k
    rw [bindsK_succ]
    unfold look at ih ⊢
    rw [List.find?_append]
    by_cases hk : n = (k : Int)
    · subst hk
      have h0 : List.find? (fun b : Bnd => decide (b.v = (k : Int))) (bindsK F vs k) = none := by
        rw [if_neg (by omega)] at ih
        cases hf : List.find? (fun b : Bnd => decide (b.v = (k : Int))) (bindsK F vs k) with
        | none => rfl
        | some b => rw [hf] at ih; cases ih
      rw [h0]
      unfold bindO
      by_cases hc : (k : Int) ∈ vs ∧ F k ≠ ownVar8 k
      · rw [if_pos hc, if_pos ⟨by omega, by omega, hc⟩]
        simp
      · rw [if_neg hc, if_neg (fun h => hc h.2.2)]
        simp
    · have h1 : List.find? (fun b : Bnd => decide (b.v = n)) (bindO F vs (k : Int)) = none := by
        unfold bindO
        split
        · simp; omega
        · rfl
      rw [h1]
      simp only [Option.or_none]
      rw [ih]
      by_cases hc : 0 ≤ n ∧ n < (k : Int) ∧ n ∈ vs ∧ F n ≠ ownVar8 n
      · rw [if_pos hc, if_pos ⟨hc.1, by omega, hc.2.2⟩]
      · rw [if_neg hc, if_neg (fun h => hc ⟨h.1, by omega, h.2.2⟩)]
theorem flatMap_congr8 {f g : Cel → List Cel} : ∀ {l : List Cel}, (∀ c ∈ l, f c = g c) → l.flatMap f = l.flatMap g
  | [], _ => rfl
  | c :: l, h => by rw [List.flatMap_cons, List.flatMap_cons, h c List.mem_cons_self, flatMap_congr8 fun d hd => h d (List.mem_cons_of_mem _ hd)]
/-- put in, they make of a right term the instance -/
theorem put_binds {τ : Int → Tm} {t : Tm} (hok : t.ok) {vs : List Int} (hvs : ∀ c ∈ t.flat, c.k = 1 → c.n ∈ vs) {k : Nat} (hk : 1000 ≤ k) : putL (look (bindsK (fun n => (τ n).flat) vs k)) t.flat = t.flat.flatMap (instC τ) := by
  unfold putL
  refine flatMap_congr8 fun c hc => ?_
  unfold putC instC
  by_cases h1 : c.k = 1
  · rw [if_pos h1, if_pos h1, look_bindsK]
    have hcl := ok_cells t hok c hc
    have hr := var_range hcl h1
    by_cases hv : (τ c.n).flat = ownVar8 c.n
    · rw [if_neg (fun h => h.2.2.2 hv)]
      simp only [Option.getD_none]
      rw [hv]
      unfold cellOk at hcl
      simp [h1] at hcl
      have hs := empty_name hcl.1.1
      obtain ⟨ck, cs, cn⟩ := c
      simp only at h1 hs
      subst h1; subst hs
      rfl
    · rw [if_pos ⟨hr.1, by have := hr.2; omega, hvs c hc h1, hv⟩]
      rfl
  · rw [if_neg h1, if_neg h1]
/-- an instance of a right term by right terms is right, if it is short -/
theorem oks_inst {τ : Int → Tm} (hτ : ∀ n : Int, (τ n).ok) : (∀ t : Tm, t.ok → (instT τ t).ok) := by
  intro t
  exact (Tm.rec (motive_1 := fun t => t.ok → (instT τ t).ok) (motive_2 := fun ts => oks ts → oks (instTs τ ts))
    (fun c ts ih h => by
      unfold instT
      by_cases h1 : c.k = 1
      · rw [if_pos h1]; exact hτ _
      · rw [if_neg h1]
        exact ⟨h.1, by rw [instTs_length]; exact h.2.1, ih h.2.2⟩)
    (fun _ => trivial)
    (fun t ts iht ihts h => ⟨iht h.1, ihts h.2⟩) t)
end Go.Proofs.Ytefnmjoapmnkbaa
set_option linter.unusedVariables false
namespace Go.Proofs.Ytefnmjoapmnkbaa
open Go.RowKit

/-! ### HeapBack, its end -/
theorem bindsK_congr {F G : Int → List Cel} {vs : List Int} (h : ∀ n ∈ vs, F n = G n) : ∀ k : Nat, bindsK F vs k = bindsK G vs k
  | 0 => rfl
  | k + 1 => by
    rw [bindsK_succ, bindsK_succ, bindsK_congr h k]
    congr 1
    unfold bindO
    by_cases hm : (k : Int) ∈ vs
    · rw [h _ hm]
    · rw [if_neg (fun e => hm e.1), if_neg (fun e => hm e.1)]
mutual
theorem tree_ok {l : List Cel} : ∀ {a : Int} {t : Tm}, Tree l a t → (∀ c ∈ t.flat, cellOk c = true) → t.ok
  | _, _, .var h hf, hc => ⟨hc _ (by simp [Tm.flat]), by simp [ar], trivial⟩
  | _, _, .num h hk, hc => ⟨hc _ (by simp [Tm.flat]), by simp [ar], trivial⟩
  | _, _, .top (ts := ts) h hk hn hts, hc => ⟨hc _ (by simp [Tm.flat]), by unfold ar; rw [if_pos rfl]; simp only; omega, trees_ok hts fun c hm => hc c (by simp [Tm.flat, hm])⟩
theorem trees_ok {l : List Cel} : ∀ {p : Int} {ts : List Tm}, Trees l p ts → (∀ c ∈ flats ts, cellOk c = true) → oks ts
  | _, _, .nil _, _ => trivial
  | _, _, .cons ht hts, hc => ⟨tree_ok ht fun c hm => hc c (by simp [flats, hm]), trees_ok hts fun c hm => hc c (by simp [flats, hm])⟩
end
theorem tree_right {l : List Cel} {a : Int} {t : Tm} (ht : Tree l a t) (hr : rightB t.flat = true) : t.ok := by
  obtain ⟨t', hok, he, _⟩ := right_tm hr
  exact tree_ok ht fun c hc => by rw [he] at hc; exact ok_cells t' hok c hc
mutual
theorem inst_ok {τ : Int → Tm} : ∀ t : Tm, t.ok → (∀ c ∈ t.flat, c.k = 1 → (τ c.n).ok) → (instT τ t).ok
  | .mk c ts, h, hτ => by
    unfold instT
    by_cases h1 : c.k = 1
    · rw [if_pos h1]; exact hτ c (by simp [Tm.flat]) h1
    · rw [if_neg h1]
      exact ⟨h.1, by rw [instTs_length]; exact h.2.1, insts_ok ts h.2.2 fun d hd => hτ d (by simp [Tm.flat, hd])⟩
theorem insts_ok {τ : Int → Tm} : ∀ ts : List Tm, oks ts → (∀ c ∈ flats ts, c.k = 1 → (τ c.n).ok) → oks (instTs τ ts)
  | [], _, _ => trivial
  | t :: ts, h, hτ => ⟨inst_ok t h.1 fun d hd => hτ d (by simp [flats, hd]), insts_ok ts h.2 fun d hd => hτ d (by simp [flats, hd])⟩
end
/-- what is got of the place that Put tells is what the bindings make of the term -/
theorem back_eq {g : List Cel} {us Q : List Int} {r p : Int} {t : Tm} {τ : Int → Tm} (hr : RightP g us r) (hok : t.ok) (hT : Tree g p (instT τ t)) {vs : List Int} (hvs : ∀ c ∈ t.flat, c.k = 1 → c.n ∈ vs)
    (hv : ∀ n ∈ vs, Tree g (Q.getD n.toNat 0) (τ n) ∧ getB g (Q.getD n.toNat 0) = true) {k : Nat} (hk : 1000 ≤ k) :
    getB g p = apB (bindsK (fun n => getL g (Q.getD n.toNat 0)) vs k) t.flat ∧ (getB g p = true → getL g p = apL (bindsK (fun n => getL g (Q.getD n.toNat 0)) vs k) t.flat) := by
  have hF : ∀ n ∈ vs, getL g (Q.getD n.toNat 0) = (τ n).flat := fun n hn => (get_tree hr (hv n hn).1).2 (hv n hn).2
  rw [bindsK_congr (G := fun n => (τ n).flat) hF k]
  have hokτ : ∀ c ∈ t.flat, c.k = 1 → (τ c.n).ok := fun c hc h1 => by
    have h := hv c.n (hvs c hc h1)
    exact tree_right h.1 (by rw [← (get_tree hr h.1).1]; exact h.2)
  have hio := inst_ok t hok hokτ
  have hfl : (instT τ t).flat = putL (look (bindsK (fun n => (τ n).flat) vs k)) t.flat := by rw [inst_flat τ t hok, put_binds hok hvs hk]
  obtain ⟨h1, h2⟩ := get_tree hr hT
  have hb : getB g p = apB (bindsK (fun n => (τ n).flat) vs k) t.flat := by
    rw [h1]
    unfold apB
    rw [← hfl]
    by_cases hl : (instT τ t).flat.length ≤ 200
    · rw [right_flat hio hl]
      exact (decide_eq_true (by omega)).symm
    · rw [decide_eq_false (by omega)]
      cases hx : rightB (instT τ t).flat with
      | false => rfl
      | true => obtain ⟨_, _, _, h⟩ := right_tm hx; omega
  refine ⟨hb, fun e => ?_⟩
  rw [h2 e, hfl, apL_yes (by rw [← hb]; exact e)]
end Go.Proofs.Ytefnmjoapmnkbaa
set_option linter.unusedVariables false
namespace Go.Proofs.Ytefnmjoapmnkbaa
open Go.RowKit

theorem RightP.short8 {xs : List Cel} {us : List Int} {r : Int} (h : RightP xs us r) : xs.length ≤ 4096 := by
  have h1 := h.few
  have h2 := h.r2
  omega
def HGNew (w : World) (l : List Cel) (i : Int) (e : Ending) (w' : World) : Prop := ∃ a2 c2, e = .returned (.tuple #[.slice a2 (getL l i).length c2, .bool (getB l i)]) ∧ NewRow w.heap.size w' a2 c2 (getL l i) ∧ Below w.heap.size w w'
set_option maxHeartbeats 3200000 in
/-- heap.Get, its row new -/
theorem hget_new (a : Option Addr) (cap : Nat) (a' : Option Addr) (n' cap' : Nat) (r i : Int) (w : World) (l : List Cel) (hr : Row w a cap l) (hl : l.length ≤ 5000) (i1 : -9223372036854775808 ≤ i) (i2 : i ≤ 9223372036854775807) :
    Calls Try.prog 22 #[hv a l.length cap a' n' cap' r, .int .i64 i] w (HGNew w l i) := by
  have hG0 := GM.init w a cap l (.slice a' n' cap') (.int .i64 r) 25 100
  have HG0 := mkHid hG0
  have c3 := hG0.c3
  have HR := mkHid hr
  have h9 := mkHid (layG_few l 202 [] i (by simp))
  clear hG0 hr
  go_enter Try.func22, Try.ntmps22
  go_wp2_with fail
  refine (get1_any w a cap l HR.out hl 202 [] _ i _ (by simp) (by simp) HG0.out i1 i2).mono ?_
  rintro e W ⟨rfl, v, hM⟩
  obtain ⟨va, vc, rfl, hvr⟩ := hM.acc.row
  obtain ⟨va2, vc2, ev, hvn⟩ := hM.acc.newC8
  have c2 := hM.c2
  have hvm := hvr.max
  have hvl := hvr.le
  have HM := mkHid hM
  have HVR := mkHid hvr
  have HVN := mkHid hvn
  have HEV := mkHid ev
  clear c3 hM hvr hvn ev
  have hlen : (layG l 202 [] i).length ≤ 1000000 := by have := h9.out; omega
  cases hq : getB l i with
  | true =>
    have HQ : Hid (rightB (layG l 202 [] i) = true) := hq
    have HL : Hid (getL l i = layG l 202 [] i) := by rw [Hid, getL, if_pos hq]; rfl
    have HB := mkHid hq
    clear hq
    generalize layG l 202 [] i = L at *
    go_wp2_with fail
    refine (right_any va vc _ L HVR.out).mono ?_
    rintro e w2 ⟨rfl, hb2⟩
    rw [HQ.out]
    have d2 := keep c2 hb2
    go_wp2_with fail
    go_ret2
    unfold HGNew
    rw [HL.out, HB.out]
    have hev := HEV.out
    cases hev
    exact ⟨va, vc, rfl, (HVN.out.below hb2).mono (by omega), HM.out.fr.then hb2⟩
  | false =>
    have HQ : Hid (rightB (layG l 202 [] i) = false) := hq
    have HL : Hid (getL l i = []) := by rw [Hid, getL, if_neg (by rw [hq]; simp)]
    have HB := mkHid hq
    clear hq
    generalize layG l 202 [] i = L at *
    go_wp2_with fail
    refine (right_any va vc _ L HVR.out).mono ?_
    rintro e w2 ⟨rfl, hb2⟩
    rw [HQ.out]
    go_wp2_with fail
    go_ret2
    unfold HGNew
    rw [HL.out, HB.out]
    exact ⟨none, 0, rfl, NewRow.empty _ _ _ _ (by omega) (fun _ => rfl), HM.out.fr.then hb2⟩
/-- the terms of places -/
theorem places_trees {g : List Cel} {us Q : List Int} {r : Int} (hr : RightP g us r) (hp : PlOk g.length Q) (h0 : 0 < g.length) : ∃ τ : Int → Tm, ∀ n : Int, Q.getD n.toNat 0 ≠ -1 → Tree g (Q.getD n.toNat 0) (τ n) := by
  have key : ∀ n : Int, ∃ t : Tm, Q.getD n.toNat 0 ≠ -1 → Tree g (Q.getD n.toNat 0) t := fun n => by
    by_cases hl : n.toNat < Q.length
    · by_cases hq : Q.getD n.toNat 0 = -1
      · exact ⟨.mk ⟨2, ⟨#[]⟩, 0⟩ [], fun h1 => absurd hq h1⟩
      · have hm : Q.getD n.toNat 0 ∈ Q := by rw [List.getD_eq_getElem?_getD, List.getElem?_eq_getElem hl]; exact List.getElem_mem hl
        obtain ⟨h1, h2⟩ := (hp _ hm).resolve_left hq
        obtain ⟨k, hk⟩ : ∃ k : Nat, Q.getD n.toNat 0 = k := ⟨(Q.getD n.toNat 0).toNat, by omega⟩
        obtain ⟨t, ht⟩ := tree_total hr k (by omega)
        exact ⟨t, fun _ => by rw [hk]; exact ht⟩
    · have hz : Q.getD n.toNat 0 = ((0 : Nat) : Int) := by rw [List.getD_eq_getElem?_getD, List.getElem?_eq_none (by omega)]; rfl
      obtain ⟨t, ht⟩ := tree_total hr 0 h0
      exact ⟨t, fun _ => by rw [hz]; exact ht⟩
  exact ⟨fun n => Classical.choose (key n), fun n => Classical.choose_spec (key n)⟩
/-- a term's variables have places behind Put, and elder places stay -/
theorem putS_psg (xs : List Cel) (ps : List Int) (t : Tm) : PsG ps (putS xs ps t).1.2 := by
  unfold putS
  split
  · exact PsG.lay t (xs, ps)
  · split
    · exact .refl _
    · exact PsG.slot _ _ _
theorem widen_keeps8 (vs : List Int) : ∀ (ps : List Int) (k : Nat), k < ps.length → (widenL ps vs).getD k 0 = ps.getD k 0 := by
  induction vs with
  | nil => intro ps k _; rfl
  | cons v vs ih =>
    intro ps k hk
    unfold widenL at ih ⊢
    rw [List.foldl_cons, ih _ k (by simp; omega), List.getD_eq_getElem?_getD, List.getD_eq_getElem?_getD, List.getElem?_append_left hk]
end Go.Proofs.Ytefnmjoapmnkbaa
set_option linter.unusedVariables false
namespace Go.Proofs.Ytefnmjoapmnkbaa
open Go.RowKit

/-! ### HeapBack -/
def opV3 (a : Option Addr) (n cap : Nat) (x y : Int) : Value := .agg #[.slice a n cap, .int .i64 x, .int .i64 y]
/-- what the loop of HeapBack has come to -/
structure BLoop (wr : World) (B : Nat) (g : List Cel) (Q vs : List Int) (m : Nat) (v : Value) : Prop where
  acc : AccInv B 57 (bindsK (fun n => getL g (Q.getD n.toNat 0)) vs m) v wr
  ok : ∀ n ∈ vs, n < (m : Int) → getB g (Q.getD n.toNat 0) = true
theorem BLoop.skip {wr : World} {B : Nat} {g : List Cel} {Q vs : List Int} {m : Nat} {v : Value} (h : BLoop wr B g Q vs m v) (hn : (m : Int) ∉ vs) : BLoop wr B g Q vs (m + 1) v := by
  refine ⟨?_, fun n hn2 hlt => h.ok n hn2 ?_⟩
  · rw [bindsK_succ, bindO, if_neg (fun e => hn e.1), List.append_nil]; exact h.acc
  · have : n ≠ (m : Int) := fun e => hn (e ▸ hn2)
    omega
theorem BLoop.own {wr : World} {B : Nat} {g : List Cel} {Q vs : List Int} {m : Nat} {v : Value} {z : Int} (h : BLoop wr B g Q vs m v) (hz : Q.getD m 0 = z) (hg : getB g z = true) (e : getL g z = ownVar8 m) : BLoop wr B g Q vs (m + 1) v := by
  subst hz
  refine ⟨?_, fun n hn2 hlt => ?_⟩
  · rw [bindsK_succ, bindO, if_neg (fun h => h.2 (by simpa using e)), List.append_nil]; exact h.acc
  · by_cases hm : n = (m : Int)
    · subst hm; simpa using hg
    · exact h.ok n hn2 (by omega)
theorem BLoop.put {wr w' : World} {B : Nat} {g : List Cel} {Q vs : List Int} {m : Nat} {v v' : Value} {z : Int} (h : BLoop wr B g Q vs m v) (hz : Q.getD m 0 = z) (hg : getB g z = true) (hin : (m : Int) ∈ vs) (e : getL g z ≠ ownVar8 m)
    (ha : AccInv B 57 (bindsK (fun n => getL g (Q.getD n.toNat 0)) vs m ++ [⟨(m : Int), getL g z⟩]) v' w') : BLoop w' B g Q vs (m + 1) v' := by
  subst hz
  refine ⟨?_, fun n hn2 hlt => ?_⟩
  · rw [bindsK_succ, bindO, if_pos ⟨hin, by simpa using e⟩]; simpa using ha
  · by_cases hm : n = (m : Int)
    · subst hm; simpa using hg
    · exact h.ok n hn2 (by omega)
theorem BLoop.below {wr w' : World} {B : Nat} {g : List Cel} {Q vs : List Int} {m : Nat} {v : Value} (h : BLoop wr B g Q vs m v) (hb : Below wr.heap.size wr w') : BLoop w' B g Q vs m v := ⟨h.acc.below hb, h.ok⟩
theorem getB_off (l : List Cel) : getB l (-1) = false := by
  unfold getB gotL
  rw [layG_off (follow_off (by omega))]
  rfl
theorem varsL_few (xs : List Cel) : (varsL xs).length ≤ xs.length := by
  have key : ∀ (xs : List Cel) (acc : List Int), (varsGo acc xs).length ≤ acc.length + xs.length := by
    intro xs
    induction xs with
    | nil => intro acc; simp [varsGo]
    | cons c xs ih =>
      intro acc
      unfold varsGo
      split
      · have := ih (acc ++ [c.n]); simp at this ⊢; omega
      · have := ih acc; simp at this ⊢; omega
  have := key xs []
  simpa [varsL] using this
theorem apL_le (s : List Bnd) (t : List Cel) : (apL s t).length ≤ 1000 := by
  unfold apL
  split
  · rename_i h; unfold apB at h; simp at h; omega
  · simp
theorem got_short {l : List Cel} {i : Int} : (getL l i).length ≤ 1000 := by
  unfold getL
  split
  · rename_i h
    unfold getB at h
    obtain ⟨_, _, _, h4⟩ := right_tm h
    omega
  · simp
set_option maxRecDepth 100000 in
set_option maxHeartbeats 64000000 in
theorem lawBack_any (HD : ∀ w : World, Calls Try.prog 12 #[] w fun e w' => e = .returned (.bool true) ∧ Below w.heap.size w w')
    (a : Option Addr) (cap : Nat) (a' : Option Addr) (cap' : Nat) (r : Int) (b : Option Addr) (cb : Nat) (c : Option Addr) (cc : Nat) (p q : Int) (w : World) (l : List Cel) (ts at_ : List Int) (T : List Cel)
    (hr : Row w a cap l) (ht : Row w a' cap' ts) (h1 : Row w b cb at_) (h2 : Row w c cc T) (f1 : pfit (p, q)) :
    Calls Try.prog 4 #[hv a l.length cap a' ts.length cap' r, .slice b at_.length cb, opV3 c T.length cc p q] w fun e w' => e = .returned (.bool true) ∧ Below w.heap.size w w' := by
  have hm := hr.max
  have hle := hr.le
  have hm2 := ht.max
  have hle2 := ht.le
  have hm3 := h2.max
  have hle3 := h2.le
  have hm4 := h1.max
  have hle4 := h1.le
  have HR := mkHid hr
  have HT := mkHid ht
  have HA := mkHid h1
  have H2 := mkHid h2
  have hp1 : -9223372036854775808 ≤ p := f1.1.1
  have hp2 : p ≤ 9223372036854775807 := f1.1.2
  clear hr ht h1 h2 f1
  unfold opV3
  go_enter Try.func4, Try.ntmps4
  have HB := mkHid (Below.refl w.heap.size w)
  go_wp2_with fail
  obtain ⟨W, hW⟩ : ∃ V, ((w.alloc (.cells #[(.slice a l.length cap), (.slice a' ts.length cap'), (.int .i64 r)] 25)).alloc (.cells #[(.slice c T.length cc), (.int .i64 p), (.int .i64 q)] 28)) = V := ⟨_, rfl⟩
  have hb0 : Below w.heap.size w W := by rw [← hW]; exact ((Below.refl _ _).new _).new _
  have q0 : C38 W w.heap.size (.slice a l.length cap) (.slice a' ts.length cap') (.int .i64 r) := by rw [← hW]; exact (C38.new w _ _ _ _).below ((Below.refl _ _).new _)
  have q1 : C38 W (w.heap.size + 1) (.slice c T.length cc) (.int .i64 p) (.int .i64 q) := by
    have h := C38.new (w.alloc (.cells #[(.slice a l.length cap), (.slice a' ts.length cap'), (.int .i64 r)] 25)) (.slice c T.length cc) (.int .i64 p) (.int .i64 q) 28
    rw [World.size_alloc] at h
    rw [← hW]; exact h
  rw [hW]
  clear hW
  obtain ⟨B0, hB0⟩ : ∃ V, w.heap.size = V := ⟨_, rfl⟩
  rw [hB0] at q0 q1 ⊢
  have HB00 := mkHid hB0
  clear hB0
  replace HR := mkHid (HR.out.below hb0)
  replace HT := mkHid (HT.out.below hb0)
  replace HA := mkHid (HA.out.below hb0)
  replace H2 := mkHid (H2.out.below hb0)
  replace HB := mkHid (HB.out.then hb0)
  have X0 := mkHid q0
  have X1 := mkHid q1
  clear q0 q1 hb0
  refine (HD _).mono ?_
  rintro e w1 ⟨rfl, hw1⟩
  replace HR := mkHid (HR.out.below hw1)
  replace HT := mkHid (HT.out.below hw1)
  replace HA := mkHid (HA.out.below hw1)
  replace H2 := mkHid (H2.out.below hw1)
  replace X0 := mkHid (X0.out.below hw1)
  replace X1 := mkHid (X1.out.below hw1)
  replace HB := mkHid (HB.out.then hw1)
  clear hw1
  have k0 := X0.out.lt
  obtain ⟨j00, j01, j02⟩ := X0.out
  have k1 := X1.out.lt
  obtain ⟨j10, j11, j12⟩ := X1.out
  go_wp2_with fail
  clear j00 j01 j02 j10 j11 j12 k0 k1
  refine (may8_any a cap a' cap' r _ l ts HR.out HT.out).mono ?_
  rintro e w2 ⟨⟨t, rfl, hMay⟩, hw2⟩
  replace HR := mkHid (HR.out.below hw2)
  replace HT := mkHid (HT.out.below hw2)
  replace HA := mkHid (HA.out.below hw2)
  replace H2 := mkHid (H2.out.below hw2)
  replace X0 := mkHid (X0.out.below hw2)
  replace X1 := mkHid (X1.out.below hw2)
  replace HB := mkHid (HB.out.then hw2)
  clear hw2
  have HM := mkHid hMay
  clear hMay
  cases t with
  | false =>
    go_wp2_with fail
    go_ret
    exact ⟨ret_bool rfl, HB.out⟩
  | true =>
    have HMP := mkHid (HM.out.1 (by first | rfl | trivial))
    clear HM
    have hl1 := HMP.out.1
    have hl2 := HMP.out.2.1
    by_cases h210 : (T.length : Int) ≤ 210
    rotate_left
    · skip
      have k0 := X0.out.lt
      obtain ⟨j00, j01, j02⟩ := X0.out
      have k1 := X1.out.lt
      obtain ⟨j10, j11, j12⟩ := X1.out
      go_wp2_with fail
      clear j00 j01 j02 j10 j11 j12 k0 k1
      go_ret
      exact ⟨ret_bool rfl, HB.out⟩
    cases hRi : rightB T with
    | false =>
      have HRI := mkHid hRi
      clear hRi
      have k0 := X0.out.lt
      obtain ⟨j00, j01, j02⟩ := X0.out
      have k1 := X1.out.lt
      obtain ⟨j10, j11, j12⟩ := X1.out
      go_wp2_with fail
      clear j00 j01 j02 j10 j11 j12 k0 k1
      refine (refright_any c cc _ T H2.out).mono ?_
      rintro e w3 ⟨rfl, hw3⟩
      rw [HRI.out]
      replace HR := mkHid (HR.out.below hw3)
      replace HT := mkHid (HT.out.below hw3)
      replace HA := mkHid (HA.out.below hw3)
      replace H2 := mkHid (H2.out.below hw3)
      replace X0 := mkHid (X0.out.below hw3)
      replace X1 := mkHid (X1.out.below hw3)
      replace HB := mkHid (HB.out.then hw3)
      clear hw3
      have k0 := X0.out.lt
      obtain ⟨j00, j01, j02⟩ := X0.out
      have k1 := X1.out.lt
      obtain ⟨j10, j11, j12⟩ := X1.out
      go_wp2_with fail
      clear j00 j01 j02 j10 j11 j12 k0 k1
      go_ret
      exact ⟨ret_bool rfl, HB.out⟩
    | true =>
      obtain ⟨tm, hok, rfl, h200⟩ := right_tm hRi
      have HRI := mkHid hRi
      have HOK := mkHid hok
      clear hRi hok
      have k0 := X0.out.lt
      obtain ⟨j00, j01, j02⟩ := X0.out
      have k1 := X1.out.lt
      obtain ⟨j10, j11, j12⟩ := X1.out
      go_wp2_with fail
      clear j00 j01 j02 j10 j11 j12 k0 k1
      refine (refright_any c cc _ _ H2.out).mono ?_
      rintro e w4 ⟨rfl, hw4⟩
      rw [HRI.out]
      replace HR := mkHid (HR.out.below hw4)
      replace HT := mkHid (HT.out.below hw4)
      replace HA := mkHid (HA.out.below hw4)
      replace H2 := mkHid (H2.out.below hw4)
      replace X0 := mkHid (X0.out.below hw4)
      replace X1 := mkHid (X1.out.below hw4)
      replace HB := mkHid (HB.out.then hw4)
      clear hw4
      have k0 := X0.out.lt
      obtain ⟨j00, j01, j02⟩ := X0.out
      have k1 := X1.out.lt
      obtain ⟨j10, j11, j12⟩ := X1.out
      go_wp2_with fail
      clear j00 j01 j02 j10 j11 j12 k0 k1
      refine (fits_any a cap a' ts.length cap' r b cb _ l.length at_ HA.out).mono ?_
      rintro e w5 ⟨a2, c2, rfl, r2, hw5⟩
      replace HR := mkHid (HR.out.below hw5)
      replace HT := mkHid (HT.out.below hw5)
      replace HA := mkHid (HA.out.below hw5)
      replace H2 := mkHid (H2.out.below hw5)
      replace X0 := mkHid (X0.out.below hw5)
      replace X1 := mkHid (X1.out.below hw5)
      replace HB := mkHid (HB.out.then hw5)
      clear hw5
      have HFO := mkHid (fitL_ok l.length at_)
      have hfl := fitL_len l.length at_
      generalize fitL l.length at_ = ps at *
      have R2 := mkHid (r2)
      clear r2
      clear HA
      have k0 := X0.out.lt
      obtain ⟨j00, j01, j02⟩ := X0.out
      have k1 := X1.out.lt
      obtain ⟨j10, j11, j12⟩ := X1.out
      go_wp2_with fail
      clear j00 j01 j02 j10 j11 j12 k0 k1
      refine (hput_any a cap a' cap' r c cc a2 c2 _ l ts ps tm HR.out HT.out H2.out R2.out HOK.out h200 (by omega) (by omega) (by omega) (HFO.out.known _)).mono ?_
      rintro e w6 ⟨g, pl, Q, er, a11, c11, a12, c12, a13, c13, rfl, hP, r11, s11, p11, hw6⟩
      have HK := mkHid (pout_kept (at_ := ps) hP HOK.out h200 (few_of_slots HMP.out.2.2.slots) HFO.out (by omega))
      have HRG := mkHid (pout_right hP HOK.out HFO.out HMP.out.2.2)
      have HP := mkHid hP
      clear hP
      replace HR := mkHid (HR.out.below hw6)
      replace HT := mkHid (HT.out.below hw6)
      replace H2 := mkHid (H2.out.below hw6)
      replace X0 := mkHid (X0.out.below hw6)
      replace X1 := mkHid (X1.out.below hw6)
      replace R2 := mkHid (R2.out.below hw6)
      replace HB := mkHid (HB.out.then hw6)
      clear hw6
      have R11 := mkHid (r11.row)
      have S11 := mkHid (s11.row)
      have P11 := mkHid (p11.row)
      clear r11 s11 p11
      have hm11 := R11.out.max
      have hl11 := R11.out.le
      have hm13 := P11.out.max
      have hl13 := P11.out.le
      have hgs := HRG.out.short8
      have HE1 : Hid (er = 80 → g = l ∧ pl = 0 ∧ Q = []) := fun e => by rcases HP.out with ⟨_, h1, h2, h3, _⟩ | ⟨_, _, _, _, h⟩; exact ⟨h1, h2, h3⟩; omega
      have HE2 : Hid (er = 0 → g = (putS l (widenL ps (varsL tm.flat)) tm).1.1 ∧ pl = (putS l (widenL ps (varsL tm.flat)) tm).2 ∧ Q = (putS l (widenL ps (varsL tm.flat)) tm).1.2) := fun e => by rcases HP.out with ⟨_, _, _, _, h⟩ | ⟨_, h1, h2, h3, _⟩; omega; exact ⟨h1, h2, h3⟩
      have HER := HK.out.2.2.2.2.2
      clear HP
      rcases HER with rfl | rfl
      rotate_left
      · skip
        obtain ⟨rfl, rfl, rfl⟩ := HE1.out (by first | rfl | trivial)
        clear HE1 HE2
        have k0 := X0.out.lt
        obtain ⟨j00, j01, j02⟩ := X0.out
        have k1 := X1.out.lt
        obtain ⟨j10, j11, j12⟩ := X1.out
        go_wp2_with fail
        clear j00 j01 j02 j10 j11 j12 k0 k1
        have q0 := C38.new w6 (.slice a11 g.length c11) (.slice a12 ts.length c12) (.int .i64 r) 25
        have hw7 := (Below.refl w6.heap.size w6).new (.cells #[.slice a11 g.length c11, .slice a12 ts.length c12, .int .i64 r] 25)
        replace HR := mkHid (HR.out.below hw7)
        replace HT := mkHid (HT.out.below hw7)
        replace H2 := mkHid (H2.out.below hw7)
        replace X0 := mkHid (X0.out.below hw7)
        replace X1 := mkHid (X1.out.below hw7)
        replace R2 := mkHid (R2.out.below hw7)
        replace R11 := mkHid (R11.out.below hw7)
        replace S11 := mkHid (S11.out.below hw7)
        replace P11 := mkHid (P11.out.below hw7)
        replace HB := mkHid (HB.out.then hw7)
        obtain ⟨w7, hV⟩ : ∃ V, w6.alloc (.cells #[.slice a11 g.length c11, .slice a12 ts.length c12, .int .i64 r] 25) = V := ⟨_, rfl⟩
        obtain ⟨G9, hG⟩ : ∃ V, w6.heap.size = V := ⟨_, rfl⟩
        rw [hV] at HR HT H2 X0 X1 R2 R11 S11 P11 HB q0 ⊢
        rw [hG] at q0 ⊢
        have X9 := mkHid q0
        clear hV hG q0 hw7
        have k0 := X0.out.lt
        obtain ⟨j00, j01, j02⟩ := X0.out
        have k1 := X1.out.lt
        obtain ⟨j10, j11, j12⟩ := X1.out
        have k9 := X9.out.lt
        obtain ⟨j90, j91, j92⟩ := X9.out
        go_wp2_with fail
        clear j00 j01 j02 j10 j11 j12 j90 j91 j92 k0 k1 k9
        refine (sameK R11.out HR.out S11.out HT.out rfl rfl).mono ?_
        rintro e w8 ⟨rfl, hw8⟩
        replace HR := mkHid (HR.out.below hw8)
        replace HT := mkHid (HT.out.below hw8)
        replace H2 := mkHid (H2.out.below hw8)
        replace X0 := mkHid (X0.out.below hw8)
        replace X1 := mkHid (X1.out.below hw8)
        replace R2 := mkHid (R2.out.below hw8)
        replace R11 := mkHid (R11.out.below hw8)
        replace S11 := mkHid (S11.out.below hw8)
        replace P11 := mkHid (P11.out.below hw8)
        replace X9 := mkHid (X9.out.below hw8)
        replace HB := mkHid (HB.out.then hw8)
        clear hw8
        have k0 := X0.out.lt
        obtain ⟨j00, j01, j02⟩ := X0.out
        have k1 := X1.out.lt
        obtain ⟨j10, j11, j12⟩ := X1.out
        have k9 := X9.out.lt
        obtain ⟨j90, j91, j92⟩ := X9.out
        go_wp2_with fail
        clear j00 j01 j02 j10 j11 j12 j90 j91 j92 k0 k1 k9
        go_ret
        exact ⟨ret_bool rfl, HB.out⟩
      · skip
        have HE := mkHid (HE2.out (by first | rfl | trivial))
        clear HE1 HE2
        have HMO := mkHid (more_take HK.out.2.2.2.1)
        have hgl := HMO.out.len
        have HQL : Hid (Q.length = (widenL ps (varsL tm.flat)).length) := by rw [Hid, HE.out.2.2, putS_places]
        have hqp : ps.length ≤ Q.length := by have h := widen_grow (varsL tm.flat) ps; have := HQL.out; omega
        have HVI := mkHid (widen_vars HOK.out ps)
        have HPG : Hid (PsG (widenL ps (varsL tm.flat)) Q) := by rw [Hid, HE.out.2.2]; exact putS_psg _ _ _
        have HPL := mkHid HK.out.2.1
        have hplr : 0 ≤ pl ∧ pl < (g.length : Int) := by have h := putS_place HVI.out (HFO.out.widen (varsL tm.flat)); rw [HE.out.1, HE.out.2.1]; exact h
        obtain ⟨τ, hτ⟩ := places_trees HRG.out HPL.out (by omega)
        have HTA := mkHid hτ
        have HTP : Hid (Tree g pl (instT τ tm)) := by
          have h := putS_tree (xs := l) (ps := widenL ps (varsL tm.flat)) (t := tm) (us := ts) (r := r) (τ := τ) HOK.out HVI.out (by rw [← HE.out.1, ← HE.out.2.2]; exact HTA.out)
          rw [← HE.out.1, ← HE.out.2.1] at h
          exact h
        clear hτ
        have hsl : l.length ≤ c11 := by omega
        have HTK : Hid (Row w6 a11 c11 (g.take l.length)) := row_take8 R11.out l.length
        rw [HK.out.2.2.2.1] at HTK
        have k0 := X0.out.lt
        obtain ⟨j00, j01, j02⟩ := X0.out
        have k1 := X1.out.lt
        obtain ⟨j10, j11, j12⟩ := X1.out
        go_wp2_with fail
        clear j00 j01 j02 j10 j11 j12 k0 k1
        have q0 := C38.new w6 (.slice a11 g.length c11) (.slice a12 ts.length c12) (.int .i64 r) 25
        have hw9 := (Below.refl w6.heap.size w6).new (.cells #[.slice a11 g.length c11, .slice a12 ts.length c12, .int .i64 r] 25)
        replace HR := mkHid (HR.out.below hw9)
        replace HT := mkHid (HT.out.below hw9)
        replace H2 := mkHid (H2.out.below hw9)
        replace X0 := mkHid (X0.out.below hw9)
        replace X1 := mkHid (X1.out.below hw9)
        replace R2 := mkHid (R2.out.below hw9)
        replace R11 := mkHid (R11.out.below hw9)
        replace S11 := mkHid (S11.out.below hw9)
        replace P11 := mkHid (P11.out.below hw9)
        replace HTK := mkHid (HTK.out.below hw9)
        replace HB := mkHid (HB.out.then hw9)
        obtain ⟨w9, hV⟩ : ∃ V, w6.alloc (.cells #[.slice a11 g.length c11, .slice a12 ts.length c12, .int .i64 r] 25) = V := ⟨_, rfl⟩
        obtain ⟨G9, hG⟩ : ∃ V, w6.heap.size = V := ⟨_, rfl⟩
        rw [hV] at HR HT H2 X0 X1 R2 R11 S11 P11 HTK HB q0 ⊢
        rw [hG] at q0 ⊢
        have X9 := mkHid q0
        clear hV hG q0 hw9
        have HS : Hid (∀ X, Below w9.heap.size w9 X → (fun X => C38 X G9 (.slice a11 g.length c11) (.slice a12 ts.length c12) (.int .i64 r) ∧ C38 X B0 (.slice a l.length cap) (.slice a' ts.length cap') (.int .i64 r)) X) := fun X h => ⟨X9.out.below h, X0.out.below h⟩
        have hd0 : Below w9.heap.size w9 w9.drew := (Below.refl _ _).drew
        refine wp_region_noPanic ?_
        refine wp_region_held_drew (S := fun X => C38 X G9 (.slice a11 g.length c11) (.slice a12 ts.length c12) (.int .i64 r) ∧ C38 X B0 (.slice a l.length cap) (.slice a' ts.length cap') (.int .i64 r)) (by kernel_rfl) (HS.out _ hd0) (fun hSd => ?_)
        obtain ⟨v0, hx0⟩ : ∃ X, w9.drew = X := ⟨_, rfl⟩
        rw [hx0] at hd0 hSd ⊢
        clear hx0
        refine wpAnyH_take (i := 0) (oi := _) (v := ?_) rfl (by kernel_rfl) (by kernel_rfl) (by kernel_rfl) (fun _ _ _ h => h) (Or.inl ⟨by rfl, ?_⟩) (by assumption) ?_
        rotate_left
        · (intro w' hSw; obtain ⟨⟨q0, q1, q2⟩, ⟨q3, q4, q5⟩⟩ := hSw; go_simp; try with_reducible rfl)
        (try simp only [List.getElem_toArray, List.getElem_cons_succ, List.getElem_cons_zero, Act.put, List.setIfInBounds_toArray, List.set_cons_zero, List.set_cons_succ])
        refine wpAnyH_take (i := 1) (oi := _) (v := ?_) rfl (by kernel_rfl) (by kernel_rfl) (by kernel_rfl) (fun _ _ _ h => h) (Or.inl ⟨by rfl, ?_⟩) (by assumption) ?_
        rotate_left
        · (intro w' hSw; obtain ⟨⟨q0, q1, q2⟩, ⟨q3, q4, q5⟩⟩ := hSw; go_simp; try with_reducible rfl)
        (try simp only [List.getElem_toArray, List.getElem_cons_succ, List.getElem_cons_zero, Act.put, List.setIfInBounds_toArray, List.set_cons_zero, List.set_cons_succ])
        refine wpAnyH_take (i := 2) (oi := _) (v := ?_) rfl (by kernel_rfl) (by kernel_rfl) (by kernel_rfl) (fun _ _ _ h => h) (Or.inl ⟨by rfl, ?_⟩) (by assumption) ?_
        rotate_left
        · (intro w' hSw; obtain ⟨⟨q0, q1, q2⟩, ⟨q3, q4, q5⟩⟩ := hSw; go_simp; try with_reducible rfl)
        (try simp only [List.getElem_toArray, List.getElem_cons_succ, List.getElem_cons_zero, Act.put, List.setIfInBounds_toArray, List.set_cons_zero, List.set_cons_succ])
        refine wpAnyH_take (i := 3) (oi := _) (v := ?_) rfl (by kernel_rfl) (by kernel_rfl) (by kernel_rfl) (fun _ _ _ h => h) (Or.inl ⟨by rfl, ?_⟩) (by assumption) ?_
        rotate_left
        · (intro w' hSw; obtain ⟨⟨q0, q1, q2⟩, ⟨q3, q4, q5⟩⟩ := hSw; go_simp; try with_reducible rfl)
        (try simp only [List.getElem_toArray, List.getElem_cons_succ, List.getElem_cons_zero, Act.put, List.setIfInBounds_toArray, List.set_cons_zero, List.set_cons_succ])
        refine wpAnyH_take (i := 4) (oi := _) (v := ?_) rfl (by kernel_rfl) (by kernel_rfl) (by kernel_rfl) (fun _ _ _ h => h) (Or.inl ⟨by rfl, ?_⟩) (by assumption) ?_
        rotate_left
        · (intro w' hSw; obtain ⟨⟨q0, q1, q2⟩, ⟨q3, q4, q5⟩⟩ := hSw; go_simp; try with_reducible rfl)
        (try simp only [List.getElem_toArray, List.getElem_cons_succ, List.getElem_cons_zero, Act.put, List.setIfInBounds_toArray, List.set_cons_zero, List.set_cons_succ])
        refine wpAnyH_take (i := 5) (oi := _) (v := ?_) rfl (by kernel_rfl) (by kernel_rfl) (by kernel_rfl) (fun _ _ _ h => h) (Or.inl ⟨by rfl, ?_⟩) (by assumption) ?_
        rotate_left
        · (intro w' hSw; obtain ⟨⟨q0, q1, q2⟩, ⟨q3, q4, q5⟩⟩ := hSw; go_simp; try with_reducible rfl)
        (try simp only [List.getElem_toArray, List.getElem_cons_succ, List.getElem_cons_zero, Act.put, List.setIfInBounds_toArray, List.set_cons_zero, List.set_cons_succ])
        refine wpAnyH_take (i := 6) (oi := _) (v := .bool false) rfl (by kernel_rfl) (by kernel_rfl) (by kernel_rfl) (fun _ _ _ h => h) (Or.inl ⟨by rfl, ?_⟩) (by assumption) ?_
        · (intro w' hSw; obtain ⟨⟨q0, q1, q2⟩, ⟨q3, q4, q5⟩⟩ := hSw; go_simp; try (first | with_reducible rfl | (exact hgl)))
        (try simp only [List.getElem_toArray, List.getElem_cons_succ, List.getElem_cons_zero, Act.put, List.setIfInBounds_toArray, List.set_cons_zero, List.set_cons_succ])
        refine wpAnyH_take (i := 7) (oi := _) (v := ?_) rfl (by kernel_rfl) (by kernel_rfl) (by kernel_rfl) (fun _ _ _ h => h) (Or.inl ⟨by rfl, ?_⟩) (by assumption) ?_
        rotate_left
        · (intro w' hSw; obtain ⟨⟨q0, q1, q2⟩, ⟨q3, q4, q5⟩⟩ := hSw; go_simp; try with_reducible rfl)
        (try simp only [List.getElem_toArray, List.getElem_cons_succ, List.getElem_cons_zero, Act.put, List.setIfInBounds_toArray, List.set_cons_zero, List.set_cons_succ])
        refine wpAnyH_take (i := 8) (oi := _) (v := ?_) rfl (by kernel_rfl) (by kernel_rfl) (by kernel_rfl) (fun _ _ _ h => h) (Or.inl ⟨by rfl, ?_⟩) (by assumption) ?_
        rotate_left
        · (intro w' hSw; obtain ⟨⟨q0, q1, q2⟩, ⟨q3, q4, q5⟩⟩ := hSw; go_simp; try with_reducible rfl)
        (try simp only [List.getElem_toArray, List.getElem_cons_succ, List.getElem_cons_zero, Act.put, List.setIfInBounds_toArray, List.set_cons_zero, List.set_cons_succ])
        refine wpAnyH_take (i := 9) (oi := _) (v := ?_) rfl (by kernel_rfl) (by kernel_rfl) (by kernel_rfl) (fun _ _ _ h => h) (Or.inl ⟨by rfl, ?_⟩) (by assumption) ?_
        rotate_left
        · (intro w' hSw; obtain ⟨⟨q0, q1, q2⟩, ⟨q3, q4, q5⟩⟩ := hSw; go_simp; try with_reducible rfl)
        (try simp only [List.getElem_toArray, List.getElem_cons_succ, List.getElem_cons_zero, Act.put, List.setIfInBounds_toArray, List.set_cons_zero, List.set_cons_succ])
        refine wpAnyH_take (i := 10) (oi := _) (v := ?_) rfl (by kernel_rfl) (by kernel_rfl) (by kernel_rfl) (fun _ _ _ h => h) (Or.inl ⟨by rfl, ?_⟩) (by assumption) ?_
        rotate_left
        · (intro w' hSw; obtain ⟨⟨q0, q1, q2⟩, ⟨q3, q4, q5⟩⟩ := hSw; go_simp; try with_reducible rfl)
        (try simp only [List.getElem_toArray, List.getElem_cons_succ, List.getElem_cons_zero, Act.put, List.setIfInBounds_toArray, List.set_cons_zero, List.set_cons_succ])
        refine wpAnyH_take (i := 11) (oi := _) (v := ?_) rfl (by kernel_rfl) (by kernel_rfl) (by kernel_rfl) (fun _ _ _ h => h) (Or.inl ⟨by rfl, ?_⟩) (by assumption) ?_
        rotate_left
        · (intro w' hSw; obtain ⟨⟨q0, q1, q2⟩, ⟨q3, q4, q5⟩⟩ := hSw; go_simp; try with_reducible rfl)
        (try simp only [List.getElem_toArray, List.getElem_cons_succ, List.getElem_cons_zero, Act.put, List.setIfInBounds_toArray, List.set_cons_zero, List.set_cons_succ])
        refine wpAnyH_take (i := 12) (oi := _) (v := ?_) rfl (by kernel_rfl) (by kernel_rfl) (by kernel_rfl) (fun _ _ _ h => h) (Or.inl ⟨by rfl, ?_⟩) (by assumption) ?_
        rotate_left
        · (intro w' hSw; obtain ⟨⟨q0, q1, q2⟩, ⟨q3, q4, q5⟩⟩ := hSw; go_simp; try with_reducible rfl)
        (try simp only [List.getElem_toArray, List.getElem_cons_succ, List.getElem_cons_zero, Act.put, List.setIfInBounds_toArray, List.set_cons_zero, List.set_cons_succ])
        refine wpAnyH_take (i := 13) (oi := _) (v := .slice a11 l.length c11) rfl (by kernel_rfl) (by kernel_rfl) (by kernel_rfl) (fun _ _ _ h => h) (Or.inl ⟨by rfl, ?_⟩) (by assumption) ?_
        · (intro w' hSw; obtain ⟨⟨q0, q1, q2⟩, ⟨q3, q4, q5⟩⟩ := hSw; go_simp; try (first | with_reducible rfl | (rw [if_pos hsl])))
        (try simp only [List.getElem_toArray, List.getElem_cons_succ, List.getElem_cons_zero, Act.put, List.setIfInBounds_toArray, List.set_cons_zero, List.set_cons_succ])
        refine wpAnyH_take (i := 14) (oi := _) (v := ?_) rfl (by kernel_rfl) (by kernel_rfl) (by kernel_rfl) (fun _ _ _ h => h) (Or.inl ⟨by rfl, ?_⟩) (by assumption) ?_
        rotate_left
        · (intro w' hSw; obtain ⟨⟨q0, q1, q2⟩, ⟨q3, q4, q5⟩⟩ := hSw; go_simp; try with_reducible rfl)
        (try simp only [List.getElem_toArray, List.getElem_cons_succ, List.getElem_cons_zero, Act.put, List.setIfInBounds_toArray, List.set_cons_zero, List.set_cons_succ])
        refine wpAnyH_take (i := 15) (oi := _) (v := ?_) rfl (by kernel_rfl) (by kernel_rfl) (by kernel_rfl) (fun _ _ _ h => h) (Or.inl ⟨by rfl, ?_⟩) (by assumption) ?_
        rotate_left
        · (intro w' hSw; obtain ⟨⟨q0, q1, q2⟩, ⟨q3, q4, q5⟩⟩ := hSw; go_simp; try with_reducible rfl)
        (try simp only [List.getElem_toArray, List.getElem_cons_succ, List.getElem_cons_zero, Act.put, List.setIfInBounds_toArray, List.set_cons_zero, List.set_cons_succ])
        refine wpAnyH_take (i := 16) (oi := _) (v := ?_) rfl (by kernel_rfl) (by kernel_rfl) (by kernel_rfl) (fun _ _ _ h => h) (Or.inl ⟨by rfl, ?_⟩) (by assumption) ?_
        rotate_left
        · (intro w' hSw; obtain ⟨⟨q0, q1, q2⟩, ⟨q3, q4, q5⟩⟩ := hSw; go_simp; try with_reducible rfl)
        (try simp only [List.getElem_toArray, List.getElem_cons_succ, List.getElem_cons_zero, Act.put, List.setIfInBounds_toArray, List.set_cons_zero, List.set_cons_succ])
        refine wpAnyH_take (i := 17) (oi := _) (v := ?_) rfl (by kernel_rfl) (by kernel_rfl) (by kernel_rfl) (fun _ _ _ h => h) (Or.inl ⟨by rfl, ?_⟩) (by assumption) ?_
        rotate_left
        · (intro w' hSw; obtain ⟨⟨q0, q1, q2⟩, ⟨q3, q4, q5⟩⟩ := hSw; go_simp; try with_reducible rfl)
        (try simp only [List.getElem_toArray, List.getElem_cons_succ, List.getElem_cons_zero, Act.put, List.setIfInBounds_toArray, List.set_cons_zero, List.set_cons_succ])
        refine wpAnyH_take (i := 18) (oi := _) (v := ?_) rfl (by kernel_rfl) (by kernel_rfl) (by kernel_rfl) (fun _ _ _ h => h) (Or.inl ⟨by rfl, ?_⟩) (by assumption) ?_
        rotate_left
        · (intro w' hSw; obtain ⟨⟨q0, q1, q2⟩, ⟨q3, q4, q5⟩⟩ := hSw; go_simp; try with_reducible rfl)
        (try simp only [List.getElem_toArray, List.getElem_cons_succ, List.getElem_cons_zero, Act.put, List.setIfInBounds_toArray, List.set_cons_zero, List.set_cons_succ])
        refine wpAnyH_take (i := 19) (oi := _) (v := ?_) rfl (by kernel_rfl) (by kernel_rfl) (by kernel_rfl) (fun _ _ _ h => h) (Or.inl ⟨by rfl, ?_⟩) (by assumption) ?_
        rotate_left
        · (intro w' hSw; obtain ⟨⟨q0, q1, q2⟩, ⟨q3, q4, q5⟩⟩ := hSw; go_simp; try with_reducible rfl)
        (try simp only [List.getElem_toArray, List.getElem_cons_succ, List.getElem_cons_zero, Act.put, List.setIfInBounds_toArray, List.set_cons_zero, List.set_cons_succ])
        refine wpAnyH_ready (rs := [20]) (by kernel_rfl) (by simp) ?_
        refine AllReadyH.cons (o := _) rfl (fun K hK => ?_) AllReadyH.nil
        go_simp
        refine (sameK (HTK.out.below hd0) (HR.out.below hd0) (S11.out.below hd0) (HT.out.below hd0) rfl rfl).mono ?_
        rintro e v1 ⟨rfl, hbv1⟩
        have hd1 := hd0.then hbv1
        try dsimp only
        refine hK.out _ _ (HS.out _ hd1) (fun hS1 => ?_)
        clear hK K hbv1
        (try simp only [List.getElem_toArray, List.getElem_cons_succ, List.getElem_cons_zero, Act.put, List.setIfInBounds_toArray, List.set_cons_zero, List.set_cons_succ])
        refine wpAnyH_take (i := 21) (oi := _) (v := ?_) rfl (by kernel_rfl) (by kernel_rfl) (by kernel_rfl) (fun _ _ _ h => h) (Or.inl ⟨by rfl, ?_⟩) (by assumption) ?_
        rotate_left
        · (intro w' hSw; obtain ⟨⟨q0, q1, q2⟩, ⟨q3, q4, q5⟩⟩ := hSw; go_simp; try with_reducible rfl)
        (try simp only [List.getElem_toArray, List.getElem_cons_succ, List.getElem_cons_zero, Act.put, List.setIfInBounds_toArray, List.set_cons_zero, List.set_cons_succ])
        refine wpAnyH_take (i := 22) (oi := _) (v := ?_) rfl (by kernel_rfl) (by kernel_rfl) (by kernel_rfl) (fun _ _ _ h => h) (Or.inl ⟨by rfl, ?_⟩) (by assumption) ?_
        rotate_left
        · (intro w' hSw; obtain ⟨⟨q0, q1, q2⟩, ⟨q3, q4, q5⟩⟩ := hSw; go_simp; try with_reducible rfl)
        (try simp only [List.getElem_toArray, List.getElem_cons_succ, List.getElem_cons_zero, Act.put, List.setIfInBounds_toArray, List.set_cons_zero, List.set_cons_succ])
        refine wpAnyH_take (i := 23) (oi := _) (v := ?_) rfl (by kernel_rfl) (by kernel_rfl) (by kernel_rfl) (fun _ _ _ h => h) (Or.inl ⟨by rfl, ?_⟩) (by assumption) ?_
        rotate_left
        · (intro w' hSw; obtain ⟨⟨q0, q1, q2⟩, ⟨q3, q4, q5⟩⟩ := hSw; go_simp; try with_reducible rfl)
        (try simp only [List.getElem_toArray, List.getElem_cons_succ, List.getElem_cons_zero, Act.put, List.setIfInBounds_toArray, List.set_cons_zero, List.set_cons_succ])
        refine wpAnyH_take (i := 24) (oi := _) (v := ?_) rfl (by kernel_rfl) (by kernel_rfl) (by kernel_rfl) (fun _ _ _ h => h) (Or.inl ⟨by rfl, ?_⟩) (by assumption) ?_
        rotate_left
        · (intro w' hSw; obtain ⟨⟨q0, q1, q2⟩, ⟨q3, q4, q5⟩⟩ := hSw; go_simp; try with_reducible rfl)
        (try simp only [List.getElem_toArray, List.getElem_cons_succ, List.getElem_cons_zero, Act.put, List.setIfInBounds_toArray, List.set_cons_zero, List.set_cons_succ])
        refine wpAnyH_take (i := 25) (oi := _) (v := ?_) rfl (by kernel_rfl) (by kernel_rfl) (by kernel_rfl) (fun _ _ _ h => h) (Or.inl ⟨by rfl, ?_⟩) (by assumption) ?_
        rotate_left
        · (intro w' hSw; obtain ⟨⟨q0, q1, q2⟩, ⟨q3, q4, q5⟩⟩ := hSw; go_simp; try with_reducible rfl)
        (try simp only [List.getElem_toArray, List.getElem_cons_succ, List.getElem_cons_zero, Act.put, List.setIfInBounds_toArray, List.set_cons_zero, List.set_cons_succ])
        refine wpAnyH_take (i := 26) (oi := _) (v := ?_) rfl (by kernel_rfl) (by kernel_rfl) (by kernel_rfl) (fun _ _ _ h => h) (Or.inl ⟨by rfl, ?_⟩) (by assumption) ?_
        rotate_left
        · (intro w' hSw; obtain ⟨⟨q0, q1, q2⟩, ⟨q3, q4, q5⟩⟩ := hSw; go_simp; try with_reducible rfl)
        (try simp only [List.getElem_toArray, List.getElem_cons_succ, List.getElem_cons_zero, Act.put, List.setIfInBounds_toArray, List.set_cons_zero, List.set_cons_succ])
        refine wpAnyH_take (i := 27) (oi := _) (v := ?_) rfl (by kernel_rfl) (by kernel_rfl) (by kernel_rfl) (fun _ _ _ h => h) (Or.inl ⟨by rfl, ?_⟩) (by assumption) ?_
        rotate_left
        · (intro w' hSw; obtain ⟨⟨q0, q1, q2⟩, ⟨q3, q4, q5⟩⟩ := hSw; go_simp; try with_reducible rfl)
        (try simp only [List.getElem_toArray, List.getElem_cons_succ, List.getElem_cons_zero, Act.put, List.setIfInBounds_toArray, List.set_cons_zero, List.set_cons_succ])
        refine wpAnyH_take (i := 28) (oi := _) (v := .bool false) rfl (by kernel_rfl) (by kernel_rfl) (by kernel_rfl) (fun _ _ _ h => h) (Or.inl ⟨by rfl, ?_⟩) (by assumption) ?_
        · (intro w' hSw; obtain ⟨⟨q0, q1, q2⟩, ⟨q3, q4, q5⟩⟩ := hSw; go_simp; try (first | with_reducible rfl | (exact hqp)))
        (try simp only [List.getElem_toArray, List.getElem_cons_succ, List.getElem_cons_zero, Act.put, List.setIfInBounds_toArray, List.set_cons_zero, List.set_cons_succ])
        refine wpAnyH_take (i := 29) (oi := _) (v := ?_) rfl (by kernel_rfl) (by kernel_rfl) (by kernel_rfl) (fun _ _ _ h => h) (Or.inl ⟨by rfl, ?_⟩) (by assumption) ?_
        rotate_left
        · (intro w' hSw; obtain ⟨⟨q0, q1, q2⟩, ⟨q3, q4, q5⟩⟩ := hSw; go_simp; try with_reducible rfl)
        (try simp only [List.getElem_toArray, List.getElem_cons_succ, List.getElem_cons_zero, Act.put, List.setIfInBounds_toArray, List.set_cons_zero, List.set_cons_succ])
        refine wpAnyH_done (by kernel_rfl) (NoPanic.normal ?_) _
        replace HR := mkHid (HR.out.below hd1)
        replace HT := mkHid (HT.out.below hd1)
        replace H2 := mkHid (H2.out.below hd1)
        replace X0 := mkHid (X0.out.below hd1)
        replace X1 := mkHid (X1.out.below hd1)
        replace R2 := mkHid (R2.out.below hd1)
        replace R11 := mkHid (R11.out.below hd1)
        replace S11 := mkHid (S11.out.below hd1)
        replace P11 := mkHid (P11.out.below hd1)
        replace HTK := mkHid (HTK.out.below hd1)
        replace X9 := mkHid (X9.out.below hd1)
        replace HB := mkHid (HB.out.then hd1)
        have k0 := X0.out.lt
        obtain ⟨j00, j01, j02⟩ := X0.out
        have k1 := X1.out.lt
        obtain ⟨j10, j11, j12⟩ := X1.out
        have k9 := X9.out.lt
        obtain ⟨j90, j91, j92⟩ := X9.out
        go_wp2_with fail
        clear j00 j01 j02 j10 j11 j12 j90 j91 j92 k0 k1 k9
        refine (hget_any a cap a' ts.length cap' r p _ l HR.out (by omega) (by omega) (by omega)).mono ?_
        rintro e w10 ⟨g1, k1, rfl, rr, hw10⟩
        replace HR := mkHid (HR.out.below hw10)
        replace HT := mkHid (HT.out.below hw10)
        replace H2 := mkHid (H2.out.below hw10)
        replace X0 := mkHid (X0.out.below hw10)
        replace X1 := mkHid (X1.out.below hw10)
        replace R2 := mkHid (R2.out.below hw10)
        replace R11 := mkHid (R11.out.below hw10)
        replace S11 := mkHid (S11.out.below hw10)
        replace P11 := mkHid (P11.out.below hw10)
        replace HTK := mkHid (HTK.out.below hw10)
        replace X9 := mkHid (X9.out.below hw10)
        replace HB := mkHid (HB.out.then hw10)
        clear hw10
        have Q1 := mkHid (rr)
        clear rr
        have k0 := X0.out.lt
        obtain ⟨j00, j01, j02⟩ := X0.out
        have k1 := X1.out.lt
        obtain ⟨j10, j11, j12⟩ := X1.out
        have k9 := X9.out.lt
        obtain ⟨j90, j91, j92⟩ := X9.out
        go_wp2_with fail
        clear j00 j01 j02 j10 j11 j12 j90 j91 j92 k0 k1 k9
        refine (hget_any a11 c11 a12 ts.length c12 r p _ g R11.out (by omega) (by omega) (by omega)).mono ?_
        rintro e w11 ⟨g2, k2, rfl, rr, hw11⟩
        replace HR := mkHid (HR.out.below hw11)
        replace HT := mkHid (HT.out.below hw11)
        replace H2 := mkHid (H2.out.below hw11)
        replace X0 := mkHid (X0.out.below hw11)
        replace X1 := mkHid (X1.out.below hw11)
        replace R2 := mkHid (R2.out.below hw11)
        replace R11 := mkHid (R11.out.below hw11)
        replace S11 := mkHid (S11.out.below hw11)
        replace P11 := mkHid (P11.out.below hw11)
        replace HTK := mkHid (HTK.out.below hw11)
        replace X9 := mkHid (X9.out.below hw11)
        replace Q1 := mkHid (Q1.out.below hw11)
        replace HB := mkHid (HB.out.then hw11)
        clear hw11
        have Q2 := mkHid (rr)
        clear rr
        have HSA : Hid (0 ≤ p ∧ p < (l.length : Int) → getB g p = getB l p ∧ getL g p = getL l p) := fun h => by
          obtain ⟨k, rfl⟩ : ∃ k : Nat, p = k := ⟨p.toNat, by omega⟩
          exact get_more HMP.out.2.2 HRG.out HMO.out (by omega)
        have HGB := mkHid (Eq.refl (getB g p))
        have HGL := mkHid (Eq.refl (getL g p))
        obtain ⟨lb, hlb⟩ : ∃ x, getB l p = x := ⟨_, rfl⟩
        rw [hlb] at HSA ⊢
        obtain ⟨ll, hll⟩ : ∃ x, getL l p = x := ⟨_, rfl⟩
        rw [hll] at HSA Q1 ⊢
        clear hlb hll
        generalize hgb : getB g p = gb at HSA HGB ⊢
        generalize hgg : getL g p = gg at HSA HGL Q2 ⊢
        replace HGB := mkHid hgb
        replace HGL := mkHid hgg
        clear hgb hgg
        have k0 := X0.out.lt
        obtain ⟨j00, j01, j02⟩ := X0.out
        have k1 := X1.out.lt
        obtain ⟨j10, j11, j12⟩ := X1.out
        have k9 := X9.out.lt
        obtain ⟨j90, j91, j92⟩ := X9.out
        dsimp only
        iterate 20 (first | go_values | go_skip | go_guarded | go_step | go_upon)
        clear j00 j01 j02 j10 j11 j12 j90 j91 j92 k0 k1 k9
        generalize hA12 : Act.mk _ _ = A12
        obtain ⟨QQ, hQQ⟩ : ∃ QQ : Exit → Act → World → Prop, QQ = (fun ev A' W' => ev = .normal ∧ ∃ (e121 e122 e123 e124 e125 e126 e127 e128 e129 e130 e131 e132 e133 e134 e135 : Value), A' = (((((((((((((((A12.put (some 121) e121).put (some 122) e122).put (some 123) e123).put (some 124) e124).put (some 125) e125).put (some 126) e126).put (some 127) e127).put (some 128) e128).put (some 129) e129).put (some 130) e130).put (some 131) e131).put (some 132) e132).put (some 133) e133).put (some 134) e134).put (some 135) e135) ∧ Below w11.heap.size w11 W') := ⟨_, rfl⟩
        refine Code.wp_mono (Q := QQ) ?_ ?_
        rotate_left
        · subst hA12
          simp only [Act.put, List.setIfInBounds_toArray, List.set_cons_zero, List.set_cons_succ] at hQQ
          have HQQ := mkHid hQQ
          clear hQQ
          have HBV := mkHid (Below.refl w11.heap.size w11)
          by_cases hin : 0 ≤ p ∧ p < (l.length : Int)
          · skip
            have hd : (decide (0 ≤ p) && decide (p < (l.length : Int))) = true := by simp [hin]
            obtain ⟨e1, e2⟩ := HSA.out hin
            clear HSA
            subst e1
            subst e2
            clear HGB HGL
            cases gb with
            | false =>
              have k0 := X0.out.lt
              obtain ⟨j00, j01, j02⟩ := X0.out
              have k1 := X1.out.lt
              obtain ⟨j10, j11, j12⟩ := X1.out
              have k9 := X9.out.lt
              obtain ⟨j90, j91, j92⟩ := X9.out
              go_wp2_with fail
              clear j00 j01 j02 j10 j11 j12 j90 j91 j92 k0 k1 k9
              refine (refis_any a cap a' ts.length cap' r p _ l.length).mono ?_
              rintro e w12 ⟨rfl, hw12⟩
              replace HR := mkHid (HR.out.below hw12)
              replace HT := mkHid (HT.out.below hw12)
              replace H2 := mkHid (H2.out.below hw12)
              replace X0 := mkHid (X0.out.below hw12)
              replace X1 := mkHid (X1.out.below hw12)
              replace R2 := mkHid (R2.out.below hw12)
              replace R11 := mkHid (R11.out.below hw12)
              replace S11 := mkHid (S11.out.below hw12)
              replace P11 := mkHid (P11.out.below hw12)
              replace HTK := mkHid (HTK.out.below hw12)
              replace X9 := mkHid (X9.out.below hw12)
              replace Q1 := mkHid (Q1.out.below hw12)
              replace Q2 := mkHid (Q2.out.below hw12)
              replace HB := mkHid (HB.out.then hw12)
              replace HBV := mkHid (HBV.out.then hw12)
              clear hw12
              rw [hd]
              have k0 := X0.out.lt
              obtain ⟨j00, j01, j02⟩ := X0.out
              have k1 := X1.out.lt
              obtain ⟨j10, j11, j12⟩ := X1.out
              have k9 := X9.out.lt
              obtain ⟨j90, j91, j92⟩ := X9.out
              go_wp2_with fail
              clear j00 j01 j02 j10 j11 j12 j90 j91 j92 k0 k1 k9
              refine (sameTK Q1.out Q2.out rfl).mono ?_
              rintro e w13 ⟨rfl, hw13⟩
              replace HR := mkHid (HR.out.below hw13)
              replace HT := mkHid (HT.out.below hw13)
              replace H2 := mkHid (H2.out.below hw13)
              replace X0 := mkHid (X0.out.below hw13)
              replace X1 := mkHid (X1.out.below hw13)
              replace R2 := mkHid (R2.out.below hw13)
              replace R11 := mkHid (R11.out.below hw13)
              replace S11 := mkHid (S11.out.below hw13)
              replace P11 := mkHid (P11.out.below hw13)
              replace HTK := mkHid (HTK.out.below hw13)
              replace X9 := mkHid (X9.out.below hw13)
              replace Q1 := mkHid (Q1.out.below hw13)
              replace Q2 := mkHid (Q2.out.below hw13)
              replace HB := mkHid (HB.out.then hw13)
              replace HBV := mkHid (HBV.out.then hw13)
              clear hw13
              have k0 := X0.out.lt
              obtain ⟨j00, j01, j02⟩ := X0.out
              have k1 := X1.out.lt
              obtain ⟨j10, j11, j12⟩ := X1.out
              have k9 := X9.out.lt
              obtain ⟨j90, j91, j92⟩ := X9.out
              go_wp2_with fail
              clear j00 j01 j02 j10 j11 j12 j90 j91 j92 k0 k1 k9
              rw [HQQ.out]
              refine ⟨rfl, ?_⟩
              (repeat apply Exists.intro)
              exact ⟨rfl, HBV.out⟩
            | true =>
              have k0 := X0.out.lt
              obtain ⟨j00, j01, j02⟩ := X0.out
              have k1 := X1.out.lt
              obtain ⟨j10, j11, j12⟩ := X1.out
              have k9 := X9.out.lt
              obtain ⟨j90, j91, j92⟩ := X9.out
              go_wp2_with fail
              clear j00 j01 j02 j10 j11 j12 j90 j91 j92 k0 k1 k9
              refine (refis_any a cap a' ts.length cap' r p _ l.length).mono ?_
              rintro e w14 ⟨rfl, hw14⟩
              replace HR := mkHid (HR.out.below hw14)
              replace HT := mkHid (HT.out.below hw14)
              replace H2 := mkHid (H2.out.below hw14)
              replace X0 := mkHid (X0.out.below hw14)
              replace X1 := mkHid (X1.out.below hw14)
              replace R2 := mkHid (R2.out.below hw14)
              replace R11 := mkHid (R11.out.below hw14)
              replace S11 := mkHid (S11.out.below hw14)
              replace P11 := mkHid (P11.out.below hw14)
              replace HTK := mkHid (HTK.out.below hw14)
              replace X9 := mkHid (X9.out.below hw14)
              replace Q1 := mkHid (Q1.out.below hw14)
              replace Q2 := mkHid (Q2.out.below hw14)
              replace HB := mkHid (HB.out.then hw14)
              replace HBV := mkHid (HBV.out.then hw14)
              clear hw14
              rw [hd]
              have k0 := X0.out.lt
              obtain ⟨j00, j01, j02⟩ := X0.out
              have k1 := X1.out.lt
              obtain ⟨j10, j11, j12⟩ := X1.out
              have k9 := X9.out.lt
              obtain ⟨j90, j91, j92⟩ := X9.out
              go_wp2_with fail
              clear j00 j01 j02 j10 j11 j12 j90 j91 j92 k0 k1 k9
              refine (sameTK Q1.out Q2.out rfl).mono ?_
              rintro e w15 ⟨rfl, hw15⟩
              replace HR := mkHid (HR.out.below hw15)
              replace HT := mkHid (HT.out.below hw15)
              replace H2 := mkHid (H2.out.below hw15)
              replace X0 := mkHid (X0.out.below hw15)
              replace X1 := mkHid (X1.out.below hw15)
              replace R2 := mkHid (R2.out.below hw15)
              replace R11 := mkHid (R11.out.below hw15)
              replace S11 := mkHid (S11.out.below hw15)
              replace P11 := mkHid (P11.out.below hw15)
              replace HTK := mkHid (HTK.out.below hw15)
              replace X9 := mkHid (X9.out.below hw15)
              replace Q1 := mkHid (Q1.out.below hw15)
              replace Q2 := mkHid (Q2.out.below hw15)
              replace HB := mkHid (HB.out.then hw15)
              replace HBV := mkHid (HBV.out.then hw15)
              clear hw15
              have k0 := X0.out.lt
              obtain ⟨j00, j01, j02⟩ := X0.out
              have k1 := X1.out.lt
              obtain ⟨j10, j11, j12⟩ := X1.out
              have k9 := X9.out.lt
              obtain ⟨j90, j91, j92⟩ := X9.out
              go_wp2_with fail
              clear j00 j01 j02 j10 j11 j12 j90 j91 j92 k0 k1 k9
              rw [HQQ.out]
              refine ⟨rfl, ?_⟩
              (repeat apply Exists.intro)
              exact ⟨rfl, HBV.out⟩
          · skip
            have hd : (decide (0 ≤ p) && decide (p < (l.length : Int))) = false := by simp; omega
            have k0 := X0.out.lt
            obtain ⟨j00, j01, j02⟩ := X0.out
            have k1 := X1.out.lt
            obtain ⟨j10, j11, j12⟩ := X1.out
            have k9 := X9.out.lt
            obtain ⟨j90, j91, j92⟩ := X9.out
            go_wp2_with fail
            clear j00 j01 j02 j10 j11 j12 j90 j91 j92 k0 k1 k9
            refine (refis_any a cap a' ts.length cap' r p _ l.length).mono ?_
            rintro e w16 ⟨rfl, hw16⟩
            replace HR := mkHid (HR.out.below hw16)
            replace HT := mkHid (HT.out.below hw16)
            replace H2 := mkHid (H2.out.below hw16)
            replace X0 := mkHid (X0.out.below hw16)
            replace X1 := mkHid (X1.out.below hw16)
            replace R2 := mkHid (R2.out.below hw16)
            replace R11 := mkHid (R11.out.below hw16)
            replace S11 := mkHid (S11.out.below hw16)
            replace P11 := mkHid (P11.out.below hw16)
            replace HTK := mkHid (HTK.out.below hw16)
            replace X9 := mkHid (X9.out.below hw16)
            replace Q1 := mkHid (Q1.out.below hw16)
            replace Q2 := mkHid (Q2.out.below hw16)
            replace HB := mkHid (HB.out.then hw16)
            replace HBV := mkHid (HBV.out.then hw16)
            clear hw16
            rw [hd]
            have k0 := X0.out.lt
            obtain ⟨j00, j01, j02⟩ := X0.out
            have k1 := X1.out.lt
            obtain ⟨j10, j11, j12⟩ := X1.out
            have k9 := X9.out.lt
            obtain ⟨j90, j91, j92⟩ := X9.out
            go_wp2_with fail
            clear j00 j01 j02 j10 j11 j12 j90 j91 j92 k0 k1 k9
            rw [HQQ.out]
            refine ⟨rfl, ?_⟩
            (repeat apply Exists.intro)
            exact ⟨rfl, HBV.out⟩
        intro ev A' w17 hq
        rw [hQQ] at hq
        clear hQQ
        obtain ⟨rfl, hq⟩ := hq
        obtain ⟨e121, hq⟩ := hq
        obtain ⟨e122, hq⟩ := hq
        obtain ⟨e123, hq⟩ := hq
        obtain ⟨e124, hq⟩ := hq
        obtain ⟨e125, hq⟩ := hq
        obtain ⟨e126, hq⟩ := hq
        obtain ⟨e127, hq⟩ := hq
        obtain ⟨e128, hq⟩ := hq
        obtain ⟨e129, hq⟩ := hq
        obtain ⟨e130, hq⟩ := hq
        obtain ⟨e131, hq⟩ := hq
        obtain ⟨e132, hq⟩ := hq
        obtain ⟨e133, hq⟩ := hq
        obtain ⟨e134, hq⟩ := hq
        obtain ⟨e135, hq⟩ := hq
        obtain ⟨rfl, hb12⟩ := hq
        subst hA12
        simp only [Act.put, List.setIfInBounds_toArray, List.set_cons_zero, List.set_cons_succ]
        replace HR := mkHid (HR.out.below hb12)
        replace HT := mkHid (HT.out.below hb12)
        replace H2 := mkHid (H2.out.below hb12)
        replace X0 := mkHid (X0.out.below hb12)
        replace X1 := mkHid (X1.out.below hb12)
        replace R2 := mkHid (R2.out.below hb12)
        replace R11 := mkHid (R11.out.below hb12)
        replace S11 := mkHid (S11.out.below hb12)
        replace P11 := mkHid (P11.out.below hb12)
        replace HTK := mkHid (HTK.out.below hb12)
        replace X9 := mkHid (X9.out.below hb12)
        replace Q1 := mkHid (Q1.out.below hb12)
        replace Q2 := mkHid (Q2.out.below hb12)
        replace HB := mkHid (HB.out.then hb12)
        clear hb12 HSA
        have k0 := X0.out.lt
        obtain ⟨j00, j01, j02⟩ := X0.out
        have k1 := X1.out.lt
        obtain ⟨j10, j11, j12⟩ := X1.out
        have k9 := X9.out.lt
        obtain ⟨j90, j91, j92⟩ := X9.out
        go_wp2_with fail
        clear j00 j01 j02 j10 j11 j12 j90 j91 j92 k0 k1 k9
        have q0 : AccInv w17.heap.size 57 ([] : List Bnd) (.slice (some ⟨w17.heap.size, 0, none⟩) 0 0) (w17.alloc (.cells #[] 57)) := AccInv.made w17 (Nat.le_refl _) rfl
        have q1 : Below w17.heap.size w17 (w17.alloc (.cells #[] 57)) := (Below.refl _ _).new _
        obtain ⟨wB, hV⟩ : ∃ V, w17.alloc (.cells #[] 57) = V := ⟨_, rfl⟩
        rw [hV] at q0 q1 ⊢
        obtain ⟨GE, hG⟩ : ∃ V, w17.heap.size = V := ⟨_, rfl⟩
        rw [hG] at q0 ⊢
        have HGE := mkHid hG
        clear hV hG
        have hvs9 := varsL_few tm.flat
        refine (refvars_new c cc _ _ (H2.out.below q1) (by omega)).mono ?_
        rintro e w15 ⟨vA, vC, rfl, hn, hb⟩
        have HV0 := mkHid (q0.newer (Nat.le_refl _) hn)
        have HA0 := mkHid (q0.below hb)
        have HBX := mkHid (q1.then hb)
        clear q0 q1 hn hb
        have HVIN := mkHid (vars_range HRI.out)
        obtain ⟨vs, hvs⟩ : ∃ x, varsL tm.flat = x := ⟨_, rfl⟩
        rw [hvs] at HV0 HVIN hvs9 ⊢
        have HQV : Hid (∀ m : Nat, (m : Int) ∈ vs → m < Q.length) := fun m hm => by
          have h := widen_covers (varsL tm.flat) ps m (by rw [hvs]; exact hm)
          have := HQL.out
          omega
        have HQK : Hid (∀ (m : Nat) (hm : m < ps.length), 0 ≤ ps[m] → Q.getD m 0 = ps[m]) := fun m hm h0 => by
          have h1 := widen_keeps8 (varsL tm.flat) ps m hm
          have h2 : ps.getD m 0 = ps[m] := by rw [List.getD_eq_getElem?_getD, List.getElem?_eq_getElem hm]; rfl
          rw [h2] at h1
          rw [HPG.out.eq m (by rw [h1]; omega), h1]
        have HPS : Hid (∀ (m : Nat) (hm : m < ps.length), ps[m] = -1 ∨ 0 ≤ ps[m]) := fun m hm => by
          rcases HFO.out _ (List.getElem_mem hm) with h | h
          · exact .inl h
          · exact .inr h.1
        have HVC : Hid (∀ c ∈ tm.flat, c.k = 1 → c.n ∈ vs) := fun c hc h1 => by rw [← hvs]; exact mem_varsL hc h1
        have HVS := mkHid hvs
        clear hvs
        have hpm2 := R2.out.max
        have hpl2 := R2.out.le
        have k0 := X0.out.lt
        obtain ⟨j00, j01, j02⟩ := X0.out
        have k1 := X1.out.lt
        obtain ⟨j10, j11, j12⟩ := X1.out
        have k9 := X9.out.lt
        obtain ⟨j90, j91, j92⟩ := X9.out
        go_wp2_with fail
        clear j00 j01 j02 j10 j11 j12 j90 j91 j92 k0 k1 k9
        go_loopw [17, 19, 20, 21] (fun v i _ _ wr => ∃ m : Nat, m ≤ 1000 ∧ i = .int .i64 m ∧ Hid (BLoop wr GE g Q vs m v) ∧ Hid (Below w17.heap.size w17 wr) ∧ Hid (Row (hide v.ownBlock wr) vA vC vs)) (fun v i _ _ wr => 1001 - (intOf i).toNat)
        case atStart => exact ⟨0, by omega, rfl, ⟨HA0.out, fun n hn hlt => by have := HVIN.out n hn; omega⟩, HBX, HV0⟩
        case round =>
          clear HA0 HBX HV0
          obtain ⟨m, hm9, rfl, HL, HBr, HVr⟩ := hrel
          obtain ⟨sa, sc, rfl, hsr⟩ := HL.out.acc.row
          have hsm := hsr.max
          have hsl := hsr.le
          have HSR := mkHid hsr
          clear hsr
          have hvr := HVr.out.keeps (hide_keeps _ _)
          have hvm := hvr.max
          have hvl := hvr.le
          clear hvr
          have hbl := bindsK_len (fun n : Int => getL g (Q.getD n.toNat 0)) vs m
          obtain ⟨bs, hbs⟩ : ∃ x, bindsK (fun n : Int => getL g (Q.getD n.toNat 0)) vs m = x := ⟨_, rfl⟩
          rw [hbs] at hbl hsl HSR HVr HL ⊢
          have HBS := mkHid hbs
          clear hbs
          by_cases h9 : m = 1000
          rotate_left
          · skip
            have h99 : (m : Int) ≤ 999 := by omega
            go_wp2_with fail
            refine (refin_any vA vC m _ vs (HVr.out.keeps (hide_keeps _ _))).mono ?_
            rintro e w2 ⟨rfl, hb2⟩
            have HL2 := mkHid (HL.out.below hb2)
            have HBr2 := mkHid (HBr.out.then hb2)
            have HVr2 := mkHid (HVr.out.keeps (below_hide hb2 _))
            clear HL HBr HVr
            clear hb2
            by_cases hin : (m : Int) ∈ vs
            rotate_left
            · (have HN := mkHid (HL2.out.skip hin)
               rw [decide_eq_false hin]
               clear hin
               go_wp2_with fail
               go_round
               case rel => exact ⟨m + 1, by omega, by go_num, HN, HBr2, HVr2⟩
               case measure => simp [intOf]; omega)
            have hmq := HQV.out m hin
            rw [decide_eq_true hin]
            have HIN := mkHid hin
            clear hin
            obtain ⟨qb, qo, e9, hE⟩ := (P11.out.below HBr2.out).at_ m _ (List.getElem?_eq_getElem hmq)
            obtain ⟨hE0, hz1, hz2⟩ : IntE _ _ _ _ := hE
            rw [show Rep.sz Int = 1 from rfl, Nat.mul_one] at hE0
            have HZ : Hid (Q.getD m 0 = Q[m]) := by rw [Hid, List.getD_eq_getElem?_getD, List.getElem?_eq_getElem hmq]; rfl
            obtain ⟨z, hz⟩ : ∃ z, Q[m] = z := ⟨_, rfl⟩
            rw [hz] at hE0 hz1 hz2 HZ
            clear hz
            have CQ := mkHid hE0
            clear hE0
            have HE9 := mkHid e9
            subst e9
            by_cases hps : m < ps.length
            rotate_left
            · skip
              go_wp2_with fail
              have HS : Hid (∀ X, Below w2.heap.size w2 X → (fun X => X.cell? ⟨qb, qo + m, none⟩ = some (.int .i64 z)) X) := fun X h => keep CQ.out h
              have hd0 : Below w2.heap.size w2 w2.drew := (Below.refl _ _).drew
              refine wp_region_noPanic ?_
              refine wp_region_held_drew (S := fun X => X.cell? ⟨qb, qo + m, none⟩ = some (.int .i64 z)) (by kernel_rfl) (HS.out _ hd0) (fun hSd => ?_)
              obtain ⟨v0, hx0⟩ : ∃ X, w2.drew = X := ⟨_, rfl⟩
              rw [hx0] at hd0 hSd ⊢
              clear hx0
              refine wpAnyH_take (i := 0) (oi := _) (v := ?_) rfl (by kernel_rfl) (by kernel_rfl) (by kernel_rfl) (fun _ _ _ h => h) (Or.inl ⟨by rfl, ?_⟩) (by assumption) ?_
              rotate_left
              · (intro w' hSw; obtain q3 := hSw; go_simp; try with_reducible rfl)
              (try simp only [List.getElem_toArray, List.getElem_cons_succ, List.getElem_cons_zero, Act.put, List.setIfInBounds_toArray, List.set_cons_zero, List.set_cons_succ])
              refine wpAnyH_take (i := 1) (oi := _) (v := ?_) rfl (by kernel_rfl) (by kernel_rfl) (by kernel_rfl) (fun _ _ _ h => h) (Or.inl ⟨by rfl, ?_⟩) (by assumption) ?_
              rotate_left
              · (intro w' hSw; obtain q3 := hSw; go_simp; try with_reducible rfl)
              (try simp only [List.getElem_toArray, List.getElem_cons_succ, List.getElem_cons_zero, Act.put, List.setIfInBounds_toArray, List.set_cons_zero, List.set_cons_succ])
              refine wpAnyH_take (i := 2) (oi := _) (v := ?_) rfl (by kernel_rfl) (by kernel_rfl) (by kernel_rfl) (fun _ _ _ h => h) (Or.inl ⟨by rfl, ?_⟩) (by assumption) ?_
              rotate_left
              · (intro w' hSw; obtain q3 := hSw; go_simp; try with_reducible rfl)
              (try simp only [List.getElem_toArray, List.getElem_cons_succ, List.getElem_cons_zero, Act.put, List.setIfInBounds_toArray, List.set_cons_zero, List.set_cons_succ])
              refine wpAnyH_take (i := 3) (oi := _) (v := .bool false) rfl (by kernel_rfl) (by kernel_rfl) (by kernel_rfl) (fun _ _ _ h => h) (Or.inl ⟨by rfl, ?_⟩) (by assumption) ?_
              · (intro w' hSw; obtain q3 := hSw; go_simp; try (first | with_reducible rfl | (simp; omega)))
              (try simp only [List.getElem_toArray, List.getElem_cons_succ, List.getElem_cons_zero, Act.put, List.setIfInBounds_toArray, List.set_cons_zero, List.set_cons_succ])
              refine wpAnyH_take (i := 4) (oi := _) (v := ?_) rfl (by kernel_rfl) (by kernel_rfl) (by kernel_rfl) (fun _ _ _ h => h) (Or.inl ⟨by rfl, ?_⟩) (by assumption) ?_
              rotate_left
              · (intro w' hSw; obtain q3 := hSw; go_simp; try with_reducible rfl)
              (try simp only [List.getElem_toArray, List.getElem_cons_succ, List.getElem_cons_zero, Act.put, List.setIfInBounds_toArray, List.set_cons_zero, List.set_cons_succ])
              refine wpAnyH_take (i := 5) (oi := _) (v := ?_) rfl (by kernel_rfl) (by kernel_rfl) (by kernel_rfl) (fun _ _ _ h => h) (Or.inl ⟨by rfl, ?_⟩) (by assumption) ?_
              rotate_left
              · (intro w' hSw; obtain q3 := hSw; go_simp; try with_reducible rfl)
              (try simp only [List.getElem_toArray, List.getElem_cons_succ, List.getElem_cons_zero, Act.put, List.setIfInBounds_toArray, List.set_cons_zero, List.set_cons_succ])
              refine wpAnyH_take (i := 6) (oi := _) (v := ?_) rfl (by kernel_rfl) (by kernel_rfl) (by kernel_rfl) (fun _ _ _ h => h) (Or.inl ⟨by rfl, ?_⟩) (by assumption) ?_
              rotate_left
              · (intro w' hSw; obtain q3 := hSw; go_simp; try with_reducible rfl)
              (try simp only [List.getElem_toArray, List.getElem_cons_succ, List.getElem_cons_zero, Act.put, List.setIfInBounds_toArray, List.set_cons_zero, List.set_cons_succ])
              refine wpAnyH_take (i := 7) (oi := _) (v := ?_) rfl (by kernel_rfl) (by kernel_rfl) (by kernel_rfl) (fun _ _ _ h => h) (Or.inl ⟨by rfl, ?_⟩) (by assumption) ?_
              rotate_left
              · (intro w' hSw; obtain q3 := hSw; go_simp; try with_reducible rfl)
              (try simp only [List.getElem_toArray, List.getElem_cons_succ, List.getElem_cons_zero, Act.put, List.setIfInBounds_toArray, List.set_cons_zero, List.set_cons_succ])
              refine wpAnyH_take (i := 8) (oi := _) (v := .bool false) rfl (by kernel_rfl) (by kernel_rfl) (by kernel_rfl) (fun _ _ _ h => h) (Or.inl ⟨by rfl, ?_⟩) (by assumption) ?_
              · (intro w' hSw; obtain q3 := hSw; go_simp; try (first | with_reducible rfl | (simp; omega)))
              (try simp only [List.getElem_toArray, List.getElem_cons_succ, List.getElem_cons_zero, Act.put, List.setIfInBounds_toArray, List.set_cons_zero, List.set_cons_succ])
              refine wpAnyH_take (i := 9) (oi := _) (v := ?_) rfl (by kernel_rfl) (by kernel_rfl) (by kernel_rfl) (fun _ _ _ h => h) (Or.inl ⟨by rfl, ?_⟩) (by assumption) ?_
              rotate_left
              · (intro w' hSw; obtain q3 := hSw; go_simp; try with_reducible rfl)
              (try simp only [List.getElem_toArray, List.getElem_cons_succ, List.getElem_cons_zero, Act.put, List.setIfInBounds_toArray, List.set_cons_zero, List.set_cons_succ])
              refine wpAnyH_take (i := 10) (oi := _) (v := undef) rfl (by kernel_rfl) (by kernel_rfl) (by kernel_rfl) (fun _ _ _ h => h) (Or.inr ⟨by kernel_rfl, rfl⟩) (by assumption) ?_
              (try simp only [List.getElem_toArray, List.getElem_cons_succ, List.getElem_cons_zero, Act.put, List.setIfInBounds_toArray, List.set_cons_zero, List.set_cons_succ])
              refine wpAnyH_take (i := 11) (oi := _) (v := undef) rfl (by kernel_rfl) (by kernel_rfl) (by kernel_rfl) (fun _ _ _ h => h) (Or.inr ⟨by kernel_rfl, rfl⟩) (by assumption) ?_
              (try simp only [List.getElem_toArray, List.getElem_cons_succ, List.getElem_cons_zero, Act.put, List.setIfInBounds_toArray, List.set_cons_zero, List.set_cons_succ])
              refine wpAnyH_take (i := 12) (oi := _) (v := undef) rfl (by kernel_rfl) (by kernel_rfl) (by kernel_rfl) (fun _ _ _ h => h) (Or.inr ⟨by kernel_rfl, rfl⟩) (by assumption) ?_
              (try simp only [List.getElem_toArray, List.getElem_cons_succ, List.getElem_cons_zero, Act.put, List.setIfInBounds_toArray, List.set_cons_zero, List.set_cons_succ])
              refine wpAnyH_take (i := 13) (oi := _) (v := undef) rfl (by kernel_rfl) (by kernel_rfl) (by kernel_rfl) (fun _ _ _ h => h) (Or.inr ⟨by kernel_rfl, rfl⟩) (by assumption) ?_
              (try simp only [List.getElem_toArray, List.getElem_cons_succ, List.getElem_cons_zero, Act.put, List.setIfInBounds_toArray, List.set_cons_zero, List.set_cons_succ])
              refine wpAnyH_take (i := 14) (oi := _) (v := undef) rfl (by kernel_rfl) (by kernel_rfl) (by kernel_rfl) (fun _ _ _ h => h) (Or.inr ⟨by kernel_rfl, rfl⟩) (by assumption) ?_
              (try simp only [List.getElem_toArray, List.getElem_cons_succ, List.getElem_cons_zero, Act.put, List.setIfInBounds_toArray, List.set_cons_zero, List.set_cons_succ])
              refine wpAnyH_take (i := 15) (oi := _) (v := ?_) rfl (by kernel_rfl) (by kernel_rfl) (by kernel_rfl) (fun _ _ _ h => h) (Or.inl ⟨by rfl, ?_⟩) (by assumption) ?_
              rotate_left
              · (intro w' hSw; obtain q3 := hSw; go_simp; try with_reducible rfl)
              (try simp only [List.getElem_toArray, List.getElem_cons_succ, List.getElem_cons_zero, Act.put, List.setIfInBounds_toArray, List.set_cons_zero, List.set_cons_succ])
              refine wpAnyH_take (i := 16) (oi := _) (v := ?_) rfl (by kernel_rfl) (by kernel_rfl) (by kernel_rfl) (fun _ _ _ h => h) (Or.inl ⟨by rfl, ?_⟩) (by assumption) ?_
              rotate_left
              · (intro w' hSw; obtain q3 := hSw; go_simp; try with_reducible rfl)
              (try simp only [List.getElem_toArray, List.getElem_cons_succ, List.getElem_cons_zero, Act.put, List.setIfInBounds_toArray, List.set_cons_zero, List.set_cons_succ])
              refine wpAnyH_take (i := 17) (oi := _) (v := undef) rfl (by kernel_rfl) (by kernel_rfl) (by kernel_rfl) (fun _ _ _ h => h) (Or.inr ⟨by kernel_rfl, rfl⟩) (by assumption) ?_
              (try simp only [List.getElem_toArray, List.getElem_cons_succ, List.getElem_cons_zero, Act.put, List.setIfInBounds_toArray, List.set_cons_zero, List.set_cons_succ])
              refine wpAnyH_take (i := 18) (oi := _) (v := undef) rfl (by kernel_rfl) (by kernel_rfl) (by kernel_rfl) (fun _ _ _ h => h) (Or.inr ⟨by kernel_rfl, rfl⟩) (by assumption) ?_
              (try simp only [List.getElem_toArray, List.getElem_cons_succ, List.getElem_cons_zero, Act.put, List.setIfInBounds_toArray, List.set_cons_zero, List.set_cons_succ])
              refine wpAnyH_take (i := 19) (oi := _) (v := undef) rfl (by kernel_rfl) (by kernel_rfl) (by kernel_rfl) (fun _ _ _ h => h) (Or.inr ⟨by kernel_rfl, rfl⟩) (by assumption) ?_
              (try simp only [List.getElem_toArray, List.getElem_cons_succ, List.getElem_cons_zero, Act.put, List.setIfInBounds_toArray, List.set_cons_zero, List.set_cons_succ])
              refine wpAnyH_take (i := 20) (oi := _) (v := undef) rfl (by kernel_rfl) (by kernel_rfl) (by kernel_rfl) (fun _ _ _ h => h) (Or.inr ⟨by kernel_rfl, rfl⟩) (by assumption) ?_
              (try simp only [List.getElem_toArray, List.getElem_cons_succ, List.getElem_cons_zero, Act.put, List.setIfInBounds_toArray, List.set_cons_zero, List.set_cons_succ])
              refine wpAnyH_take (i := 21) (oi := _) (v := undef) rfl (by kernel_rfl) (by kernel_rfl) (by kernel_rfl) (fun _ _ _ h => h) (Or.inr ⟨by kernel_rfl, rfl⟩) (by assumption) ?_
              (try simp only [List.getElem_toArray, List.getElem_cons_succ, List.getElem_cons_zero, Act.put, List.setIfInBounds_toArray, List.set_cons_zero, List.set_cons_succ])
              refine wpAnyH_take (i := 22) (oi := _) (v := undef) rfl (by kernel_rfl) (by kernel_rfl) (by kernel_rfl) (fun _ _ _ h => h) (Or.inr ⟨by kernel_rfl, rfl⟩) (by assumption) ?_
              (try simp only [List.getElem_toArray, List.getElem_cons_succ, List.getElem_cons_zero, Act.put, List.setIfInBounds_toArray, List.set_cons_zero, List.set_cons_succ])
              refine wpAnyH_take (i := 23) (oi := _) (v := undef) rfl (by kernel_rfl) (by kernel_rfl) (by kernel_rfl) (fun _ _ _ h => h) (Or.inr ⟨by kernel_rfl, rfl⟩) (by assumption) ?_
              (try simp only [List.getElem_toArray, List.getElem_cons_succ, List.getElem_cons_zero, Act.put, List.setIfInBounds_toArray, List.set_cons_zero, List.set_cons_succ])
              refine wpAnyH_take (i := 24) (oi := _) (v := undef) rfl (by kernel_rfl) (by kernel_rfl) (by kernel_rfl) (fun _ _ _ h => h) (Or.inr ⟨by kernel_rfl, rfl⟩) (by assumption) ?_
              (try simp only [List.getElem_toArray, List.getElem_cons_succ, List.getElem_cons_zero, Act.put, List.setIfInBounds_toArray, List.set_cons_zero, List.set_cons_succ])
              refine wpAnyH_take (i := 25) (oi := _) (v := undef) rfl (by kernel_rfl) (by kernel_rfl) (by kernel_rfl) (fun _ _ _ h => h) (Or.inr ⟨by kernel_rfl, rfl⟩) (by assumption) ?_
              (try simp only [List.getElem_toArray, List.getElem_cons_succ, List.getElem_cons_zero, Act.put, List.setIfInBounds_toArray, List.set_cons_zero, List.set_cons_succ])
              refine wpAnyH_take (i := 26) (oi := _) (v := ?_) rfl (by kernel_rfl) (by kernel_rfl) (by kernel_rfl) (fun _ _ _ h => h) (Or.inl ⟨by rfl, ?_⟩) (by assumption) ?_
              rotate_left
              · (intro w' hSw; obtain q3 := hSw; go_simp; try with_reducible rfl)
              (try simp only [List.getElem_toArray, List.getElem_cons_succ, List.getElem_cons_zero, Act.put, List.setIfInBounds_toArray, List.set_cons_zero, List.set_cons_succ])
              refine wpAnyH_take (i := 27) (oi := _) (v := ?_) rfl (by kernel_rfl) (by kernel_rfl) (by kernel_rfl) (fun _ _ _ h => h) (Or.inl ⟨by rfl, ?_⟩) (by assumption) ?_
              rotate_left
              · (intro w' hSw; obtain q3 := hSw; go_simp; try with_reducible rfl)
              (try simp only [List.getElem_toArray, List.getElem_cons_succ, List.getElem_cons_zero, Act.put, List.setIfInBounds_toArray, List.set_cons_zero, List.set_cons_succ])
              refine wpAnyH_done (by kernel_rfl) (NoPanic.normal ?_) _
              have HL3 := mkHid (HL2.out.below hd0)
              have HBr3 := mkHid (HBr2.out.then hd0)
              have HVr3 := mkHid (HVr2.out.keeps (below_hide hd0 _))
              clear HL2 HBr2 HVr2
              have CQ3 := mkHid (keep CQ.out hd0)
              clear HS CQ
              obtain ⟨w3, hw3⟩ : ∃ V, v0 = V := ⟨_, rfl⟩
              rw [hw3] at HL3 HBr3 HVr3 CQ3 ⊢
              clear hw3
              go_wp2_with fail
              have KS : Hid (∀ X, Below w3.heap.size w3 X → (fun X => C38 X G9 (.slice a11 g.length c11) (.slice a12 ts.length c12) (.int .i64 r) ∧ X.cell? ⟨qb, qo + m, none⟩ = some (.int .i64 z)) X) := fun X h => ⟨(X9.out.below HBr3.out).below h, keep CQ3.out h⟩
              have ke0 : Below w3.heap.size w3 w3.drew := (Below.refl _ _).drew
              refine wp_region_noPanic ?_
              refine wp_region_held_drew (S := fun X => C38 X G9 (.slice a11 g.length c11) (.slice a12 ts.length c12) (.int .i64 r) ∧ X.cell? ⟨qb, qo + m, none⟩ = some (.int .i64 z)) (by kernel_rfl) (KS.out _ ke0) (fun hSd => ?_)
              obtain ⟨x0, kx0⟩ : ∃ X, w3.drew = X := ⟨_, rfl⟩
              rw [kx0] at ke0 hSd ⊢
              clear kx0
              refine wpAnyH_take (i := 0) (oi := _) (v := ?_) rfl (by kernel_rfl) (by kernel_rfl) (by kernel_rfl) (fun _ _ _ h => h) (Or.inl ⟨by rfl, ?_⟩) (by assumption) ?_
              rotate_left
              · (intro w' hSw; obtain ⟨⟨q0, q1, q2⟩, q3⟩ := hSw; go_simp; try with_reducible rfl)
              (try simp only [List.getElem_toArray, List.getElem_cons_succ, List.getElem_cons_zero, Act.put, List.setIfInBounds_toArray, List.set_cons_zero, List.set_cons_succ])
              refine wpAnyH_take (i := 1) (oi := _) (v := ?_) rfl (by kernel_rfl) (by kernel_rfl) (by kernel_rfl) (fun _ _ _ h => h) (Or.inl ⟨by rfl, ?_⟩) (by assumption) ?_
              rotate_left
              · (intro w' hSw; obtain ⟨⟨q0, q1, q2⟩, q3⟩ := hSw; go_simp; try with_reducible rfl)
              (try simp only [List.getElem_toArray, List.getElem_cons_succ, List.getElem_cons_zero, Act.put, List.setIfInBounds_toArray, List.set_cons_zero, List.set_cons_succ])
              refine wpAnyH_take (i := 2) (oi := _) (v := ?_) rfl (by kernel_rfl) (by kernel_rfl) (by kernel_rfl) (fun _ _ _ h => h) (Or.inl ⟨by rfl, ?_⟩) (by assumption) ?_
              rotate_left
              · (intro w' hSw; obtain ⟨⟨q0, q1, q2⟩, q3⟩ := hSw; go_simp; try with_reducible rfl)
              (try simp only [List.getElem_toArray, List.getElem_cons_succ, List.getElem_cons_zero, Act.put, List.setIfInBounds_toArray, List.set_cons_zero, List.set_cons_succ])
              refine wpAnyH_take (i := 3) (oi := _) (v := ?_) rfl (by kernel_rfl) (by kernel_rfl) (by kernel_rfl) (fun _ _ _ h => h) (Or.inl ⟨by rfl, ?_⟩) (by assumption) ?_
              rotate_left
              · (intro w' hSw; obtain ⟨⟨q0, q1, q2⟩, q3⟩ := hSw; go_simp; try with_reducible rfl)
              (try simp only [List.getElem_toArray, List.getElem_cons_succ, List.getElem_cons_zero, Act.put, List.setIfInBounds_toArray, List.set_cons_zero, List.set_cons_succ])
              refine wpAnyH_take (i := 4) (oi := _) (v := ?_) rfl (by kernel_rfl) (by kernel_rfl) (by kernel_rfl) (fun _ _ _ h => h) (Or.inl ⟨by rfl, ?_⟩) (by assumption) ?_
              rotate_left
              · (intro w' hSw; obtain ⟨⟨q0, q1, q2⟩, q3⟩ := hSw; go_simp; try with_reducible rfl)
              (try simp only [List.getElem_toArray, List.getElem_cons_succ, List.getElem_cons_zero, Act.put, List.setIfInBounds_toArray, List.set_cons_zero, List.set_cons_succ])
              refine wpAnyH_ready (rs := [5]) (by kernel_rfl) (by simp) ?_
              refine AllReadyH.cons (o := _) rfl (fun K hK => ?_) AllReadyH.nil
              go_simp
              refine (hget_new a11 c11 a12 ts.length c12 r z _ g (R11.out.below (HBr3.out.then ke0)) (by omega) (by omega) (by omega)).mono ?_
              rintro e x1 ⟨ga, gc, rfl, hgn, hbv1⟩
              have ke1 := ke0.then hbv1
              have HGN := mkHid hgn
              clear hgn
              try dsimp only
              refine hK.out _ _ (KS.out _ ke1) (fun kS1 => ?_)
              clear hK K hbv1
              (try simp only [List.getElem_toArray, List.getElem_cons_succ, List.getElem_cons_zero, Act.put, List.setIfInBounds_toArray, List.set_cons_zero, List.set_cons_succ])
              refine wpAnyH_take (i := 6) (oi := _) (v := ?_) rfl (by kernel_rfl) (by kernel_rfl) (by kernel_rfl) (fun _ _ _ h => h) (Or.inl ⟨by rfl, ?_⟩) (by assumption) ?_
              rotate_left
              · (intro w' hSw; obtain ⟨⟨q0, q1, q2⟩, q3⟩ := hSw; go_simp; try with_reducible rfl)
              (try simp only [List.getElem_toArray, List.getElem_cons_succ, List.getElem_cons_zero, Act.put, List.setIfInBounds_toArray, List.set_cons_zero, List.set_cons_succ])
              refine wpAnyH_take (i := 7) (oi := _) (v := ?_) rfl (by kernel_rfl) (by kernel_rfl) (by kernel_rfl) (fun _ _ _ h => h) (Or.inl ⟨by rfl, ?_⟩) (by assumption) ?_
              rotate_left
              · (intro w' hSw; obtain ⟨⟨q0, q1, q2⟩, q3⟩ := hSw; go_simp; try with_reducible rfl)
              (try simp only [List.getElem_toArray, List.getElem_cons_succ, List.getElem_cons_zero, Act.put, List.setIfInBounds_toArray, List.set_cons_zero, List.set_cons_succ])
              refine wpAnyH_take (i := 8) (oi := _) (v := ?_) rfl (by kernel_rfl) (by kernel_rfl) (by kernel_rfl) (fun _ _ _ h => h) (Or.inl ⟨by rfl, ?_⟩) (by assumption) ?_
              rotate_left
              · (intro w' hSw; obtain ⟨⟨q0, q1, q2⟩, q3⟩ := hSw; go_simp; try with_reducible rfl)
              (try simp only [List.getElem_toArray, List.getElem_cons_succ, List.getElem_cons_zero, Act.put, List.setIfInBounds_toArray, List.set_cons_zero, List.set_cons_succ])
              refine wpAnyH_take (i := 9) (oi := _) (v := ?_) rfl (by kernel_rfl) (by kernel_rfl) (by kernel_rfl) (fun _ _ _ h => h) (Or.inl ⟨by rfl, ?_⟩) (by assumption) ?_
              rotate_left
              · (intro w' hSw; obtain ⟨⟨q0, q1, q2⟩, q3⟩ := hSw; go_simp; try with_reducible rfl)
              (try simp only [List.getElem_toArray, List.getElem_cons_succ, List.getElem_cons_zero, Act.put, List.setIfInBounds_toArray, List.set_cons_zero, List.set_cons_succ])
              refine wpAnyH_take (i := 10) (oi := _) (v := ?_) rfl (by kernel_rfl) (by kernel_rfl) (by kernel_rfl) (fun _ _ _ h => h) (Or.inl ⟨by rfl, ?_⟩) (by assumption) ?_
              rotate_left
              · (intro w' hSw; obtain ⟨⟨q0, q1, q2⟩, q3⟩ := hSw; go_simp; try with_reducible rfl)
              (try simp only [List.getElem_toArray, List.getElem_cons_succ, List.getElem_cons_zero, Act.put, List.setIfInBounds_toArray, List.set_cons_zero, List.set_cons_succ])
              refine wpAnyH_done (by kernel_rfl) (NoPanic.normal ?_) _
              have HGR := mkHid ((HL3.out.acc.below ke0).newer (Nat.le_refl _) HGN.out)
              have HL4 := mkHid (HL3.out.below ke1)
              have HBr4 := mkHid (HBr3.out.then ke1)
              have HVr4 := mkHid (HVr3.out.keeps (below_hide ke1 _))
              clear HL3 HBr3 HVr3
              clear KS
              have hgsh := got_short (l := g) (i := z)
              obtain ⟨gl, hgl⟩ : ∃ x, getL g z = x := ⟨_, rfl⟩
              rw [hgl] at HGR HGN hgsh ⊢
              have HGL := mkHid hgl
              clear hgl
              have hglm := HGN.out.row.max
              have hgll := HGN.out.row.le
              cases hgb : getB g z with
              | false =>
                clear hgb
                go_wp2_with fail
                go_ret
                exact ⟨ret_bool rfl, HB.out.then HBr4.out⟩
              | true =>
                have HGB2 := mkHid hgb
                clear hgb
                go_wp2_with fail
                refine (v8_any m _).mono ?_
                rintro e w5 ⟨rfl, hb5⟩
                have HL5 := mkHid (HL4.out.below hb5)
                have HBr5 := mkHid (HBr4.out.then hb5)
                have HVr5 := mkHid (HVr4.out.keeps (below_hide hb5 _))
                clear HL4 HBr4 HVr4
                have HGR5 := mkHid (HGR.out.keeps (below_hide hb5 _))
                clear HGR hb5
                go_wp2_with fail
                have hro := cellsH w5 [⟨1, ⟨#[]⟩, (m : Int)⟩] 1 #[.int .i64 1, .string ⟨#[]⟩, .int .i64 m] (by simp [flat]) rfl (by simp [fitB, ByteArray.size]; omega) (by simp) 54
                have hb6 := (Below.refl w5.heap.size w5).new (.cells #[.int .i64 1, .string ⟨#[]⟩, .int .i64 m] 54)
                obtain ⟨w6, hV6⟩ : ∃ V, w5.alloc (.cells #[.int .i64 1, .string ⟨#[]⟩, .int .i64 m] 54) = V := ⟨_, rfl⟩
                rw [hV6] at hro hb6 ⊢
                clear hV6
                have HL6 := mkHid (HL5.out.below hb6)
                have HBr6 := mkHid (HBr5.out.then hb6)
                have HVr6 := mkHid (HVr5.out.keeps (below_hide hb6 _))
                clear HL5 HBr5 HVr5
                have HGR6 := mkHid (HGR5.out.keeps (below_hide hb6 _))
                clear HGR5 hb6
                refine (refsame_any ga gc _ _ w6 gl [⟨1, ⟨#[]⟩, (m : Int)⟩] (HGR6.out.keeps (hide_keeps _ _)) hro).mono ?_
                rintro e w7 ⟨rfl, hb7⟩
                have HL7 := mkHid (HL6.out.below hb7)
                have HBr7 := mkHid (HBr6.out.then hb7)
                have HVr7 := mkHid (HVr6.out.keeps (below_hide hb7 _))
                clear HL6 HBr6 HVr6
                have HGR7 := mkHid (HGR6.out.keeps (below_hide hb7 _))
                clear HGR6 hb7 hro
                by_cases hsm7 : gl = [⟨1, ⟨#[]⟩, (m : Int)⟩]
                · skip
                  rw [decide_eq_true hsm7]
                  have HN := mkHid (HL7.out.own HZ.out HGB2.out (HGL.out.trans hsm7))
                  clear hsm7
                  go_wp2_with fail
                  go_round
                  case rel => exact ⟨m + 1, by omega, by go_num, HN, HBr7, HVr7⟩
                  case measure => simp [intOf]; omega
                · skip
                  rw [decide_eq_false hsm7]
                  have HNE := mkHid hsm7
                  clear hsm7
                  have hacc := HL7.out.acc
                  rw [HBS.out] at hacc
                  have HACC := mkHid hacc
                  clear hacc
                  have hmL : (-9223372036854775808 : Int) ≤ m := by omega
                  have hmU : (m : Int) ≤ 9223372036854775807 := by omega
                  have hge : GE ≤ w7.heap.size := by rw [← HGE.out]; exact HBr7.out.size
                  go_wp2_with (at_builtin; refine wpList_acck (α := Bnd) rfl _ _ 50 rfl GE 57 32 _ Try.underlying50 Try.infoBind rfl (by decide) _ bs HACC.out (by rfl) _ #[.int .i64 m, .slice ga gl.length gc] ⟨(m : Int), gl⟩ ⟨⟨ga, gc, rfl, HGR7.out⟩, hmL, hmU⟩ (by rfl) (by omega) hge ?_; intro v8 w8 hacc8 hb8 hk8)
                  go_round
                  case rel => exact ⟨m + 1, by omega, by go_num, HL7.out.put HZ.out HGB2.out HIN.out (by rw [HGL.out]; exact HNE.out) (by rw [HBS.out, HGL.out]; exact hacc8), HBr7.out.trans (by rw [HGE.out]; exact hb8), HVr7.out.keeps hk8⟩
                  case measure => simp [intOf]; omega
            obtain ⟨pb, po, e8, hE⟩ := (R2.out.below HBr2.out).at_ m _ (List.getElem?_eq_getElem hps)
            obtain ⟨hE0, _, _⟩ : IntE _ _ _ _ := hE
            rw [show Rep.sz Int = 1 from rfl, Nat.mul_one] at hE0
            subst e8
            rcases HPS.out m hps with hy | hy
            · skip
              rw [hy] at hE0
              have CP := mkHid hE0
              clear hE0 hy
              go_wp2_with fail
              have HS : Hid (∀ X, Below w2.heap.size w2 X → (fun X => X.cell? ⟨qb, qo + m, none⟩ = some (.int .i64 z) ∧ X.cell? ⟨pb, po + m, none⟩ = some (.int .i64 (-1))) X) := fun X h => ⟨keep CQ.out h, keep CP.out h⟩
              have hd0 : Below w2.heap.size w2 w2.drew := (Below.refl _ _).drew
              refine wp_region_noPanic ?_
              refine wp_region_held_drew (S := fun X => X.cell? ⟨qb, qo + m, none⟩ = some (.int .i64 z) ∧ X.cell? ⟨pb, po + m, none⟩ = some (.int .i64 (-1))) (by kernel_rfl) (HS.out _ hd0) (fun hSd => ?_)
              obtain ⟨v0, hx0⟩ : ∃ X, w2.drew = X := ⟨_, rfl⟩
              rw [hx0] at hd0 hSd ⊢
              clear hx0
              refine wpAnyH_take (i := 0) (oi := _) (v := ?_) rfl (by kernel_rfl) (by kernel_rfl) (by kernel_rfl) (fun _ _ _ h => h) (Or.inl ⟨by rfl, ?_⟩) (by assumption) ?_
              rotate_left
              · (intro w' hSw; obtain ⟨q3, q4⟩ := hSw; go_simp; try with_reducible rfl)
              (try simp only [List.getElem_toArray, List.getElem_cons_succ, List.getElem_cons_zero, Act.put, List.setIfInBounds_toArray, List.set_cons_zero, List.set_cons_succ])
              refine wpAnyH_take (i := 1) (oi := _) (v := ?_) rfl (by kernel_rfl) (by kernel_rfl) (by kernel_rfl) (fun _ _ _ h => h) (Or.inl ⟨by rfl, ?_⟩) (by assumption) ?_
              rotate_left
              · (intro w' hSw; obtain ⟨q3, q4⟩ := hSw; go_simp; try with_reducible rfl)
              (try simp only [List.getElem_toArray, List.getElem_cons_succ, List.getElem_cons_zero, Act.put, List.setIfInBounds_toArray, List.set_cons_zero, List.set_cons_succ])
              refine wpAnyH_take (i := 2) (oi := _) (v := ?_) rfl (by kernel_rfl) (by kernel_rfl) (by kernel_rfl) (fun _ _ _ h => h) (Or.inl ⟨by rfl, ?_⟩) (by assumption) ?_
              rotate_left
              · (intro w' hSw; obtain ⟨q3, q4⟩ := hSw; go_simp; try with_reducible rfl)
              (try simp only [List.getElem_toArray, List.getElem_cons_succ, List.getElem_cons_zero, Act.put, List.setIfInBounds_toArray, List.set_cons_zero, List.set_cons_succ])
              refine wpAnyH_take (i := 3) (oi := _) (v := .bool false) rfl (by kernel_rfl) (by kernel_rfl) (by kernel_rfl) (fun _ _ _ h => h) (Or.inl ⟨by rfl, ?_⟩) (by assumption) ?_
              · (intro w' hSw; obtain ⟨q3, q4⟩ := hSw; go_simp; try (first | with_reducible rfl | (simp; omega)))
              (try simp only [List.getElem_toArray, List.getElem_cons_succ, List.getElem_cons_zero, Act.put, List.setIfInBounds_toArray, List.set_cons_zero, List.set_cons_succ])
              refine wpAnyH_take (i := 4) (oi := _) (v := ?_) rfl (by kernel_rfl) (by kernel_rfl) (by kernel_rfl) (fun _ _ _ h => h) (Or.inl ⟨by rfl, ?_⟩) (by assumption) ?_
              rotate_left
              · (intro w' hSw; obtain ⟨q3, q4⟩ := hSw; go_simp; try with_reducible rfl)
              (try simp only [List.getElem_toArray, List.getElem_cons_succ, List.getElem_cons_zero, Act.put, List.setIfInBounds_toArray, List.set_cons_zero, List.set_cons_succ])
              refine wpAnyH_take (i := 5) (oi := _) (v := ?_) rfl (by kernel_rfl) (by kernel_rfl) (by kernel_rfl) (fun _ _ _ h => h) (Or.inl ⟨by rfl, ?_⟩) (by assumption) ?_
              rotate_left
              · (intro w' hSw; obtain ⟨q3, q4⟩ := hSw; go_simp; try with_reducible rfl)
              (try simp only [List.getElem_toArray, List.getElem_cons_succ, List.getElem_cons_zero, Act.put, List.setIfInBounds_toArray, List.set_cons_zero, List.set_cons_succ])
              refine wpAnyH_take (i := 6) (oi := _) (v := ?_) rfl (by kernel_rfl) (by kernel_rfl) (by kernel_rfl) (fun _ _ _ h => h) (Or.inl ⟨by rfl, ?_⟩) (by assumption) ?_
              rotate_left
              · (intro w' hSw; obtain ⟨q3, q4⟩ := hSw; go_simp; try with_reducible rfl)
              (try simp only [List.getElem_toArray, List.getElem_cons_succ, List.getElem_cons_zero, Act.put, List.setIfInBounds_toArray, List.set_cons_zero, List.set_cons_succ])
              refine wpAnyH_take (i := 7) (oi := _) (v := ?_) rfl (by kernel_rfl) (by kernel_rfl) (by kernel_rfl) (fun _ _ _ h => h) (Or.inl ⟨by rfl, ?_⟩) (by assumption) ?_
              rotate_left
              · (intro w' hSw; obtain ⟨q3, q4⟩ := hSw; go_simp; try with_reducible rfl)
              (try simp only [List.getElem_toArray, List.getElem_cons_succ, List.getElem_cons_zero, Act.put, List.setIfInBounds_toArray, List.set_cons_zero, List.set_cons_succ])
              refine wpAnyH_take (i := 8) (oi := _) (v := .bool true) rfl (by kernel_rfl) (by kernel_rfl) (by kernel_rfl) (fun _ _ _ h => h) (Or.inl ⟨by rfl, ?_⟩) (by assumption) ?_
              · (intro w' hSw; obtain ⟨q3, q4⟩ := hSw; go_simp; try (first | with_reducible rfl | (simp; omega)))
              (try simp only [List.getElem_toArray, List.getElem_cons_succ, List.getElem_cons_zero, Act.put, List.setIfInBounds_toArray, List.set_cons_zero, List.set_cons_succ])
              refine wpAnyH_take (i := 9) (oi := _) (v := ?_) rfl (by kernel_rfl) (by kernel_rfl) (by kernel_rfl) (fun _ _ _ h => h) (Or.inl ⟨by rfl, ?_⟩) (by assumption) ?_
              rotate_left
              · (intro w' hSw; obtain ⟨q3, q4⟩ := hSw; go_simp; try with_reducible rfl)
              (try simp only [List.getElem_toArray, List.getElem_cons_succ, List.getElem_cons_zero, Act.put, List.setIfInBounds_toArray, List.set_cons_zero, List.set_cons_succ])
              refine wpAnyH_take (i := 10) (oi := _) (v := ?_) rfl (by kernel_rfl) (by kernel_rfl) (by kernel_rfl) (fun _ _ _ h => h) (Or.inl ⟨by rfl, ?_⟩) (by assumption) ?_
              rotate_left
              · (intro w' hSw; obtain ⟨q3, q4⟩ := hSw; go_simp; try with_reducible rfl)
              (try simp only [List.getElem_toArray, List.getElem_cons_succ, List.getElem_cons_zero, Act.put, List.setIfInBounds_toArray, List.set_cons_zero, List.set_cons_succ])
              refine wpAnyH_take (i := 11) (oi := _) (v := ?_) rfl (by kernel_rfl) (by kernel_rfl) (by kernel_rfl) (fun _ _ _ h => h) (Or.inl ⟨by rfl, ?_⟩) (by assumption) ?_
              rotate_left
              · (intro w' hSw; obtain ⟨q3, q4⟩ := hSw; go_simp; try with_reducible rfl)
              (try simp only [List.getElem_toArray, List.getElem_cons_succ, List.getElem_cons_zero, Act.put, List.setIfInBounds_toArray, List.set_cons_zero, List.set_cons_succ])
              refine wpAnyH_take (i := 12) (oi := _) (v := ?_) rfl (by kernel_rfl) (by kernel_rfl) (by kernel_rfl) (fun _ _ _ h => h) (Or.inl ⟨by rfl, ?_⟩) (by assumption) ?_
              rotate_left
              · (intro w' hSw; obtain ⟨q3, q4⟩ := hSw; go_simp; try with_reducible rfl)
              (try simp only [List.getElem_toArray, List.getElem_cons_succ, List.getElem_cons_zero, Act.put, List.setIfInBounds_toArray, List.set_cons_zero, List.set_cons_succ])
              refine wpAnyH_take (i := 13) (oi := _) (v := ?_) rfl (by kernel_rfl) (by kernel_rfl) (by kernel_rfl) (fun _ _ _ h => h) (Or.inl ⟨by rfl, ?_⟩) (by assumption) ?_
              rotate_left
              · (intro w' hSw; obtain ⟨q3, q4⟩ := hSw; go_simp; try with_reducible rfl)
              (try simp only [List.getElem_toArray, List.getElem_cons_succ, List.getElem_cons_zero, Act.put, List.setIfInBounds_toArray, List.set_cons_zero, List.set_cons_succ])
              refine wpAnyH_take (i := 14) (oi := _) (v := ?_) rfl (by kernel_rfl) (by kernel_rfl) (by kernel_rfl) (fun _ _ _ h => h) (Or.inl ⟨by rfl, ?_⟩) (by assumption) ?_
              rotate_left
              · (intro w' hSw; obtain ⟨q3, q4⟩ := hSw; go_simp; try with_reducible rfl)
              (try simp only [List.getElem_toArray, List.getElem_cons_succ, List.getElem_cons_zero, Act.put, List.setIfInBounds_toArray, List.set_cons_zero, List.set_cons_succ])
              refine wpAnyH_take (i := 15) (oi := _) (v := ?_) rfl (by kernel_rfl) (by kernel_rfl) (by kernel_rfl) (fun _ _ _ h => h) (Or.inl ⟨by rfl, ?_⟩) (by assumption) ?_
              rotate_left
              · (intro w' hSw; obtain ⟨q3, q4⟩ := hSw; go_simp; try with_reducible rfl)
              (try simp only [List.getElem_toArray, List.getElem_cons_succ, List.getElem_cons_zero, Act.put, List.setIfInBounds_toArray, List.set_cons_zero, List.set_cons_succ])
              refine wpAnyH_take (i := 16) (oi := _) (v := ?_) rfl (by kernel_rfl) (by kernel_rfl) (by kernel_rfl) (fun _ _ _ h => h) (Or.inl ⟨by rfl, ?_⟩) (by assumption) ?_
              rotate_left
              · (intro w' hSw; obtain ⟨q3, q4⟩ := hSw; go_simp; try with_reducible rfl)
              (try simp only [List.getElem_toArray, List.getElem_cons_succ, List.getElem_cons_zero, Act.put, List.setIfInBounds_toArray, List.set_cons_zero, List.set_cons_succ])
              refine wpAnyH_take (i := 17) (oi := _) (v := undef) rfl (by kernel_rfl) (by kernel_rfl) (by kernel_rfl) (fun _ _ _ h => h) (Or.inr ⟨by kernel_rfl, rfl⟩) (by assumption) ?_
              (try simp only [List.getElem_toArray, List.getElem_cons_succ, List.getElem_cons_zero, Act.put, List.setIfInBounds_toArray, List.set_cons_zero, List.set_cons_succ])
              refine wpAnyH_take (i := 18) (oi := _) (v := undef) rfl (by kernel_rfl) (by kernel_rfl) (by kernel_rfl) (fun _ _ _ h => h) (Or.inr ⟨by kernel_rfl, rfl⟩) (by assumption) ?_
              (try simp only [List.getElem_toArray, List.getElem_cons_succ, List.getElem_cons_zero, Act.put, List.setIfInBounds_toArray, List.set_cons_zero, List.set_cons_succ])
              refine wpAnyH_take (i := 19) (oi := _) (v := undef) rfl (by kernel_rfl) (by kernel_rfl) (by kernel_rfl) (fun _ _ _ h => h) (Or.inr ⟨by kernel_rfl, rfl⟩) (by assumption) ?_
              (try simp only [List.getElem_toArray, List.getElem_cons_succ, List.getElem_cons_zero, Act.put, List.setIfInBounds_toArray, List.set_cons_zero, List.set_cons_succ])
              refine wpAnyH_take (i := 20) (oi := _) (v := undef) rfl (by kernel_rfl) (by kernel_rfl) (by kernel_rfl) (fun _ _ _ h => h) (Or.inr ⟨by kernel_rfl, rfl⟩) (by assumption) ?_
              (try simp only [List.getElem_toArray, List.getElem_cons_succ, List.getElem_cons_zero, Act.put, List.setIfInBounds_toArray, List.set_cons_zero, List.set_cons_succ])
              refine wpAnyH_take (i := 21) (oi := _) (v := undef) rfl (by kernel_rfl) (by kernel_rfl) (by kernel_rfl) (fun _ _ _ h => h) (Or.inr ⟨by kernel_rfl, rfl⟩) (by assumption) ?_
              (try simp only [List.getElem_toArray, List.getElem_cons_succ, List.getElem_cons_zero, Act.put, List.setIfInBounds_toArray, List.set_cons_zero, List.set_cons_succ])
              refine wpAnyH_take (i := 22) (oi := _) (v := undef) rfl (by kernel_rfl) (by kernel_rfl) (by kernel_rfl) (fun _ _ _ h => h) (Or.inr ⟨by kernel_rfl, rfl⟩) (by assumption) ?_
              (try simp only [List.getElem_toArray, List.getElem_cons_succ, List.getElem_cons_zero, Act.put, List.setIfInBounds_toArray, List.set_cons_zero, List.set_cons_succ])
              refine wpAnyH_take (i := 23) (oi := _) (v := undef) rfl (by kernel_rfl) (by kernel_rfl) (by kernel_rfl) (fun _ _ _ h => h) (Or.inr ⟨by kernel_rfl, rfl⟩) (by assumption) ?_
              (try simp only [List.getElem_toArray, List.getElem_cons_succ, List.getElem_cons_zero, Act.put, List.setIfInBounds_toArray, List.set_cons_zero, List.set_cons_succ])
              refine wpAnyH_take (i := 24) (oi := _) (v := undef) rfl (by kernel_rfl) (by kernel_rfl) (by kernel_rfl) (fun _ _ _ h => h) (Or.inr ⟨by kernel_rfl, rfl⟩) (by assumption) ?_
              (try simp only [List.getElem_toArray, List.getElem_cons_succ, List.getElem_cons_zero, Act.put, List.setIfInBounds_toArray, List.set_cons_zero, List.set_cons_succ])
              refine wpAnyH_take (i := 25) (oi := _) (v := undef) rfl (by kernel_rfl) (by kernel_rfl) (by kernel_rfl) (fun _ _ _ h => h) (Or.inr ⟨by kernel_rfl, rfl⟩) (by assumption) ?_
              (try simp only [List.getElem_toArray, List.getElem_cons_succ, List.getElem_cons_zero, Act.put, List.setIfInBounds_toArray, List.set_cons_zero, List.set_cons_succ])
              refine wpAnyH_take (i := 26) (oi := _) (v := ?_) rfl (by kernel_rfl) (by kernel_rfl) (by kernel_rfl) (fun _ _ _ h => h) (Or.inl ⟨by rfl, ?_⟩) (by assumption) ?_
              rotate_left
              · (intro w' hSw; obtain ⟨q3, q4⟩ := hSw; go_simp; try with_reducible rfl)
              (try simp only [List.getElem_toArray, List.getElem_cons_succ, List.getElem_cons_zero, Act.put, List.setIfInBounds_toArray, List.set_cons_zero, List.set_cons_succ])
              refine wpAnyH_take (i := 27) (oi := _) (v := ?_) rfl (by kernel_rfl) (by kernel_rfl) (by kernel_rfl) (fun _ _ _ h => h) (Or.inl ⟨by rfl, ?_⟩) (by assumption) ?_
              rotate_left
              · (intro w' hSw; obtain ⟨q3, q4⟩ := hSw; go_simp; try with_reducible rfl)
              (try simp only [List.getElem_toArray, List.getElem_cons_succ, List.getElem_cons_zero, Act.put, List.setIfInBounds_toArray, List.set_cons_zero, List.set_cons_succ])
              refine wpAnyH_done (by kernel_rfl) (NoPanic.normal ?_) _
              have HL3 := mkHid (HL2.out.below hd0)
              have HBr3 := mkHid (HBr2.out.then hd0)
              have HVr3 := mkHid (HVr2.out.keeps (below_hide hd0 _))
              clear HL2 HBr2 HVr2
              have CQ3 := mkHid (keep CQ.out hd0)
              clear HS CQ
              obtain ⟨w3, hw3⟩ : ∃ V, v0 = V := ⟨_, rfl⟩
              rw [hw3] at HL3 HBr3 HVr3 CQ3 ⊢
              clear hw3
              go_wp2_with fail
              have KS : Hid (∀ X, Below w3.heap.size w3 X → (fun X => C38 X G9 (.slice a11 g.length c11) (.slice a12 ts.length c12) (.int .i64 r) ∧ X.cell? ⟨qb, qo + m, none⟩ = some (.int .i64 z)) X) := fun X h => ⟨(X9.out.below HBr3.out).below h, keep CQ3.out h⟩
              have ke0 : Below w3.heap.size w3 w3.drew := (Below.refl _ _).drew
              refine wp_region_noPanic ?_
              refine wp_region_held_drew (S := fun X => C38 X G9 (.slice a11 g.length c11) (.slice a12 ts.length c12) (.int .i64 r) ∧ X.cell? ⟨qb, qo + m, none⟩ = some (.int .i64 z)) (by kernel_rfl) (KS.out _ ke0) (fun hSd => ?_)
              obtain ⟨x0, kx0⟩ : ∃ X, w3.drew = X := ⟨_, rfl⟩
              rw [kx0] at ke0 hSd ⊢
              clear kx0
              refine wpAnyH_take (i := 0) (oi := _) (v := ?_) rfl (by kernel_rfl) (by kernel_rfl) (by kernel_rfl) (fun _ _ _ h => h) (Or.inl ⟨by rfl, ?_⟩) (by assumption) ?_
              rotate_left
              · (intro w' hSw; obtain ⟨⟨q0, q1, q2⟩, q3⟩ := hSw; go_simp; try with_reducible rfl)
              (try simp only [List.getElem_toArray, List.getElem_cons_succ, List.getElem_cons_zero, Act.put, List.setIfInBounds_toArray, List.set_cons_zero, List.set_cons_succ])
              refine wpAnyH_take (i := 1) (oi := _) (v := ?_) rfl (by kernel_rfl) (by kernel_rfl) (by kernel_rfl) (fun _ _ _ h => h) (Or.inl ⟨by rfl, ?_⟩) (by assumption) ?_
              rotate_left
              · (intro w' hSw; obtain ⟨⟨q0, q1, q2⟩, q3⟩ := hSw; go_simp; try with_reducible rfl)
              (try simp only [List.getElem_toArray, List.getElem_cons_succ, List.getElem_cons_zero, Act.put, List.setIfInBounds_toArray, List.set_cons_zero, List.set_cons_succ])
              refine wpAnyH_take (i := 2) (oi := _) (v := ?_) rfl (by kernel_rfl) (by kernel_rfl) (by kernel_rfl) (fun _ _ _ h => h) (Or.inl ⟨by rfl, ?_⟩) (by assumption) ?_
              rotate_left
              · (intro w' hSw; obtain ⟨⟨q0, q1, q2⟩, q3⟩ := hSw; go_simp; try with_reducible rfl)
              (try simp only [List.getElem_toArray, List.getElem_cons_succ, List.getElem_cons_zero, Act.put, List.setIfInBounds_toArray, List.set_cons_zero, List.set_cons_succ])
              refine wpAnyH_take (i := 3) (oi := _) (v := ?_) rfl (by kernel_rfl) (by kernel_rfl) (by kernel_rfl) (fun _ _ _ h => h) (Or.inl ⟨by rfl, ?_⟩) (by assumption) ?_
              rotate_left
              · (intro w' hSw; obtain ⟨⟨q0, q1, q2⟩, q3⟩ := hSw; go_simp; try with_reducible rfl)
              (try simp only [List.getElem_toArray, List.getElem_cons_succ, List.getElem_cons_zero, Act.put, List.setIfInBounds_toArray, List.set_cons_zero, List.set_cons_succ])
              refine wpAnyH_take (i := 4) (oi := _) (v := ?_) rfl (by kernel_rfl) (by kernel_rfl) (by kernel_rfl) (fun _ _ _ h => h) (Or.inl ⟨by rfl, ?_⟩) (by assumption) ?_
              rotate_left
              · (intro w' hSw; obtain ⟨⟨q0, q1, q2⟩, q3⟩ := hSw; go_simp; try with_reducible rfl)
              (try simp only [List.getElem_toArray, List.getElem_cons_succ, List.getElem_cons_zero, Act.put, List.setIfInBounds_toArray, List.set_cons_zero, List.set_cons_succ])
              refine wpAnyH_ready (rs := [5]) (by kernel_rfl) (by simp) ?_
              refine AllReadyH.cons (o := _) rfl (fun K hK => ?_) AllReadyH.nil
              go_simp
              refine (hget_new a11 c11 a12 ts.length c12 r z _ g (R11.out.below (HBr3.out.then ke0)) (by omega) (by omega) (by omega)).mono ?_
              rintro e x1 ⟨ga, gc, rfl, hgn, hbv1⟩
              have ke1 := ke0.then hbv1
              have HGN := mkHid hgn
              clear hgn
              try dsimp only
              refine hK.out _ _ (KS.out _ ke1) (fun kS1 => ?_)
              clear hK K hbv1
              (try simp only [List.getElem_toArray, List.getElem_cons_succ, List.getElem_cons_zero, Act.put, List.setIfInBounds_toArray, List.set_cons_zero, List.set_cons_succ])
              refine wpAnyH_take (i := 6) (oi := _) (v := ?_) rfl (by kernel_rfl) (by kernel_rfl) (by kernel_rfl) (fun _ _ _ h => h) (Or.inl ⟨by rfl, ?_⟩) (by assumption) ?_
              rotate_left
              · (intro w' hSw; obtain ⟨⟨q0, q1, q2⟩, q3⟩ := hSw; go_simp; try with_reducible rfl)
              (try simp only [List.getElem_toArray, List.getElem_cons_succ, List.getElem_cons_zero, Act.put, List.setIfInBounds_toArray, List.set_cons_zero, List.set_cons_succ])
              refine wpAnyH_take (i := 7) (oi := _) (v := ?_) rfl (by kernel_rfl) (by kernel_rfl) (by kernel_rfl) (fun _ _ _ h => h) (Or.inl ⟨by rfl, ?_⟩) (by assumption) ?_
              rotate_left
              · (intro w' hSw; obtain ⟨⟨q0, q1, q2⟩, q3⟩ := hSw; go_simp; try with_reducible rfl)
              (try simp only [List.getElem_toArray, List.getElem_cons_succ, List.getElem_cons_zero, Act.put, List.setIfInBounds_toArray, List.set_cons_zero, List.set_cons_succ])
              refine wpAnyH_take (i := 8) (oi := _) (v := ?_) rfl (by kernel_rfl) (by kernel_rfl) (by kernel_rfl) (fun _ _ _ h => h) (Or.inl ⟨by rfl, ?_⟩) (by assumption) ?_
              rotate_left
              · (intro w' hSw; obtain ⟨⟨q0, q1, q2⟩, q3⟩ := hSw; go_simp; try with_reducible rfl)
              (try simp only [List.getElem_toArray, List.getElem_cons_succ, List.getElem_cons_zero, Act.put, List.setIfInBounds_toArray, List.set_cons_zero, List.set_cons_succ])
              refine wpAnyH_take (i := 9) (oi := _) (v := ?_) rfl (by kernel_rfl) (by kernel_rfl) (by kernel_rfl) (fun _ _ _ h => h) (Or.inl ⟨by rfl, ?_⟩) (by assumption) ?_
              rotate_left
              · (intro w' hSw; obtain ⟨⟨q0, q1, q2⟩, q3⟩ := hSw; go_simp; try with_reducible rfl)
              (try simp only [List.getElem_toArray, List.getElem_cons_succ, List.getElem_cons_zero, Act.put, List.setIfInBounds_toArray, List.set_cons_zero, List.set_cons_succ])
              refine wpAnyH_take (i := 10) (oi := _) (v := ?_) rfl (by kernel_rfl) (by kernel_rfl) (by kernel_rfl) (fun _ _ _ h => h) (Or.inl ⟨by rfl, ?_⟩) (by assumption) ?_
              rotate_left
              · (intro w' hSw; obtain ⟨⟨q0, q1, q2⟩, q3⟩ := hSw; go_simp; try with_reducible rfl)
              (try simp only [List.getElem_toArray, List.getElem_cons_succ, List.getElem_cons_zero, Act.put, List.setIfInBounds_toArray, List.set_cons_zero, List.set_cons_succ])
              refine wpAnyH_done (by kernel_rfl) (NoPanic.normal ?_) _
              have HGR := mkHid ((HL3.out.acc.below ke0).newer (Nat.le_refl _) HGN.out)
              have HL4 := mkHid (HL3.out.below ke1)
              have HBr4 := mkHid (HBr3.out.then ke1)
              have HVr4 := mkHid (HVr3.out.keeps (below_hide ke1 _))
              clear HL3 HBr3 HVr3
              clear KS
              have hgsh := got_short (l := g) (i := z)
              obtain ⟨gl, hgl⟩ : ∃ x, getL g z = x := ⟨_, rfl⟩
              rw [hgl] at HGR HGN hgsh ⊢
              have HGL := mkHid hgl
              clear hgl
              have hglm := HGN.out.row.max
              have hgll := HGN.out.row.le
              cases hgb : getB g z with
              | false =>
                clear hgb
                go_wp2_with fail
                go_ret
                exact ⟨ret_bool rfl, HB.out.then HBr4.out⟩
              | true =>
                have HGB2 := mkHid hgb
                clear hgb
                go_wp2_with fail
                refine (v8_any m _).mono ?_
                rintro e w5 ⟨rfl, hb5⟩
                have HL5 := mkHid (HL4.out.below hb5)
                have HBr5 := mkHid (HBr4.out.then hb5)
                have HVr5 := mkHid (HVr4.out.keeps (below_hide hb5 _))
                clear HL4 HBr4 HVr4
                have HGR5 := mkHid (HGR.out.keeps (below_hide hb5 _))
                clear HGR hb5
                go_wp2_with fail
                have hro := cellsH w5 [⟨1, ⟨#[]⟩, (m : Int)⟩] 1 #[.int .i64 1, .string ⟨#[]⟩, .int .i64 m] (by simp [flat]) rfl (by simp [fitB, ByteArray.size]; omega) (by simp) 54
                have hb6 := (Below.refl w5.heap.size w5).new (.cells #[.int .i64 1, .string ⟨#[]⟩, .int .i64 m] 54)
                obtain ⟨w6, hV6⟩ : ∃ V, w5.alloc (.cells #[.int .i64 1, .string ⟨#[]⟩, .int .i64 m] 54) = V := ⟨_, rfl⟩
                rw [hV6] at hro hb6 ⊢
                clear hV6
                have HL6 := mkHid (HL5.out.below hb6)
                have HBr6 := mkHid (HBr5.out.then hb6)
                have HVr6 := mkHid (HVr5.out.keeps (below_hide hb6 _))
                clear HL5 HBr5 HVr5
                have HGR6 := mkHid (HGR5.out.keeps (below_hide hb6 _))
                clear HGR5 hb6
                refine (refsame_any ga gc _ _ w6 gl [⟨1, ⟨#[]⟩, (m : Int)⟩] (HGR6.out.keeps (hide_keeps _ _)) hro).mono ?_
                rintro e w7 ⟨rfl, hb7⟩
                have HL7 := mkHid (HL6.out.below hb7)
                have HBr7 := mkHid (HBr6.out.then hb7)
                have HVr7 := mkHid (HVr6.out.keeps (below_hide hb7 _))
                clear HL6 HBr6 HVr6
                have HGR7 := mkHid (HGR6.out.keeps (below_hide hb7 _))
                clear HGR6 hb7 hro
                by_cases hsm7 : gl = [⟨1, ⟨#[]⟩, (m : Int)⟩]
                · skip
                  rw [decide_eq_true hsm7]
                  have HN := mkHid (HL7.out.own HZ.out HGB2.out (HGL.out.trans hsm7))
                  clear hsm7
                  go_wp2_with fail
                  go_round
                  case rel => exact ⟨m + 1, by omega, by go_num, HN, HBr7, HVr7⟩
                  case measure => simp [intOf]; omega
                · skip
                  rw [decide_eq_false hsm7]
                  have HNE := mkHid hsm7
                  clear hsm7
                  have hacc := HL7.out.acc
                  rw [HBS.out] at hacc
                  have HACC := mkHid hacc
                  clear hacc
                  have hmL : (-9223372036854775808 : Int) ≤ m := by omega
                  have hmU : (m : Int) ≤ 9223372036854775807 := by omega
                  have hge : GE ≤ w7.heap.size := by rw [← HGE.out]; exact HBr7.out.size
                  go_wp2_with (at_builtin; refine wpList_acck (α := Bnd) rfl _ _ 50 rfl GE 57 32 _ Try.underlying50 Try.infoBind rfl (by decide) _ bs HACC.out (by rfl) _ #[.int .i64 m, .slice ga gl.length gc] ⟨(m : Int), gl⟩ ⟨⟨ga, gc, rfl, HGR7.out⟩, hmL, hmU⟩ (by rfl) (by omega) hge ?_; intro v8 w8 hacc8 hb8 hk8)
                  go_round
                  case rel => exact ⟨m + 1, by omega, by go_num, HL7.out.put HZ.out HGB2.out HIN.out (by rw [HGL.out]; exact HNE.out) (by rw [HBS.out, HGL.out]; exact hacc8), HBr7.out.trans (by rw [HGE.out]; exact hb8), HVr7.out.keeps hk8⟩
                  case measure => simp [intOf]; omega
            · skip
              have hyz := (HQK.out m hps hy).symm.trans HZ.out
              rw [hyz] at hE0 hy
              have CP := mkHid hE0
              clear hE0 hyz
              go_wp2_with fail
              have HS : Hid (∀ X, Below w2.heap.size w2 X → (fun X => X.cell? ⟨qb, qo + m, none⟩ = some (.int .i64 z) ∧ X.cell? ⟨pb, po + m, none⟩ = some (.int .i64 z)) X) := fun X h => ⟨keep CQ.out h, keep CP.out h⟩
              have hd0 : Below w2.heap.size w2 w2.drew := (Below.refl _ _).drew
              refine wp_region_noPanic ?_
              refine wp_region_held_drew (S := fun X => X.cell? ⟨qb, qo + m, none⟩ = some (.int .i64 z) ∧ X.cell? ⟨pb, po + m, none⟩ = some (.int .i64 z)) (by kernel_rfl) (HS.out _ hd0) (fun hSd => ?_)
              obtain ⟨v0, hx0⟩ : ∃ X, w2.drew = X := ⟨_, rfl⟩
              rw [hx0] at hd0 hSd ⊢
              clear hx0
              refine wpAnyH_take (i := 0) (oi := _) (v := ?_) rfl (by kernel_rfl) (by kernel_rfl) (by kernel_rfl) (fun _ _ _ h => h) (Or.inl ⟨by rfl, ?_⟩) (by assumption) ?_
              rotate_left
              · (intro w' hSw; obtain ⟨q3, q4⟩ := hSw; go_simp; try with_reducible rfl)
              (try simp only [List.getElem_toArray, List.getElem_cons_succ, List.getElem_cons_zero, Act.put, List.setIfInBounds_toArray, List.set_cons_zero, List.set_cons_succ])
              refine wpAnyH_take (i := 1) (oi := _) (v := ?_) rfl (by kernel_rfl) (by kernel_rfl) (by kernel_rfl) (fun _ _ _ h => h) (Or.inl ⟨by rfl, ?_⟩) (by assumption) ?_
              rotate_left
              · (intro w' hSw; obtain ⟨q3, q4⟩ := hSw; go_simp; try with_reducible rfl)
              (try simp only [List.getElem_toArray, List.getElem_cons_succ, List.getElem_cons_zero, Act.put, List.setIfInBounds_toArray, List.set_cons_zero, List.set_cons_succ])
              refine wpAnyH_take (i := 2) (oi := _) (v := ?_) rfl (by kernel_rfl) (by kernel_rfl) (by kernel_rfl) (fun _ _ _ h => h) (Or.inl ⟨by rfl, ?_⟩) (by assumption) ?_
              rotate_left
              · (intro w' hSw; obtain ⟨q3, q4⟩ := hSw; go_simp; try with_reducible rfl)
              (try simp only [List.getElem_toArray, List.getElem_cons_succ, List.getElem_cons_zero, Act.put, List.setIfInBounds_toArray, List.set_cons_zero, List.set_cons_succ])
              refine wpAnyH_take (i := 3) (oi := _) (v := .bool false) rfl (by kernel_rfl) (by kernel_rfl) (by kernel_rfl) (fun _ _ _ h => h) (Or.inl ⟨by rfl, ?_⟩) (by assumption) ?_
              · (intro w' hSw; obtain ⟨q3, q4⟩ := hSw; go_simp; try (first | with_reducible rfl | (simp; omega)))
              (try simp only [List.getElem_toArray, List.getElem_cons_succ, List.getElem_cons_zero, Act.put, List.setIfInBounds_toArray, List.set_cons_zero, List.set_cons_succ])
              refine wpAnyH_take (i := 4) (oi := _) (v := ?_) rfl (by kernel_rfl) (by kernel_rfl) (by kernel_rfl) (fun _ _ _ h => h) (Or.inl ⟨by rfl, ?_⟩) (by assumption) ?_
              rotate_left
              · (intro w' hSw; obtain ⟨q3, q4⟩ := hSw; go_simp; try with_reducible rfl)
              (try simp only [List.getElem_toArray, List.getElem_cons_succ, List.getElem_cons_zero, Act.put, List.setIfInBounds_toArray, List.set_cons_zero, List.set_cons_succ])
              refine wpAnyH_take (i := 5) (oi := _) (v := ?_) rfl (by kernel_rfl) (by kernel_rfl) (by kernel_rfl) (fun _ _ _ h => h) (Or.inl ⟨by rfl, ?_⟩) (by assumption) ?_
              rotate_left
              · (intro w' hSw; obtain ⟨q3, q4⟩ := hSw; go_simp; try with_reducible rfl)
              (try simp only [List.getElem_toArray, List.getElem_cons_succ, List.getElem_cons_zero, Act.put, List.setIfInBounds_toArray, List.set_cons_zero, List.set_cons_succ])
              refine wpAnyH_take (i := 6) (oi := _) (v := ?_) rfl (by kernel_rfl) (by kernel_rfl) (by kernel_rfl) (fun _ _ _ h => h) (Or.inl ⟨by rfl, ?_⟩) (by assumption) ?_
              rotate_left
              · (intro w' hSw; obtain ⟨q3, q4⟩ := hSw; go_simp; try with_reducible rfl)
              (try simp only [List.getElem_toArray, List.getElem_cons_succ, List.getElem_cons_zero, Act.put, List.setIfInBounds_toArray, List.set_cons_zero, List.set_cons_succ])
              refine wpAnyH_take (i := 7) (oi := _) (v := ?_) rfl (by kernel_rfl) (by kernel_rfl) (by kernel_rfl) (fun _ _ _ h => h) (Or.inl ⟨by rfl, ?_⟩) (by assumption) ?_
              rotate_left
              · (intro w' hSw; obtain ⟨q3, q4⟩ := hSw; go_simp; try with_reducible rfl)
              (try simp only [List.getElem_toArray, List.getElem_cons_succ, List.getElem_cons_zero, Act.put, List.setIfInBounds_toArray, List.set_cons_zero, List.set_cons_succ])
              refine wpAnyH_take (i := 8) (oi := _) (v := .bool true) rfl (by kernel_rfl) (by kernel_rfl) (by kernel_rfl) (fun _ _ _ h => h) (Or.inl ⟨by rfl, ?_⟩) (by assumption) ?_
              · (intro w' hSw; obtain ⟨q3, q4⟩ := hSw; go_simp; try (first | with_reducible rfl | (simp; omega)))
              (try simp only [List.getElem_toArray, List.getElem_cons_succ, List.getElem_cons_zero, Act.put, List.setIfInBounds_toArray, List.set_cons_zero, List.set_cons_succ])
              refine wpAnyH_take (i := 9) (oi := _) (v := ?_) rfl (by kernel_rfl) (by kernel_rfl) (by kernel_rfl) (fun _ _ _ h => h) (Or.inl ⟨by rfl, ?_⟩) (by assumption) ?_
              rotate_left
              · (intro w' hSw; obtain ⟨q3, q4⟩ := hSw; go_simp; try with_reducible rfl)
              (try simp only [List.getElem_toArray, List.getElem_cons_succ, List.getElem_cons_zero, Act.put, List.setIfInBounds_toArray, List.set_cons_zero, List.set_cons_succ])
              refine wpAnyH_take (i := 10) (oi := _) (v := ?_) rfl (by kernel_rfl) (by kernel_rfl) (by kernel_rfl) (fun _ _ _ h => h) (Or.inl ⟨by rfl, ?_⟩) (by assumption) ?_
              rotate_left
              · (intro w' hSw; obtain ⟨q3, q4⟩ := hSw; go_simp; try with_reducible rfl)
              (try simp only [List.getElem_toArray, List.getElem_cons_succ, List.getElem_cons_zero, Act.put, List.setIfInBounds_toArray, List.set_cons_zero, List.set_cons_succ])
              refine wpAnyH_take (i := 11) (oi := _) (v := ?_) rfl (by kernel_rfl) (by kernel_rfl) (by kernel_rfl) (fun _ _ _ h => h) (Or.inl ⟨by rfl, ?_⟩) (by assumption) ?_
              rotate_left
              · (intro w' hSw; obtain ⟨q3, q4⟩ := hSw; go_simp; try with_reducible rfl)
              (try simp only [List.getElem_toArray, List.getElem_cons_succ, List.getElem_cons_zero, Act.put, List.setIfInBounds_toArray, List.set_cons_zero, List.set_cons_succ])
              refine wpAnyH_take (i := 12) (oi := _) (v := ?_) rfl (by kernel_rfl) (by kernel_rfl) (by kernel_rfl) (fun _ _ _ h => h) (Or.inl ⟨by rfl, ?_⟩) (by assumption) ?_
              rotate_left
              · (intro w' hSw; obtain ⟨q3, q4⟩ := hSw; go_simp; try with_reducible rfl)
              (try simp only [List.getElem_toArray, List.getElem_cons_succ, List.getElem_cons_zero, Act.put, List.setIfInBounds_toArray, List.set_cons_zero, List.set_cons_succ])
              refine wpAnyH_take (i := 13) (oi := _) (v := ?_) rfl (by kernel_rfl) (by kernel_rfl) (by kernel_rfl) (fun _ _ _ h => h) (Or.inl ⟨by rfl, ?_⟩) (by assumption) ?_
              rotate_left
              · (intro w' hSw; obtain ⟨q3, q4⟩ := hSw; go_simp; try with_reducible rfl)
              (try simp only [List.getElem_toArray, List.getElem_cons_succ, List.getElem_cons_zero, Act.put, List.setIfInBounds_toArray, List.set_cons_zero, List.set_cons_succ])
              refine wpAnyH_take (i := 14) (oi := _) (v := .bool true) rfl (by kernel_rfl) (by kernel_rfl) (by kernel_rfl) (fun _ _ _ h => h) (Or.inl ⟨by rfl, ?_⟩) (by assumption) ?_
              · (intro w' hSw; obtain ⟨q3, q4⟩ := hSw; go_simp; try (first | with_reducible rfl | (simp; omega)))
              (try simp only [List.getElem_toArray, List.getElem_cons_succ, List.getElem_cons_zero, Act.put, List.setIfInBounds_toArray, List.set_cons_zero, List.set_cons_succ])
              refine wpAnyH_take (i := 15) (oi := _) (v := ?_) rfl (by kernel_rfl) (by kernel_rfl) (by kernel_rfl) (fun _ _ _ h => h) (Or.inl ⟨by rfl, ?_⟩) (by assumption) ?_
              rotate_left
              · (intro w' hSw; obtain ⟨q3, q4⟩ := hSw; go_simp; try with_reducible rfl)
              (try simp only [List.getElem_toArray, List.getElem_cons_succ, List.getElem_cons_zero, Act.put, List.setIfInBounds_toArray, List.set_cons_zero, List.set_cons_succ])
              refine wpAnyH_take (i := 16) (oi := _) (v := ?_) rfl (by kernel_rfl) (by kernel_rfl) (by kernel_rfl) (fun _ _ _ h => h) (Or.inl ⟨by rfl, ?_⟩) (by assumption) ?_
              rotate_left
              · (intro w' hSw; obtain ⟨q3, q4⟩ := hSw; go_simp; try with_reducible rfl)
              (try simp only [List.getElem_toArray, List.getElem_cons_succ, List.getElem_cons_zero, Act.put, List.setIfInBounds_toArray, List.set_cons_zero, List.set_cons_succ])
              refine wpAnyH_take (i := 17) (oi := _) (v := ?_) rfl (by kernel_rfl) (by kernel_rfl) (by kernel_rfl) (fun _ _ _ h => h) (Or.inl ⟨by rfl, ?_⟩) (by assumption) ?_
              rotate_left
              · (intro w' hSw; obtain ⟨q3, q4⟩ := hSw; go_simp; try with_reducible rfl)
              (try simp only [List.getElem_toArray, List.getElem_cons_succ, List.getElem_cons_zero, Act.put, List.setIfInBounds_toArray, List.set_cons_zero, List.set_cons_succ])
              refine wpAnyH_take (i := 18) (oi := _) (v := ?_) rfl (by kernel_rfl) (by kernel_rfl) (by kernel_rfl) (fun _ _ _ h => h) (Or.inl ⟨by rfl, ?_⟩) (by assumption) ?_
              rotate_left
              · (intro w' hSw; obtain ⟨q3, q4⟩ := hSw; go_simp; try with_reducible rfl)
              (try simp only [List.getElem_toArray, List.getElem_cons_succ, List.getElem_cons_zero, Act.put, List.setIfInBounds_toArray, List.set_cons_zero, List.set_cons_succ])
              refine wpAnyH_take (i := 19) (oi := _) (v := ?_) rfl (by kernel_rfl) (by kernel_rfl) (by kernel_rfl) (fun _ _ _ h => h) (Or.inl ⟨by rfl, ?_⟩) (by assumption) ?_
              rotate_left
              · (intro w' hSw; obtain ⟨q3, q4⟩ := hSw; go_simp; try with_reducible rfl)
              (try simp only [List.getElem_toArray, List.getElem_cons_succ, List.getElem_cons_zero, Act.put, List.setIfInBounds_toArray, List.set_cons_zero, List.set_cons_succ])
              refine wpAnyH_take (i := 20) (oi := _) (v := ?_) rfl (by kernel_rfl) (by kernel_rfl) (by kernel_rfl) (fun _ _ _ h => h) (Or.inl ⟨by rfl, ?_⟩) (by assumption) ?_
              rotate_left
              · (intro w' hSw; obtain ⟨q3, q4⟩ := hSw; go_simp; try with_reducible rfl)
              (try simp only [List.getElem_toArray, List.getElem_cons_succ, List.getElem_cons_zero, Act.put, List.setIfInBounds_toArray, List.set_cons_zero, List.set_cons_succ])
              refine wpAnyH_take (i := 21) (oi := _) (v := ?_) rfl (by kernel_rfl) (by kernel_rfl) (by kernel_rfl) (fun _ _ _ h => h) (Or.inl ⟨by rfl, ?_⟩) (by assumption) ?_
              rotate_left
              · (intro w' hSw; obtain ⟨q3, q4⟩ := hSw; go_simp; try with_reducible rfl)
              (try simp only [List.getElem_toArray, List.getElem_cons_succ, List.getElem_cons_zero, Act.put, List.setIfInBounds_toArray, List.set_cons_zero, List.set_cons_succ])
              refine wpAnyH_take (i := 22) (oi := _) (v := ?_) rfl (by kernel_rfl) (by kernel_rfl) (by kernel_rfl) (fun _ _ _ h => h) (Or.inl ⟨by rfl, ?_⟩) (by assumption) ?_
              rotate_left
              · (intro w' hSw; obtain ⟨q3, q4⟩ := hSw; go_simp; try with_reducible rfl)
              (try simp only [List.getElem_toArray, List.getElem_cons_succ, List.getElem_cons_zero, Act.put, List.setIfInBounds_toArray, List.set_cons_zero, List.set_cons_succ])
              refine wpAnyH_take (i := 23) (oi := _) (v := ?_) rfl (by kernel_rfl) (by kernel_rfl) (by kernel_rfl) (fun _ _ _ h => h) (Or.inl ⟨by rfl, ?_⟩) (by assumption) ?_
              rotate_left
              · (intro w' hSw; obtain ⟨q3, q4⟩ := hSw; go_simp; try with_reducible rfl)
              (try simp only [List.getElem_toArray, List.getElem_cons_succ, List.getElem_cons_zero, Act.put, List.setIfInBounds_toArray, List.set_cons_zero, List.set_cons_succ])
              refine wpAnyH_take (i := 24) (oi := _) (v := ?_) rfl (by kernel_rfl) (by kernel_rfl) (by kernel_rfl) (fun _ _ _ h => h) (Or.inl ⟨by rfl, ?_⟩) (by assumption) ?_
              rotate_left
              · (intro w' hSw; obtain ⟨q3, q4⟩ := hSw; go_simp; try with_reducible rfl)
              (try simp only [List.getElem_toArray, List.getElem_cons_succ, List.getElem_cons_zero, Act.put, List.setIfInBounds_toArray, List.set_cons_zero, List.set_cons_succ])
              refine wpAnyH_take (i := 25) (oi := _) (v := .bool false) rfl (by kernel_rfl) (by kernel_rfl) (by kernel_rfl) (fun _ _ _ h => h) (Or.inl ⟨by rfl, ?_⟩) (by assumption) ?_
              · (intro w' hSw; obtain ⟨q3, q4⟩ := hSw; go_simp; try (first | with_reducible rfl | (simp)))
              (try simp only [List.getElem_toArray, List.getElem_cons_succ, List.getElem_cons_zero, Act.put, List.setIfInBounds_toArray, List.set_cons_zero, List.set_cons_succ])
              refine wpAnyH_take (i := 26) (oi := _) (v := ?_) rfl (by kernel_rfl) (by kernel_rfl) (by kernel_rfl) (fun _ _ _ h => h) (Or.inl ⟨by rfl, ?_⟩) (by assumption) ?_
              rotate_left
              · (intro w' hSw; obtain ⟨q3, q4⟩ := hSw; go_simp; try with_reducible rfl)
              (try simp only [List.getElem_toArray, List.getElem_cons_succ, List.getElem_cons_zero, Act.put, List.setIfInBounds_toArray, List.set_cons_zero, List.set_cons_succ])
              refine wpAnyH_take (i := 27) (oi := _) (v := ?_) rfl (by kernel_rfl) (by kernel_rfl) (by kernel_rfl) (fun _ _ _ h => h) (Or.inl ⟨by rfl, ?_⟩) (by assumption) ?_
              rotate_left
              · (intro w' hSw; obtain ⟨q3, q4⟩ := hSw; go_simp; try with_reducible rfl)
              (try simp only [List.getElem_toArray, List.getElem_cons_succ, List.getElem_cons_zero, Act.put, List.setIfInBounds_toArray, List.set_cons_zero, List.set_cons_succ])
              refine wpAnyH_done (by kernel_rfl) (NoPanic.normal ?_) _
              have HL3 := mkHid (HL2.out.below hd0)
              have HBr3 := mkHid (HBr2.out.then hd0)
              have HVr3 := mkHid (HVr2.out.keeps (below_hide hd0 _))
              clear HL2 HBr2 HVr2
              have CQ3 := mkHid (keep CQ.out hd0)
              clear HS CQ
              obtain ⟨w3, hw3⟩ : ∃ V, v0 = V := ⟨_, rfl⟩
              rw [hw3] at HL3 HBr3 HVr3 CQ3 ⊢
              clear hw3
              go_wp2_with fail
              have KS : Hid (∀ X, Below w3.heap.size w3 X → (fun X => C38 X G9 (.slice a11 g.length c11) (.slice a12 ts.length c12) (.int .i64 r) ∧ X.cell? ⟨qb, qo + m, none⟩ = some (.int .i64 z)) X) := fun X h => ⟨(X9.out.below HBr3.out).below h, keep CQ3.out h⟩
              have ke0 : Below w3.heap.size w3 w3.drew := (Below.refl _ _).drew
              refine wp_region_noPanic ?_
              refine wp_region_held_drew (S := fun X => C38 X G9 (.slice a11 g.length c11) (.slice a12 ts.length c12) (.int .i64 r) ∧ X.cell? ⟨qb, qo + m, none⟩ = some (.int .i64 z)) (by kernel_rfl) (KS.out _ ke0) (fun hSd => ?_)
              obtain ⟨x0, kx0⟩ : ∃ X, w3.drew = X := ⟨_, rfl⟩
              rw [kx0] at ke0 hSd ⊢
              clear kx0
              refine wpAnyH_take (i := 0) (oi := _) (v := ?_) rfl (by kernel_rfl) (by kernel_rfl) (by kernel_rfl) (fun _ _ _ h => h) (Or.inl ⟨by rfl, ?_⟩) (by assumption) ?_
              rotate_left
              · (intro w' hSw; obtain ⟨⟨q0, q1, q2⟩, q3⟩ := hSw; go_simp; try with_reducible rfl)
              (try simp only [List.getElem_toArray, List.getElem_cons_succ, List.getElem_cons_zero, Act.put, List.setIfInBounds_toArray, List.set_cons_zero, List.set_cons_succ])
              refine wpAnyH_take (i := 1) (oi := _) (v := ?_) rfl (by kernel_rfl) (by kernel_rfl) (by kernel_rfl) (fun _ _ _ h => h) (Or.inl ⟨by rfl, ?_⟩) (by assumption) ?_
              rotate_left
              · (intro w' hSw; obtain ⟨⟨q0, q1, q2⟩, q3⟩ := hSw; go_simp; try with_reducible rfl)
              (try simp only [List.getElem_toArray, List.getElem_cons_succ, List.getElem_cons_zero, Act.put, List.setIfInBounds_toArray, List.set_cons_zero, List.set_cons_succ])
              refine wpAnyH_take (i := 2) (oi := _) (v := ?_) rfl (by kernel_rfl) (by kernel_rfl) (by kernel_rfl) (fun _ _ _ h => h) (Or.inl ⟨by rfl, ?_⟩) (by assumption) ?_
              rotate_left
              · (intro w' hSw; obtain ⟨⟨q0, q1, q2⟩, q3⟩ := hSw; go_simp; try with_reducible rfl)
              (try simp only [List.getElem_toArray, List.getElem_cons_succ, List.getElem_cons_zero, Act.put, List.setIfInBounds_toArray, List.set_cons_zero, List.set_cons_succ])
              refine wpAnyH_take (i := 3) (oi := _) (v := ?_) rfl (by kernel_rfl) (by kernel_rfl) (by kernel_rfl) (fun _ _ _ h => h) (Or.inl ⟨by rfl, ?_⟩) (by assumption) ?_
              rotate_left
              · (intro w' hSw; obtain ⟨⟨q0, q1, q2⟩, q3⟩ := hSw; go_simp; try with_reducible rfl)
              (try simp only [List.getElem_toArray, List.getElem_cons_succ, List.getElem_cons_zero, Act.put, List.setIfInBounds_toArray, List.set_cons_zero, List.set_cons_succ])
              refine wpAnyH_take (i := 4) (oi := _) (v := ?_) rfl (by kernel_rfl) (by kernel_rfl) (by kernel_rfl) (fun _ _ _ h => h) (Or.inl ⟨by rfl, ?_⟩) (by assumption) ?_
              rotate_left
              · (intro w' hSw; obtain ⟨⟨q0, q1, q2⟩, q3⟩ := hSw; go_simp; try with_reducible rfl)
              (try simp only [List.getElem_toArray, List.getElem_cons_succ, List.getElem_cons_zero, Act.put, List.setIfInBounds_toArray, List.set_cons_zero, List.set_cons_succ])
              refine wpAnyH_ready (rs := [5]) (by kernel_rfl) (by simp) ?_
              refine AllReadyH.cons (o := _) rfl (fun K hK => ?_) AllReadyH.nil
              go_simp
              refine (hget_new a11 c11 a12 ts.length c12 r z _ g (R11.out.below (HBr3.out.then ke0)) (by omega) (by omega) (by omega)).mono ?_
              rintro e x1 ⟨ga, gc, rfl, hgn, hbv1⟩
              have ke1 := ke0.then hbv1
              have HGN := mkHid hgn
              clear hgn
              try dsimp only
              refine hK.out _ _ (KS.out _ ke1) (fun kS1 => ?_)
              clear hK K hbv1
              (try simp only [List.getElem_toArray, List.getElem_cons_succ, List.getElem_cons_zero, Act.put, List.setIfInBounds_toArray, List.set_cons_zero, List.set_cons_succ])
              refine wpAnyH_take (i := 6) (oi := _) (v := ?_) rfl (by kernel_rfl) (by kernel_rfl) (by kernel_rfl) (fun _ _ _ h => h) (Or.inl ⟨by rfl, ?_⟩) (by assumption) ?_
              rotate_left
              · (intro w' hSw; obtain ⟨⟨q0, q1, q2⟩, q3⟩ := hSw; go_simp; try with_reducible rfl)
              (try simp only [List.getElem_toArray, List.getElem_cons_succ, List.getElem_cons_zero, Act.put, List.setIfInBounds_toArray, List.set_cons_zero, List.set_cons_succ])
              refine wpAnyH_take (i := 7) (oi := _) (v := ?_) rfl (by kernel_rfl) (by kernel_rfl) (by kernel_rfl) (fun _ _ _ h => h) (Or.inl ⟨by rfl, ?_⟩) (by assumption) ?_
              rotate_left
              · (intro w' hSw; obtain ⟨⟨q0, q1, q2⟩, q3⟩ := hSw; go_simp; try with_reducible rfl)
              (try simp only [List.getElem_toArray, List.getElem_cons_succ, List.getElem_cons_zero, Act.put, List.setIfInBounds_toArray, List.set_cons_zero, List.set_cons_succ])
              refine wpAnyH_take (i := 8) (oi := _) (v := ?_) rfl (by kernel_rfl) (by kernel_rfl) (by kernel_rfl) (fun _ _ _ h => h) (Or.inl ⟨by rfl, ?_⟩) (by assumption) ?_
              rotate_left
              · (intro w' hSw; obtain ⟨⟨q0, q1, q2⟩, q3⟩ := hSw; go_simp; try with_reducible rfl)
              (try simp only [List.getElem_toArray, List.getElem_cons_succ, List.getElem_cons_zero, Act.put, List.setIfInBounds_toArray, List.set_cons_zero, List.set_cons_succ])
              refine wpAnyH_take (i := 9) (oi := _) (v := ?_) rfl (by kernel_rfl) (by kernel_rfl) (by kernel_rfl) (fun _ _ _ h => h) (Or.inl ⟨by rfl, ?_⟩) (by assumption) ?_
              rotate_left
              · (intro w' hSw; obtain ⟨⟨q0, q1, q2⟩, q3⟩ := hSw; go_simp; try with_reducible rfl)
              (try simp only [List.getElem_toArray, List.getElem_cons_succ, List.getElem_cons_zero, Act.put, List.setIfInBounds_toArray, List.set_cons_zero, List.set_cons_succ])
              refine wpAnyH_take (i := 10) (oi := _) (v := ?_) rfl (by kernel_rfl) (by kernel_rfl) (by kernel_rfl) (fun _ _ _ h => h) (Or.inl ⟨by rfl, ?_⟩) (by assumption) ?_
              rotate_left
              · (intro w' hSw; obtain ⟨⟨q0, q1, q2⟩, q3⟩ := hSw; go_simp; try with_reducible rfl)
              (try simp only [List.getElem_toArray, List.getElem_cons_succ, List.getElem_cons_zero, Act.put, List.setIfInBounds_toArray, List.set_cons_zero, List.set_cons_succ])
              refine wpAnyH_done (by kernel_rfl) (NoPanic.normal ?_) _
              have HGR := mkHid ((HL3.out.acc.below ke0).newer (Nat.le_refl _) HGN.out)
              have HL4 := mkHid (HL3.out.below ke1)
              have HBr4 := mkHid (HBr3.out.then ke1)
              have HVr4 := mkHid (HVr3.out.keeps (below_hide ke1 _))
              clear HL3 HBr3 HVr3
              clear KS
              have hgsh := got_short (l := g) (i := z)
              obtain ⟨gl, hgl⟩ : ∃ x, getL g z = x := ⟨_, rfl⟩
              rw [hgl] at HGR HGN hgsh ⊢
              have HGL := mkHid hgl
              clear hgl
              have hglm := HGN.out.row.max
              have hgll := HGN.out.row.le
              cases hgb : getB g z with
              | false =>
                clear hgb
                go_wp2_with fail
                go_ret
                exact ⟨ret_bool rfl, HB.out.then HBr4.out⟩
              | true =>
                have HGB2 := mkHid hgb
                clear hgb
                go_wp2_with fail
                refine (v8_any m _).mono ?_
                rintro e w5 ⟨rfl, hb5⟩
                have HL5 := mkHid (HL4.out.below hb5)
                have HBr5 := mkHid (HBr4.out.then hb5)
                have HVr5 := mkHid (HVr4.out.keeps (below_hide hb5 _))
                clear HL4 HBr4 HVr4
                have HGR5 := mkHid (HGR.out.keeps (below_hide hb5 _))
                clear HGR hb5
                go_wp2_with fail
                have hro := cellsH w5 [⟨1, ⟨#[]⟩, (m : Int)⟩] 1 #[.int .i64 1, .string ⟨#[]⟩, .int .i64 m] (by simp [flat]) rfl (by simp [fitB, ByteArray.size]; omega) (by simp) 54
                have hb6 := (Below.refl w5.heap.size w5).new (.cells #[.int .i64 1, .string ⟨#[]⟩, .int .i64 m] 54)
                obtain ⟨w6, hV6⟩ : ∃ V, w5.alloc (.cells #[.int .i64 1, .string ⟨#[]⟩, .int .i64 m] 54) = V := ⟨_, rfl⟩
                rw [hV6] at hro hb6 ⊢
                clear hV6
                have HL6 := mkHid (HL5.out.below hb6)
                have HBr6 := mkHid (HBr5.out.then hb6)
                have HVr6 := mkHid (HVr5.out.keeps (below_hide hb6 _))
                clear HL5 HBr5 HVr5
                have HGR6 := mkHid (HGR5.out.keeps (below_hide hb6 _))
                clear HGR5 hb6
                refine (refsame_any ga gc _ _ w6 gl [⟨1, ⟨#[]⟩, (m : Int)⟩] (HGR6.out.keeps (hide_keeps _ _)) hro).mono ?_
                rintro e w7 ⟨rfl, hb7⟩
                have HL7 := mkHid (HL6.out.below hb7)
                have HBr7 := mkHid (HBr6.out.then hb7)
                have HVr7 := mkHid (HVr6.out.keeps (below_hide hb7 _))
                clear HL6 HBr6 HVr6
                have HGR7 := mkHid (HGR6.out.keeps (below_hide hb7 _))
                clear HGR6 hb7 hro
                by_cases hsm7 : gl = [⟨1, ⟨#[]⟩, (m : Int)⟩]
                · skip
                  rw [decide_eq_true hsm7]
                  have HN := mkHid (HL7.out.own HZ.out HGB2.out (HGL.out.trans hsm7))
                  clear hsm7
                  go_wp2_with fail
                  go_round
                  case rel => exact ⟨m + 1, by omega, by go_num, HN, HBr7, HVr7⟩
                  case measure => simp [intOf]; omega
                · skip
                  rw [decide_eq_false hsm7]
                  have HNE := mkHid hsm7
                  clear hsm7
                  have hacc := HL7.out.acc
                  rw [HBS.out] at hacc
                  have HACC := mkHid hacc
                  clear hacc
                  have hmL : (-9223372036854775808 : Int) ≤ m := by omega
                  have hmU : (m : Int) ≤ 9223372036854775807 := by omega
                  have hge : GE ≤ w7.heap.size := by rw [← HGE.out]; exact HBr7.out.size
                  go_wp2_with (at_builtin; refine wpList_acck (α := Bnd) rfl _ _ 50 rfl GE 57 32 _ Try.underlying50 Try.infoBind rfl (by decide) _ bs HACC.out (by rfl) _ #[.int .i64 m, .slice ga gl.length gc] ⟨(m : Int), gl⟩ ⟨⟨ga, gc, rfl, HGR7.out⟩, hmL, hmU⟩ (by rfl) (by omega) hge ?_; intro v8 w8 hacc8 hb8 hk8)
                  go_round
                  case rel => exact ⟨m + 1, by omega, by go_num, HL7.out.put HZ.out HGB2.out HIN.out (by rw [HGL.out]; exact HNE.out) (by rw [HBS.out, HGL.out]; exact hacc8), HBr7.out.trans (by rw [HGE.out]; exact hb8), HVr7.out.keeps hk8⟩
                  case measure => simp [intOf]; omega
          · skip
            subst h9
            have y1 := X1.out.below HBr.out
            obtain ⟨j10, j11, j12⟩ := y1
            have y9 := X9.out.below HBr.out
            obtain ⟨j90, j91, j92⟩ := y9
            go_wp2_with fail
            clear j10 j11 j12 j90 j91 j92
            refine (refapply_any sa sc c cc _ bs tm.flat HSR.out (H2.out.below HBr.out) (fun b hb => by rw [← HBS.out] at hb; rw [(bindsK_mem hb).2]; exact got_short) (by omega)).mono ?_
            rintro e w2 ⟨wa, wc, rfl, hwn, hb2⟩
            have HBr2 := mkHid (HBr.out.then hb2)
            clear HBr
            have HWN := mkHid hwn.row
            clear hwn hb2
            obtain ⟨hbe, hle⟩ := back_eq (vs := vs) (Q := Q) HRG.out HOK.out HTP.out HVC.out (fun n hn => by
              have h0 := HVIN.out n hn
              have h1 := HL.out.ok n hn (by omega)
              exact ⟨HTA.out n (fun e => by rw [e, getB_off] at h1; cases h1), h1⟩) (k := 1000) (Nat.le_refl _)
            rw [HBS.out] at hbe hle
            have HLE := mkHid hle
            clear hle
            have HAL := mkHid (apL_le bs tm.flat)
            have hal := HAL.out
            obtain ⟨ab, hab⟩ : ∃ x, apB bs tm.flat = x := ⟨_, rfl⟩
            rw [hab] at hbe ⊢
            clear hab
            have HBE := mkHid hbe
            clear hbe
            obtain ⟨al, hal2⟩ : ∃ x, apL bs tm.flat = x := ⟨_, rfl⟩
            rw [hal2] at HWN HLE hal ⊢
            clear hal2
            have hwm := HWN.out.max
            have hwl := HWN.out.le
            have y9 := X9.out.below HBr2.out
            obtain ⟨j90, j91, j92⟩ := y9
            go_wp2_with fail
            clear j90 j91 j92
            refine (hget_any a11 c11 a12 ts.length c12 r pl _ g (R11.out.below HBr2.out) (by omega) (by omega) (by omega)).mono ?_
            rintro e w3 ⟨ga, gc, rfl, hgr, hb3⟩
            have HBr3 := mkHid (HBr2.out.then hb3)
            clear HBr2
            replace HWN := mkHid (HWN.out.below hb3)
            clear hb3
            rw [HBE.out]
            have hgsh := got_short (l := g) (i := pl)
            obtain ⟨gl, hgl⟩ : ∃ x, getL g pl = x := ⟨_, rfl⟩
            rw [hgl] at hgr HLE hgsh ⊢
            clear hgl
            have HGR := mkHid hgr
            have hgm := hgr.max
            have hgl2 := hgr.le
            clear hgr
            cases ab with
            | false => (go_wp2_with fail; go_ret; exact ⟨ret_bool rfl, HB.out.then HBr3.out⟩)
            | true =>
              obtain rfl := HLE.out HBE.out
              go_wp2_with fail
              refine (sameTK HGR.out HWN.out rfl).mono ?_
              rintro e w4 ⟨rfl, hb4⟩
              have HBr4 := mkHid (HBr3.out.then hb4)
              clear HBr3
              clear hb4
              go_wp2_with fail
              go_ret
              exact ⟨ret_bool rfl, HB.out.then HBr4.out⟩
end Go.Proofs.Ytefnmjoapmnkbaa
namespace Go.Proofs.Ytefnmjoapmnkbaa
open Go.RowKit Go.ChangeShapes Go.WideShapes Go.ChangeAt
open Go.ChangeMaps (open_string)

set_option maxRecDepth 100000 in
set_option maxHeartbeats 1000000 in
theorem HeapBack_lifted (os : Os) (started : os.Started) (H : Type) (enc : TypeId × Value → H) :
    ReturnsInHanded {} Try.checked os 4 .any (Rows.heapBackSpec.pre6 enc Try.prog Try.f4 Rows.heapBackRow.domain false) (Rows.heapBackSpec.post enc Try.prog Try.f4 false true false false) := by
  refine returnsInHanded_of_change (C := Try.checked) Try.own started (by kernel_rfl) Try.func4
    (ChangeSpec.witness6 (enc := enc) (C := Try.checked) false ⟨#[], #[.agg #[.slice none 0 0, .slice none 0 0, .int .i64 0], .slice none 0 0, .agg #[.slice none 0 0, .int .i64 0, .int .i64 0]], []⟩ 8 (by kernel_rfl) (by kernel_rfl) (by kernel_rfl) (by kernel_rfl)) ?_
  intro W base args ds gs before hval0 hW hcnd _
  have hval : ∀ (j : Nat) t v, Try.f4.params[j]? = some t → args[j]? = some v → Value.okWide Try.prog W .any base t v := hval0
  have hW' := hW
  obtain ⟨p, q, hA0, hV, rfl, hfz, hnd⟩ := hW
  have hA : DataW.TrodAll enc Try.prog W 0 (fun _ => true) true Try.f4.params.toList args.toList ds p := hA0
  rw [Try.params4] at hA hval
  obtain ⟨v0, vs0, d0, ds0, p0, q0, hargs, rfl, rfl, h0, r0⟩ := trodAll_cons hA
  obtain ⟨v1, vs1, d1, ds1, p1, q1, rfl, rfl, rfl, h1, r1⟩ := trodAll_cons r0
  obtain ⟨v2, vs2, d2, ds2, p2, q2, rfl, rfl, rfl, h2, r2⟩ := trodAll_cons r1
  obtain ⟨rfl, rfl, rfl⟩ := trodAll_nil r2
  obtain rfl : args = #[v0, v1, v2] := by cases args; simp_all
  obtain ⟨rfl, rfl⟩ := trodVars_none hV
  have k0 := h0
  have lt0 : ∀ x ∈ p0, x.block < W.heap.size := by obtain ⟨m, hm⟩ := k0; exact DataW.trod_lt m _ _ _ hm
  obtain ⟨l0, ts0, r00, a0, b0, e0, c0, rfl, hr0, ht0⟩ : ∃ (l : List Cel) (ts : List Int) (r : Int) (a : Option Addr) (b : Nat) (e : Option Addr) (c : Nat), v0 = .agg #[.slice a l.length b, .slice e ts.length c, .int .i64 r] ∧ Row W a b l ∧ Row W e c ts := by
    obtain ⟨⟨l⟩, rfl⟩ := agg_heap (hval 0 25 v0 rfl rfl)
    obtain ⟨fuel, hf⟩ := h0
    obtain ⟨xs, us, r, a, b, e, c, hc, g0, g1⟩ := open_heap8 hf
    have hc' : l = [.slice a xs.length b, .slice e us.length c, .int .i64 r] := hc
    exact ⟨xs, us, r, a, b, e, c, by rw [hc'], g0, g1⟩
  have k1 := h1
  have lt1 : ∀ x ∈ p1, x.block < W.heap.size := by obtain ⟨m, hm⟩ := k1; exact DataW.trod_lt m _ _ _ hm
  obtain ⟨a1, len1, cap1, rfl⟩ := okWide_slice Try.underlying23 (hval 1 23 v1 rfl rfl)
  obtain ⟨xs1, rfl, hr1⟩ : ∃ xs : List Int, xs.length = len1 ∧ Row W a1 cap1 xs := by
    obtain ⟨fuel, hf⟩ := h1
    exact open_ints8 hf
  have k2 := h2
  have lt2 : ∀ x ∈ p2, x.block < W.heap.size := by obtain ⟨m, hm⟩ := k2; exact DataW.trod_lt m _ _ _ hm
  obtain ⟨y2, a2, b2, rfl, hr2, hf2⟩ : ∃ (y : OpH) (a : Option Addr) (b : Nat), v2 = .agg #[.slice a y.t.length b, .int .i64 y.a, .int .i64 y.b] ∧ Row W a b y.t ∧ pfit (y.a, y.b) := by
    obtain ⟨⟨l⟩, rfl⟩ := agg_op (hval 2 28 v2 rfl rfl)
    obtain ⟨fuel, hf⟩ := h2
    obtain ⟨y, a, b, hc, g0, g1⟩ := open_op8 hf
    have hc' : l = [.slice a y.t.length b, .int .i64 y.a, .int .i64 y.b] := hc
    exact ⟨y, a, b, by rw [hc'], g0, g1⟩
  clear hA0 hval0
  refine (lawBack_any head8_any a0 b0 e0 c0 r00 a1 cap1 a2 b2 y2.a y2.b W l0 ts0 xs1 y2.t hr0 ht0 hr1 hr2 hf2).mono fun e W' ⟨he, bel⟩ => ?_
  subst he
  exact ⟨_, rfl, _, _, _, [], _, [], hW', trodAll_mk1 (shut_bool Try.underlying4 _), (trodAll_cons_mk (Below.trod Try.laidOut (by kernel_rfl) (of_decide_eq_true (by kernel_rfl)) k0 bel lt0) (trodAll_cons_mk (Below.trod Try.laidOut (by kernel_rfl) (of_decide_eq_true (by kernel_rfl)) k1 bel lt1) (trodAll_cons_mk (Below.trod Try.laidOut (by kernel_rfl) (of_decide_eq_true (by kernel_rfl)) k2 bel lt2) trodAll_mk0))), rfl, bel.frame _, fun h => by cases h⟩

theorem HeapBack_over : Rows.heapBackRow.holds Try.pinned (OpenSpec.ofChange Rows.heapBackSpec) :=
  OpenClaim.holds_of_wide 4 Try.f4 rfl rfl rfl rfl rfl rfl rfl ⟨rfl, rfl, rfl, rfl, rfl⟩ rfl rfl rfl rfl rfl (by kernel_rfl) Try.func4 (by kernel_rfl)
    (of_decide_eq_true (by kernel_rfl)) (by unfold Func.isWrapper; first | (rw [if_pos (by decide +kernel)]; kernel_rfl) | (rw [if_neg (by decide +kernel)]; exact ⟨rfl, rfl⟩))
    (fun os started H enc _ => HeapBack_lifted os started H enc)

theorem HeapBack_holds : Rows.HeapBackSaid := HeapBack_over
end Go.Proofs.Ytefnmjoapmnkbaa
