import Derived.Test.YtefnmjoapmnkbaaZr7
import Derived.OrdersHeld
import Derived.Deep.RegionHeld3
set_option linter.unusedVariables false
namespace Go.Proofs.Ytefnmjoapmnkbaa
open Go.RowKit

/-! ### what making alike turns, and going back -/
structure Bnd8 (xs : List Cel) (ts : List Int) (xs' : List Cel) (ts' : List Int) (L : List Int) : Prop where
  len : xs'.length = xs.length
  tr : ts' = ts ++ L
  free : ∀ t ∈ L, ∃ k : Nat, t = k ∧ k < xs.length ∧ sfreeB (cellN xs k) k = true
  out : ∀ k : Nat, (k : Int) ∉ L → cellN xs' k = cellN xs k
  inn : ∀ k : Nat, (k : Int) ∈ L → (cellN xs' k).k = (cellN xs k).k ∧ (cellN xs' k).s = (cellN xs k).s
  cnt : L.length + freeN xs' ≤ freeN xs
theorem Bnd8.refl (xs : List Cel) (ts : List Int) : Bnd8 xs ts xs ts [] := ⟨rfl, by simp, fun t h => by simp at h, fun _ _ => rfl, fun k h => by simp at h, by simp⟩
theorem Bnd8.trans {xs xs' xs'' : List Cel} {ts ts' ts'' L L' : List Int} (h : Bnd8 xs ts xs' ts' L) (h' : Bnd8 xs' ts' xs'' ts'' L') : Bnd8 xs ts xs'' ts'' (L ++ L') := by
  refine ⟨h'.len.trans h.len, by rw [h'.tr, h.tr, List.append_assoc], fun t ht => ?_, fun k hk => ?_, fun k hk => ?_, by have := h.cnt; have := h'.cnt; rw [List.length_append]; omega⟩
  · rcases List.mem_append.1 ht with ht | ht
    · exact h.free t ht
    · obtain ⟨k, rfl, hk, hf⟩ := h'.free t ht
      rw [h.len] at hk
      by_cases hm : (k : Int) ∈ L
      · exact h.free _ hm
      · rw [h.out k hm] at hf
        exact ⟨k, rfl, hk, hf⟩
  · rw [List.mem_append] at hk
    rw [h'.out k (fun e => hk (.inr e)), h.out k (fun e => hk (.inl e))]
  · by_cases h1 : (k : Int) ∈ L'
    · obtain ⟨a, b⟩ := h'.inn k h1
      by_cases h2 : (k : Int) ∈ L
      · obtain ⟨c, d⟩ := h.inn k h2
        exact ⟨a.trans c, b.trans d⟩
      · rw [h.out k h2] at a b; exact ⟨a, b⟩
    · have h2 : (k : Int) ∈ L := (List.mem_append.1 hk).resolve_right h1
      rw [h'.out k h1]; exact h.inn k h2
theorem give_free {xs : List Cel} {x y : Nat} (h2 : sfreeB (cellN xs x) x = true ∨ sfreeB (cellN xs y) y = true) : sfreeB (cellN xs (giveA xs x y)) (giveA xs x y) = true := by
  unfold giveA
  split
  · rename_i h; exact h
  · rename_i h; exact h2.resolve_right h
theorem Bnd8.one {xs : List Cel} {ts : List Int} {a b : Nat} (ha : a < xs.length) (hf : sfreeB (cellN xs a) a = true) (hab : a ≠ b) : Bnd8 xs ts (bindS xs a b) (ts ++ [(a : Int)]) [(a : Int)] := by
  refine ⟨bindS_length _ _ _, rfl, fun t ht => ?_, fun k hk => ?_, fun k hk => ?_, by have := freeN_bind ha hf hab; simp; omega⟩
  · simp at ht; subst ht; exact ⟨a, rfl, ha, hf⟩
  · rw [cellN_bind ha, if_neg (fun e => hk (by simp [e]))]
  · simp at hk
    have : k = a := by omega
    subst this
    rw [cellN_bind ha, if_pos rfl]
    exact ⟨rfl, rfl⟩
theorem URun.bnd {xs : List Cel} {ts : List Int} {ps met : List (Int × Int)} {r : Option (List Cel × List Int)} (h : URun xs ts ps met r) : ∀ {xs' : List Cel} {ts' : List Int}, r = some (xs', ts') → ∃ L, Bnd8 xs ts xs' ts' L := by
  induction h with
  | done xs ts met => intro xs' ts' e; cases e; exact ⟨[], .refl _ _⟩
  | off => intro _ _ e; cases e
  | skip _ _ _ ih => intro _ _ e; exact ih e
  | circle => intro _ _ e; cases e
  | bind hf h h2 h3 hr ih =>
    intro xs' ts' e
    obtain ⟨L, hL⟩ := ih e
    have hlt := hf.lt
    refine ⟨_, (Bnd8.one (ts := _) (b := _) ?_ (give_free h2) ?_).trans hL⟩
    · unfold giveA
      split
      · exact hlt.2.1
      · exact hlt.1
    · unfold giveA giveT
      have hne : ¬ _ := fun e => h (.inl e)
      split
      · exact fun e => hne e.symm
      · exact hne
  | unlike => intro _ _ e; cases e
  | plain _ _ _ _ _ _ ih => intro _ _ e; exact ih e
  | tops _ _ _ _ _ _ ih => intro _ _ e; exact ih e
theorem uout_bnd {xs xs' : List Cel} {ts ts' : List Int} {p q : Int} {t : Bool} (h : UOut xs ts p q xs' ts' t) : ∃ L, Bnd8 xs ts xs' ts' L := by
  rcases h with ⟨_, _, rfl, rfl⟩ | ⟨_, h⟩
  · exact ⟨[], .refl _ _⟩
  · exact h.bnd rfl
theorem cellN_unbind (ys : List Cel) (t : Int) (k : Nat) (hk : k < ys.length) : cellN (unbind ys t) k = if t = k then ⟨(cellN ys k).k, (cellN ys k).s, (k : Int)⟩ else cellN ys k := by
  by_cases ht : 0 ≤ t ∧ t < (ys.length : Int)
  · obtain ⟨n, rfl⟩ : ∃ n : Nat, t = n := ⟨t.toNat, by omega⟩
    have hn : n < ys.length := by omega
    rw [unbind_in hn, cellN_at (by simpa using hk), cellN_at hk, List.getElem_set]
    by_cases e : n = k
    · subst e; simp
    · rw [if_neg e, if_neg (by omega)]
  · rw [unbind_out ht, if_neg (by omega)]
theorem cellN_fold (L : List Int) : ∀ (ys : List Cel) (k : Nat), k < ys.length → cellN (L.foldl unbind ys) k = if (k : Int) ∈ L then ⟨(cellN ys k).k, (cellN ys k).s, (k : Int)⟩ else cellN ys k := by
  induction L with
  | nil => intro ys k hk; simp
  | cons t L ih =>
    intro ys k hk
    rw [List.foldl_cons, ih _ k (by rw [unbind_length]; exact hk), cellN_unbind ys t k hk]
    by_cases h1 : (k : Int) ∈ L
    · rw [if_pos h1, if_pos (List.mem_cons_of_mem _ h1)]
      by_cases e : t = (k : Int)
      · rw [if_pos e]
      · rw [if_neg e]
    · rw [if_neg h1]
      by_cases e : t = (k : Int)
      · rw [if_pos e, if_pos (by rw [e]; exact List.mem_cons_self)]
      · rw [if_neg e, if_neg (by intro hm; rcases List.mem_cons.1 hm with h | h; exact e h.symm; exact h1 h)]
theorem Bnd8.back {xs xs' : List Cel} {ts ts' L : List Int} (h : Bnd8 xs ts xs' ts' L) : L.foldl unbind xs' = xs := by
  apply List.ext_getElem
  · rw [foldl_length, h.len]
  · intro k h1 h2
    have e := cellN_fold L xs' k (by rw [h.len]; exact h2)
    rw [cellN_at h1] at e
    rw [e, ← cellN_at h2]
    split
    · rename_i hm
      obtain ⟨a, b⟩ := h.inn k hm
      obtain ⟨q, hq, hl, hf⟩ := h.free _ hm
      have : q = k := by omega
      subst this
      rw [a, b]
      simp [sfreeB] at hf
      have hn := hf.2
      cases hc : cellN xs q with
      | mk ck cs cn => rw [hc] at hn; simp at hn ⊢; exact hn.symm
    · rename_i hm; exact h.out k hm
/-- gone back to a mark taken at xs, ts -/
theorem undo_back {xs xs' zs : List Cel} {ts ts' L : List Int} (h : Bnd8 xs ts xs' ts' L) (hz : zs.take xs.length = xs') : undoL zs ts' xs.length ts.length = xs ∧ ts'.take (begN ts'.length ts.length) = ts := by
  have hzl : xs.length ≤ zs.length := by
    have := congrArg List.length hz
    rw [List.length_take, h.len] at this
    omega
  have h1 : begN zs.length (xs.length : Int) = xs.length := by unfold begN; omega
  have h2 : begN ts'.length (ts.length : Int) = ts.length := by
    have := congrArg List.length h.tr
    rw [List.length_append] at this
    unfold begN; omega
  unfold undoL
  rw [h1, h2, hz, h.tr]
  simp
  exact h.back
end Go.Proofs.Ytefnmjoapmnkbaa
set_option linter.unusedVariables false
namespace Go.Proofs.Ytefnmjoapmnkbaa
open Go.RowKit

/-! ### Put leaves what was there -/
theorem setNs_take (l : List Cel) (p : Nat) (v : Int) (m : Nat) (h : m ≤ p) : (setNs l p v).take m = l.take m := by
  unfold setNs
  split
  · rfl
  · rw [List.take_set_of_le h]
theorem slotsT_pre (ts : List Tm) : ∀ (s : List Cel × List Int) (m : Nat), m ≤ s.1.length → (slotsT s ts).1.take m = s.1.take m := by
  induction ts with
  | nil => intro s m h; rfl
  | cons t ts ih =>
    intro s m h
    unfold slotsT at ih ⊢
    rw [List.foldl_cons, ih _ m (by simp; omega)]
    simp only
    rw [List.take_append_of_le_length h]
mutual
theorem layT_pre : ∀ (t : Tm) (s : List Cel × List Int) (m : Nat), m ≤ s.1.length → (layT t s).1.take m = s.1.take m
  | .mk c ts, s, m, h => by
    unfold layT
    rw [layTs_pre ts _ _ m (by omega) (by rw [(slotsT_length ts _).1]; simp; omega), slotsT_pre ts _ m (by simp; omega)]
    simp only
    rw [List.take_append_of_le_length h]
theorem layTs_pre : ∀ (ts : List Tm) (p : Nat) (s : List Cel × List Int) (m : Nat), m ≤ p → m ≤ s.1.length → (layTs ts p s).1.take m = s.1.take m
  | [], p, s, m, _, _ => by unfold layTs; rfl
  | t :: ts, p, s, m, hp, h => by
    unfold layTs
    by_cases h3 : t.hd.k = 3
    · rw [if_pos h3, layTs_pre ts (p + 1) _ m (by omega) (by
        have := congrArg List.length (setNs_take (layT t s).1 p (s.1.length : Int) m hp)
        have h1 := (layT_length t s).1
        simp only [List.length_take] at this
        simp only
        omega)]
      simp only
      rw [setNs_take _ _ _ m hp, layT_pre t s m h]
    · rw [if_neg h3, layTs_pre ts (p + 1) s m (by omega) h]
end
theorem putS_pre (xs : List Cel) (ps : List Int) (t : Tm) : (putS xs ps t).1.1.take xs.length = xs := by
  unfold putS
  split
  · rw [layT_pre t (xs, ps) xs.length (Nat.le_refl _)]; simp
  · split
    · simp
    · simp
theorem pout_pre {xs : List Cel} {ps : List Int} {r : Int} {qs : List Int} {t : Tm} {xs' : List Cel} {pl : Int} {at' : List Int} {er : Int} (h : POut xs ps r (putS xs qs t) xs' pl at' er) : xs'.take xs.length = xs ∧ ((xs'.length : Int) ≤ r ∨ xs' = xs) := by
  rcases h with ⟨_, rfl, _⟩ | ⟨h, rfl, _⟩
  · exact ⟨by simp, .inr rfl⟩
  · exact ⟨putS_pre _ _ _, .inl h⟩
end Go.Proofs.Ytefnmjoapmnkbaa
set_option linter.unusedVariables false
namespace Go.Proofs.Ytefnmjoapmnkbaa
open Go.RowKit

/-! ### HeapMarks -/
def opV (a : Option Addr) (n cap : Nat) (x y : Int) : Value := .agg #[.slice a n cap, .int .i64 x, .int .i64 y]
theorem few_of_slots {l : List Cel} (h : SlotsOk l) : Few l := by
  intro k hk
  by_cases hl : k < l.length
  · rw [cellN_at hl] at hk ⊢
    exact (top_of h hl hk).2.1
  · unfold cellN at hk
    rw [List.getD_eq_getElem?_getD, List.getElem?_eq_none (by omega)] at hk
    simp at hk
theorem Bnd8.few {xs xs' : List Cel} {ts ts' L : List Int} (h : Bnd8 xs ts xs' ts' L) (hf : Few xs) : Few xs' := by
  intro k hk
  by_cases hm : (k : Int) ∈ L
  · obtain ⟨q, hq, hl, hfr⟩ := h.free _ hm
    have : q = k := by omega
    subst this
    rw [(h.inn q hm).1] at hk
    simp [sfreeB] at hfr
    omega
  · rw [h.out k hm] at hk ⊢; exact hf k hk
theorem Bnd8.trail {xs xs' : List Cel} {ts ts' L : List Int} (h : Bnd8 xs ts xs' ts' L) : ts'.length ≤ ts.length + xs.length := by
  have := h.cnt
  have := freeN_le xs
  rw [h.tr, List.length_append]; omega
theorem Bnd8.short {xs xs' : List Cel} {ts ts' L : List Int} (h : Bnd8 xs ts xs' ts' L) : xs'.length = xs.length := h.len
theorem known_nil (m : Nat) (vs : List Int) : vs.all (knownV m []) = true := by
  rw [List.all_eq_true]
  intro v _
  unfold knownV
  rw [dif_neg (by simp)]
/-- Undo to a mark taken at xs, ts -/
theorem undoB {a : Option Addr} {cap : Nat} {a' : Option Addr} {cap' : Nat} {r : Int} {ra : Option Addr} {rn rc : Nat} {w : World} {xs xs' zs : List Cel} {ts ts' L : List Int} (h : Bnd8 xs ts xs' ts' L) (hz : zs.take xs.length = xs') (hx : Row w a cap zs) (ht : Row w a' cap' ts') (hl : zs.length ≤ 1000000) (hl2 : ts'.length ≤ 1000000) :
    Calls Try.prog 30 #[hv a zs.length cap a' ts'.length cap' r, .agg #[.int .i64 (xs.length : Int), .int .i64 (ts.length : Int), .slice ra rn rc]] w fun e w' => ∃ a2 cap2 a3 cap3, e = .returned (hv a2 xs.length cap2 a3 ts.length cap3 r) ∧ Row w' a2 cap2 xs ∧ Row w' a3 cap3 ts ∧ Below w.heap.size w w' := by
  obtain ⟨h1, h2⟩ := undo_back h hz
  have hb : begN ts'.length (ts.length : Int) = ts.length := by
    have := congrArg List.length h.tr
    rw [List.length_append] at this
    unfold begN; omega
  have hzl : xs.length ≤ zs.length := by
    have := congrArg List.length hz
    rw [List.length_take, h.len] at this
    omega
  have hu := undo_any a cap a' cap' r (xs.length : Int) (ts.length : Int) ra rn rc w zs ts' hx ht hl hl2 (by omega) (by omega) (by omega) (by have := congrArg List.length h.tr; rw [List.length_append] at this; omega)
  rw [h1, h2, hb] at hu
  exact hu
end Go.Proofs.Ytefnmjoapmnkbaa
set_option linter.unusedVariables false
namespace Go.Proofs.Ytefnmjoapmnkbaa
open Go.RowKit

/-! ### places that are known -/
def PlOk (m : Nat) (ps : List Int) : Prop := ∀ p ∈ ps, p = -1 ∨ 0 ≤ p ∧ p < (m : Int)
theorem PlOk.nil (m : Nat) : PlOk m [] := fun p h => by cases h
theorem PlOk.known {m : Nat} {ps : List Int} (h : PlOk m ps) (vs : List Int) : vs.all (knownV m ps) = true := by
  rw [List.all_eq_true]; intro v _
  unfold knownV
  split
  · rename_i hv
    rcases h _ (List.getElem_mem (by omega : v.toNat < ps.length)) with e | ⟨h1, h2⟩
    · simp [e]
    · simp [h1, h2]
  · rfl
theorem PlOk.mono {m m' : Nat} {ps : List Int} (h : PlOk m ps) (hm : m ≤ m') : PlOk m' ps := fun p hp => by
  rcases h p hp with e | ⟨h1, h2⟩
  · exact .inl e
  · exact .inr ⟨h1, by omega⟩
theorem PlOk.widen {m : Nat} (vs : List Int) : ∀ {ps : List Int}, PlOk m ps → PlOk m (widenL ps vs) := by
  induction vs with
  | nil => intro ps h; exact h
  | cons v vs ih =>
    intro ps h
    unfold widenL at ih ⊢
    rw [List.foldl_cons]
    refine ih fun p hp => ?_
    rcases List.mem_append.1 hp with hp | hp
    · exact h p hp
    · exact .inl (List.mem_replicate.1 hp).2
theorem PlOk.set {m : Nat} {ps : List Int} (h : PlOk m ps) (k n : Nat) (hn : n < m) : PlOk m (ps.set k (n : Int)) := fun p hp => by
  rcases List.mem_or_eq_of_mem_set hp with hp | rfl
  · exact h p hp
  · exact .inr ⟨by omega, by omega⟩
theorem PlOk.slot {n : Nat} {ps : List Int} (h : PlOk n ps) (c : Cel) : PlOk (n + 1) (slotM n ps c).2 := by
  unfold slotM
  split
  · split
    · exact (h.mono (by omega)).set _ _ (by omega)
    · exact h.mono (by omega)
  · split <;> exact h.mono (by omega)
theorem PlOk.slots (ts : List Tm) : ∀ {s : List Cel × List Int}, PlOk s.1.length s.2 → PlOk (slotsT s ts).1.length (slotsT s ts).2 := by
  induction ts with
  | nil => intro s h; exact h
  | cons t ts ih =>
    intro s h
    unfold slotsT at ih ⊢
    rw [List.foldl_cons]
    refine ih ?_
    simp only [List.length_append, List.length_cons, List.length_nil]
    exact h.slot _
mutual
theorem PlOk.lay : ∀ (t : Tm) {s : List Cel × List Int}, PlOk s.1.length s.2 → PlOk (layT t s).1.length (layT t s).2
  | .mk c ts, s, h => by
    unfold layT
    refine PlOk.lays ts _ (PlOk.slots ts ?_)
    simp only [List.length_append, List.length_cons, List.length_nil]
    exact h.mono (by omega)
theorem PlOk.lays : ∀ (ts : List Tm) (p : Nat) {s : List Cel × List Int}, PlOk s.1.length s.2 → PlOk (layTs ts p s).1.length (layTs ts p s).2
  | [], _, s, h => by unfold layTs; exact h
  | t :: ts, p, s, h => by
    unfold layTs
    refine PlOk.lays ts (p + 1) ?_
    by_cases h3 : t.hd.k = 3
    · rw [if_pos h3]
      simp only [setNs_length]
      exact PlOk.lay t h
    · rw [if_neg h3]; exact h
end
theorem PlOk.put {xs : List Cel} {ps : List Int} (h : PlOk xs.length ps) (t : Tm) : PlOk (putS xs ps t).1.1.length (putS xs ps t).1.2 := by
  unfold putS
  split
  · exact PlOk.lay t h
  · split
    · exact h
    · simp only [List.length_append, List.length_cons, List.length_nil]
      exact h.slot _
theorem layT_places (t : Tm) (s : List Cel × List Int) : (layT t s).2.length = s.2.length := (layT_length t s).2
theorem putS_places (xs : List Cel) (ps : List Int) (t : Tm) : (putS xs ps t).1.2.length = ps.length := by
  unfold putS
  split
  · exact layT_places t _
  · split
    · rfl
    · exact slotM_length _ _ _

/-! ### Tops have few arguments -/
theorem cellN_app_l {xs ys : List Cel} {k : Nat} (h : k < xs.length) : cellN (xs ++ ys) k = cellN xs k := by
  unfold cellN
  rw [List.getD_eq_getElem?_getD, List.getD_eq_getElem?_getD, List.getElem?_append_left h]
theorem cellN_app_r {xs ys : List Cel} {k : Nat} (h : xs.length ≤ k) : cellN (xs ++ ys) k = cellN ys (k - xs.length) := by
  unfold cellN
  rw [List.getD_eq_getElem?_getD, List.getD_eq_getElem?_getD, List.getElem?_append_right h]
theorem cellN_off {xs : List Cel} {k : Nat} (h : xs.length ≤ k) : cellN xs k = ⟨0, ⟨#[]⟩, 0⟩ := by
  unfold cellN
  rw [List.getD_eq_getElem?_getD, List.getElem?_eq_none h]; rfl
theorem cellN_setNs (xs : List Cel) (p : Nat) (v : Int) (k : Nat) (hp : p < xs.length) : cellN (setNs xs p v) k = if k = p then ⟨(cellN xs p).k, (cellN xs p).s, v⟩ else cellN xs k := by
  rw [setNs_at hp, cellN_at hp]
  unfold cellN
  simp only [List.getD_eq_getElem?_getD]
  by_cases e : k = p
  · subst e
    rw [List.getElem?_set_self hp, if_pos rfl]; rfl
  · rw [List.getElem?_set_ne (fun h => e h.symm), if_neg e]
theorem cellN_take {xs : List Cel} {m k : Nat} (h : k < m) : cellN (xs.take m) k = cellN xs k := by
  unfold cellN
  rw [List.getD_eq_getElem?_getD, List.getD_eq_getElem?_getD, List.getElem?_take_of_lt h]
theorem slotM_ne (n : Nat) (ps : List Int) (c : Cel) : (slotM n ps c).1.k ≠ 4 := by
  unfold slotM
  split
  · split <;> simp
  · split <;> simp
theorem Few.app {xs ys : List Cel} (h : Few xs) (h2 : Few ys) : Few (xs ++ ys) := by
  intro k hk
  by_cases hl : k < xs.length
  · rw [cellN_app_l hl] at hk ⊢; exact h k hk
  · rw [cellN_app_r (by omega)] at hk ⊢; exact h2 _ hk
theorem Few.one {c : Cel} (h : c.k = 4 → c.n ≤ 6) : Few [c] := by
  intro k hk
  match k with
  | 0 => exact h hk
  | k + 1 => rw [cellN_off (by simp)] at hk; simp at hk
theorem Few.setNs {xs : List Cel} (h : Few xs) {p : Nat} (hp : p < xs.length) (h4 : (cellN xs p).k ≠ 4) (v : Int) : Few (setNs xs p v) := by
  intro k hk
  rw [cellN_setNs xs p v k hp] at hk ⊢
  by_cases e : k = p
  · rw [if_pos e] at hk; exact absurd hk h4
  · rw [if_neg e] at hk ⊢; exact h k hk
theorem slotsT_new (ts : List Tm) : ∀ (s : List Cel × List Int) (i : Nat), i < ts.length → (cellN (slotsT s ts).1 (s.1.length + i)).k ≠ 4 := by
  induction ts with
  | nil => intro s i h; simp at h
  | cons t ts ih =>
    intro s i h
    have hpre := slotsT_pre ts (s.1 ++ [(slotM s.1.length s.2 t.hd).1], (slotM s.1.length s.2 t.hd).2) (s.1.length + 1) (by simp)
    unfold slotsT at ih hpre ⊢
    rw [List.foldl_cons]
    match i with
    | 0 =>
      rw [← cellN_take (m := s.1.length + 1) (by omega), hpre, cellN_take (by omega), Nat.add_zero, cellN_app_r (Nat.le_refl _)]
      simp
      exact slotM_ne _ _ _
    | i + 1 =>
      have := ih (s.1 ++ [(slotM s.1.length s.2 t.hd).1], (slotM s.1.length s.2 t.hd).2) i (by simp at h; omega)
      simp only [List.length_append, List.length_cons, List.length_nil] at this
      rw [show s.1.length + (i + 1) = s.1.length + (0 + 1) + i by omega]
      exact this
theorem Few.slots (ts : List Tm) : ∀ {s : List Cel × List Int}, Few s.1 → Few (slotsT s ts).1 := by
  induction ts with
  | nil => intro s h; exact h
  | cons t ts ih =>
    intro s h
    unfold slotsT at ih ⊢
    rw [List.foldl_cons]
    exact ih (h.app (Few.one fun e => absurd e (slotM_ne _ _ _)))
theorem top_few {c : Cel} (h : cellOk c = true) (h3 : c.k = 3) : c.n ≤ 6 := by
  unfold cellOk at h
  simp [h3] at h
  exact h.2
mutual
theorem Few.lay : ∀ (t : Tm) {s : List Cel × List Int}, t.ok → t.hd.k = 3 → Few s.1 → Few (layT t s).1
  | .mk c ts, s, hok, h3, h => by
    unfold layT
    refine Few.lays ts _ hok.2.2 (Few.slots ts (h.app (Few.one fun _ => show c.n ≤ 6 from top_few (c := c) hok.1 h3))) ?_ ?_
    · rw [(slotsT_length ts _).1]; simp
    · intro i hi
      have := slotsT_new ts (s.1 ++ [⟨4, c.s, c.n⟩], s.2) i hi
      simpa using this
theorem Few.lays : ∀ (ts : List Tm) (p : Nat) {s : List Cel × List Int}, oks ts → Few s.1 → p + ts.length ≤ s.1.length → (∀ i, i < ts.length → (cellN s.1 (p + i)).k ≠ 4) → Few (layTs ts p s).1
  | [], _, s, _, h, _, _ => by unfold layTs; exact h
  | t :: ts, p, s, hok, h, hp, h4 => by
    unfold layTs
    simp only [List.length_cons] at hp h4
    by_cases h3 : t.hd.k = 3
    · rw [if_pos h3]
      have hlen := (layT_length t s).1
      have hpre : ∀ k, k < s.1.length → cellN (layT t s).1 k = cellN s.1 k := fun k hk => by
        rw [← cellN_take (xs := (layT t s).1) hk, layT_pre t s s.1.length (Nat.le_refl _), cellN_take hk]
      refine Few.lays ts (p + 1) hok.2 ((Few.lay t hok.1 h3 h).setNs (by omega) (by rw [hpre p (by omega)]; exact h4 0 (by omega)) _) (by simp only [setNs_length]; omega) fun i hi => ?_
      simp only
      rw [cellN_setNs _ _ _ _ (by omega), if_neg (by omega), hpre _ (by omega)]
      have := h4 (i + 1) (by omega)
      rwa [show p + (i + 1) = p + 1 + i by omega] at this
    · rw [if_neg h3]
      refine Few.lays ts (p + 1) hok.2 h (by omega) fun i hi => ?_
      have := h4 (i + 1) (by omega)
      rwa [show p + (i + 1) = p + 1 + i by omega] at this
end
theorem Few.put {xs : List Cel} (h : Few xs) (ps : List Int) {t : Tm} (hok : t.ok) : Few (putS xs ps t).1.1 := by
  unfold putS
  split
  · rename_i h3; exact Few.lay t hok h3 h
  · split
    · exact h
    · exact h.app (Few.one fun e => absurd e (slotM_ne _ _ _))

/-! ### what Put says, with what may be asked of it again -/
theorem pout_kept {xs : List Cel} {at_ ps : List Int} {r : Int} {t : Tm} {xs' : List Cel} {pl : Int} {at' : List Int} {er : Int} (h : POut xs ps r (putS xs (widenL ps (varsL t.flat)) t) xs' pl at' er) (hok : t.ok) (h200 : t.flat.length ≤ 200) (hf : Few xs) (hp : PlOk xs.length ps) (hl : ps.length ≤ 1000) :
    Few xs' ∧ PlOk xs'.length at' ∧ at'.length ≤ 1000 ∧ xs'.take xs.length = xs ∧ ((xs'.length : Int) ≤ r ∨ xs' = xs) ∧ (er = 0 ∨ er = 80) := by
  obtain ⟨hp1, hp2⟩ := pout_pre h
  rcases h with ⟨_, rfl, rfl, rfl, rfl⟩ | ⟨_, rfl, rfl, rfl, rfl⟩
  · exact ⟨hf, PlOk.nil _, by simp, hp1, hp2, .inr rfl⟩
  · refine ⟨hf.put _ hok, (hp.widen _).put t, ?_, hp1, hp2, .inl rfl⟩
    rw [putS_places]
    refine widen_short _ _ hl fun v hv => ?_
    have hr : rightB t.flat = true := right_flat hok h200
    have := (vars_range hr v hv).2
    omega

/-! ### going back to a mark, whatever was put and made alike behind it -/
structure Und (l : List Cel) (ts0 : List Int) (xs : List Cel) (ts : List Int) (L : List Int) : Prop where
  len : l.length ≤ xs.length
  tr : ts = ts0 ++ L
  out : ∀ k : Nat, k < l.length → (k : Int) ∉ L → cellN xs k = cellN l k
  inn : ∀ k : Nat, k < l.length → (k : Int) ∈ L → (cellN xs k).k = (cellN l k).k ∧ (cellN xs k).s = (cellN l k).s ∧ sfreeB (cellN l k) k = true
theorem Und.refl (l : List Cel) (ts0 : List Int) : Und l ts0 l ts0 [] := ⟨Nat.le_refl _, by simp, fun _ _ _ => rfl, fun k _ h => by cases h⟩
theorem Und.put {l : List Cel} {ts0 : List Int} {xs xs' : List Cel} {ts L : List Int} (h : Und l ts0 xs ts L) (hz : xs'.take xs.length = xs) : Und l ts0 xs' ts L := by
  have hzl : xs.length ≤ xs'.length := by
    have := congrArg List.length hz
    rw [List.length_take] at this
    omega
  have he : ∀ k, k < l.length → cellN xs' k = cellN xs k := fun k hk => by
    have h1 := h.len
    rw [← cellN_take (xs := xs') (m := xs.length) (by omega), hz]
  exact ⟨by have := h.len; omega, h.tr, fun k hk hn => by rw [he k hk]; exact h.out k hk hn, fun k hk hm => by rw [he k hk]; exact h.inn k hk hm⟩
theorem Und.bnd {l : List Cel} {ts0 : List Int} {xs xs' : List Cel} {ts ts' L L' : List Int} (h : Und l ts0 xs ts L) (h' : Bnd8 xs ts xs' ts' L') : Und l ts0 xs' ts' (L ++ L') := by
  refine ⟨by rw [h'.len]; exact h.len, by rw [h'.tr, h.tr, List.append_assoc], fun k hk hn => ?_, fun k hk hm => ?_⟩
  · rw [List.mem_append] at hn
    rw [h'.out k (fun e => hn (.inr e)), h.out k hk (fun e => hn (.inl e))]
  · by_cases h1 : (k : Int) ∈ L'
    · obtain ⟨a, b⟩ := h'.inn k h1
      by_cases h2 : (k : Int) ∈ L
      · obtain ⟨c, d, e⟩ := h.inn k hk h2
        exact ⟨a.trans c, b.trans d, e⟩
      · obtain ⟨q, hq, _, hf⟩ := h'.free _ h1
        have : q = k := by omega
        subst this
        rw [h.out q hk h2] at a b hf
        exact ⟨a, b, hf⟩
    · have h2 : (k : Int) ∈ L := (List.mem_append.1 hm).resolve_right h1
      rw [h'.out k h1]; exact h.inn k hk h2
theorem Und.back {l : List Cel} {ts0 : List Int} {xs : List Cel} {ts L : List Int} (h : Und l ts0 xs ts L) : undoL xs ts l.length ts0.length = l ∧ ts.take (begN ts.length ts0.length) = ts0 := by
  have h0 := h.len
  have h1 : begN xs.length (l.length : Int) = l.length := by unfold begN; omega
  have h2 : begN ts.length (ts0.length : Int) = ts0.length := by
    have := congrArg List.length h.tr
    rw [List.length_append] at this
    unfold begN; omega
  unfold undoL
  rw [h1, h2, h.tr]
  refine ⟨?_, by simp⟩
  simp only [List.drop_left]
  have hl : (xs.take l.length).length = l.length := by rw [List.length_take]; omega
  apply List.ext_getElem
  · rw [foldl_length, hl]
  · intro k q1 q2
    have e := cellN_fold L (xs.take l.length) k (by omega)
    rw [cellN_at q1, cellN_take q2] at e
    rw [e, ← cellN_at q2]
    split
    · rename_i hm
      obtain ⟨a, b, hf⟩ := h.inn k q2 hm
      rw [a, b]
      simp [sfreeB] at hf
      have hn := hf.2
      cases hc : cellN l k with
      | mk ck cs cn => rw [hc] at hn; simp at hn ⊢; exact hn.symm
    · rename_i hm; exact h.out k q2 hm

/-! ### how many slots a term takes -/
def funsL (l : List Cel) : Nat := (l.filter fun c => c.k == 3).length
theorem funsL_append (a b : List Cel) : funsL (a ++ b) = funsL a + funsL b := by simp [funsL]
theorem funsL_cons (c : Cel) (l : List Cel) : funsL (c :: l) = (if c.k = 3 then 1 else 0) + funsL l := by
  unfold funsL
  rw [List.filter_cons]
  by_cases h : c.k = 3
  · simp [h]; omega
  · simp [h]
theorem flat_one8 {t : Tm} (h : t.ok) (h3 : t.hd.k ≠ 3) : t.flat = [t.hd] := by
  obtain ⟨_, h2, _⟩ := (ok_iff t).1 h
  rw [flat_cons]
  unfold ar at h2
  rw [if_neg h3] at h2
  rw [List.eq_nil_of_length_eq_zero h2]; rfl
mutual
theorem slotsN_eq : ∀ t : Tm, t.ok → t.hd.k = 3 → slotsN t + 1 = t.flat.length + funsL t.flat
  | .mk c ts, h, h3 => by
    have := slotsNs_eq ts h.2.2
    have h3' : c.k = 3 := h3
    simp only [slotsN, Tm.flat]
    rw [funsL_cons, if_pos h3', List.length_cons]; omega
theorem slotsNs_eq : ∀ ts : List Tm, oks ts → slotsNs ts + ts.length = (flats ts).length + funsL (flats ts)
  | [], _ => rfl
  | t :: ts, h => by
    have h2 := slotsNs_eq ts h.2
    simp only [slotsNs, flats]
    rw [List.length_cons, List.length_append, funsL_append]
    by_cases h3 : t.hd.k = 3
    · rw [if_pos h3]; have := slotsN_eq t h.1 h3; have := flat_pos t; omega
    · rw [if_neg h3, flat_one8 h.1 h3, funsL_cons, if_neg h3]
      have h0 : funsL [] = 0 := rfl
      rw [h0]
      simp only [List.length_cons, List.length_nil]
      omega
end
end Go.Proofs.Ytefnmjoapmnkbaa
set_option linter.unusedVariables false
namespace Go.Proofs.Ytefnmjoapmnkbaa
open Go.RowKit

/-- three cells of a block -/
structure C38 (W : World) (V : Nat) (x y z : Value) : Prop where
  c0 : W.cell? ⟨V, 0, none⟩ = some x
  c1 : W.cell? ⟨V, 1, none⟩ = some y
  c2 : W.cell? ⟨V, 2, none⟩ = some z
theorem C38.below {W W' : World} {V : Nat} {x y z : Value} (h : C38 W V x y z) (hb : Below W.heap.size W W') : C38 W' V x y z := ⟨keep h.c0 hb, keep h.c1 hb, keep h.c2 hb⟩
theorem C38.lt {W : World} {V : Nat} {x y z : Value} (h : C38 W V x y z) : V < W.heap.size := cell_lt h.c0
theorem C38.oth {W W' : World} {V G : Nat} {x y z : Value} (h : C38 W V x y z) (ho : Oth G W W') (hne : V < G) : C38 W' V x y z := ⟨ho _ _ _ (by omega) h.c0, ho _ _ _ (by omega) h.c1, ho _ _ _ (by omega) h.c2⟩
/-- a box that holds a heap, and is all that its block is -/
def ZH (W : World) (V : Nat) (a : Option Addr) (n c : Nat) (a' : Option Addr) (n' c' : Nat) (r : Int) : Prop := W.heap[V]? = some (.cells #[.slice a n c, .slice a' n' c', .int .i64 r] 25 (0, 0))
section
variable {W W' : World} {V : Nat} {a : Option Addr} {n c : Nat} {a' : Option Addr} {n' c' : Nat} {r : Int}
theorem ZH.new (W : World) (a : Option Addr) (n c : Nat) (a' : Option Addr) (n' c' : Nat) (r : Int) : ZH (W.alloc (.cells #[.slice a n c, .slice a' n' c', .int .i64 r] 25)) W.heap.size a n c a' n' c' r := heap_alloc_new W _
theorem ZH.lt (h : ZH W V a n c a' n' c' r) : V < W.heap.size := by
  unfold ZH at h
  exact (Array.getElem?_eq_some_iff.1 h).1
theorem ZH.below (h : ZH W V a n c a' n' c' r) (hb : Below W.heap.size W W') : ZH W' V a n c a' n' c' r := (hb.block V h.lt).trans h
theorem ZH.cell (h : ZH W V a n c a' n' c' r) (k : Nat) : W.cell? ⟨V, k, none⟩ = (#[Value.slice a n c, .slice a' n' c', .int .i64 r])[k]? := cell_of_row W V k _ _ _ h
theorem ZH.froz (h : ZH W V a n c a' n' c' r) (k : Nat) : W.frozen? ⟨V, k, none⟩ = false := by
  unfold ZH at h
  simp [World.frozen?, h]
theorem ZH.cel (h : ZH W V a n c a' n' c' r) {b o : Nat} {x : Cel} (hc : CelAt W b o x) : b ≠ V := by
  rintro rfl
  have h0 := hc.c0
  have h1 := hc.c1
  rw [h.cell] at h0 h1
  match o with
  | 0 => simp at h0
  | 1 => simp at h0
  | 2 => simp at h1
  | o + 3 => simp at h0
theorem ZH.int (h : ZH W V a n c a' n' c' r) {b o : Nat} {x : Int} (hc : IntE W b o x) (hx : x ≠ r) : b ≠ V := by
  rintro rfl
  have h0 := hc.c
  rw [h.cell] at h0
  match o with
  | 0 => simp at h0
  | 1 => simp at h0
  | 2 => simp at h0; exact hx h0.symm
  | o + 3 => simp at h0
theorem ZH.cels (hz : ZH W V a n c a' n' c' r) (ho : Oth V W W') {d : Option Addr} {cd : Nat} {xs : List Cel} (hr : Row W d cd xs) : Row W' d cd xs :=
  ⟨hr.le, hr.max, hr.nil, fun i x hi => by
    obtain ⟨b, off, e, he⟩ := hr.at_ i x hi
    have hn := hz.cel he
    exact ⟨b, off, e, ⟨ho _ _ _ hn he.c0, ho _ _ _ hn he.c1, ho _ _ _ hn he.c2, he.fit⟩⟩⟩
theorem ZH.ints (hz : ZH W V a n c a' n' c' r) (ho : Oth V W W') {d : Option Addr} {cd : Nat} {xs : List Int} (hr : Row W d cd xs) (h0 : ∀ x ∈ xs, x ≠ r) : Row W' d cd xs :=
  ⟨hr.le, hr.max, hr.nil, fun i x hi => by
    obtain ⟨b, off, e, he⟩ := hr.at_ i x hi
    have hn := hz.int he (h0 x (List.mem_of_getElem? hi))
    exact ⟨b, off, e, ⟨ho _ _ _ hn he.c, he.lo, he.hi⟩⟩⟩
theorem ZH.set3 (hz : ZH W V a n c a' n' c' r) (x y z : Value) : C38 (((W.setCell ⟨V, 0, none⟩ x).setCell ⟨V, 1, none⟩ y).setCell ⟨V, 2, none⟩ z) V x y z := by
  have hz' := hz
  unfold ZH at hz'
  have key : (((W.setCell ⟨V, 0, none⟩ x).setCell ⟨V, 1, none⟩ y).setCell ⟨V, 2, none⟩ z).heap[V]? = some (.cells #[x, y, z] 25 (0, 0)) := by
    simp [World.setCell, Array.getElem?_modify, hz', Option.map_some]
  exact ⟨cell_of_row _ V 0 _ _ _ key, cell_of_row _ V 1 _ _ _ key, cell_of_row _ V 2 _ _ _ key⟩
end
theorem ZH.put {W : World} {V : Nat} {a : Option Addr} {n c : Nat} {a' : Option Addr} {n' c' : Nat} {r : Int} (hz : ZH W V a n c a' n' c' r) (a2 : Option Addr) (n2 c2 : Nat) (a3 : Option Addr) (n3 c3 : Nat) (r2 : Int) : ZH (((W.setCell ⟨V, 0, none⟩ (.slice a2 n2 c2)).setCell ⟨V, 1, none⟩ (.slice a3 n3 c3)).setCell ⟨V, 2, none⟩ (.int .i64 r2)) V a2 n2 c2 a3 n3 c3 r2 := by
  unfold ZH at hz ⊢
  simp [World.setCell, Array.getElem?_modify, hz, Option.map_some]
theorem ZH.c38 {W : World} {V : Nat} {a : Option Addr} {n c : Nat} {a' : Option Addr} {n' c' : Nat} {r : Int} (h : ZH W V a n c a' n' c' r) : C38 W V (.slice a n c) (.slice a' n' c') (.int .i64 r) := ⟨h.cell 0, h.cell 1, h.cell 2⟩
theorem ZB.set3c {W : World} {V : Nat} (hz : ZB W V) (x y z : Value) : C38 (((W.setCell ⟨V, 0, none⟩ x).setCell ⟨V, 1, none⟩ y).setCell ⟨V, 2, none⟩ z) V x y z := by
  have hz' := hz
  unfold ZB at hz'
  have key : (((W.setCell ⟨V, 0, none⟩ x).setCell ⟨V, 1, none⟩ y).setCell ⟨V, 2, none⟩ z).heap[V]? = some (.cells #[x, y, z] 25 (0, 0)) := by
    simp [World.setCell, Array.getElem?_modify, hz', Option.map_some]
  exact ⟨cell_of_row _ V 0 _ _ _ key, cell_of_row _ V 1 _ _ _ key, cell_of_row _ V 2 _ _ _ key⟩
/-- no place of a trail is the room -/
theorem trail_ne {l : List Cel} {ts : List Int} {r : Int} (h : RightP l ts r) : ∀ x ∈ ts, x ≠ r := by
  intro x hx
  obtain ⟨k, rfl, hk, _⟩ := h.trail.1 x hx
  have := h.few
  omega
theorem Bnd8.ne {xs xs' : List Cel} {ts ts' L : List Int} {r : Int} (h : Bnd8 xs ts xs' ts' L) (hr : (xs.length : Int) ≤ r) (ht : ∀ x ∈ ts, x ≠ r) : ∀ x ∈ ts', x ≠ r := by
  intro x hx
  rw [h.tr] at hx
  rcases List.mem_append.1 hx with hx | hx
  · exact ht x hx
  · obtain ⟨k, rfl, hk, _⟩ := h.free x hx
    omega
theorem C38.new (W : World) (x y z : Value) (T : TypeId) : C38 (W.alloc (.cells #[x, y, z] T)) W.heap.size x y z := ⟨World.cell?_alloc_at _ _ _ 0 rfl, World.cell?_alloc_at _ _ _ 1 rfl, World.cell?_alloc_at _ _ _ 2 rfl⟩
end Go.Proofs.Ytefnmjoapmnkbaa
set_option linter.unusedVariables false
namespace Go.Proofs.Ytefnmjoapmnkbaa
open Go.RowKit

/-! ### places that fit -/
def fitI (n : Nat) (x : Int) : Int := if 0 ≤ x ∧ x < (n : Int) then x else -1
def fitL (n : Nat) (at_ : List Int) : List Int := (at_.take 20).map (fitI n)
theorem fitL_ok (n : Nat) (at_ : List Int) : PlOk n (fitL n at_) := by
  intro p hp
  obtain ⟨x, _, rfl⟩ := List.mem_map.1 hp
  unfold fitI
  split
  · rename_i h; exact .inr h
  · exact .inl rfl
theorem fitL_len (n : Nat) (at_ : List Int) : (fitL n at_).length ≤ 20 := by unfold fitL; rw [List.length_map, List.length_take]; omega
def fitK (n : Nat) (at_ : List Int) (k : Nat) : List Int := (at_.take k).map (fitI n)
theorem fitK_len {n : Nat} {at_ : List Int} {k : Nat} (h : k ≤ at_.length) : (fitK n at_ k).length = k := by unfold fitK; rw [List.length_map, List.length_take]; omega
theorem fitK_succ {n : Nat} {at_ : List Int} {k : Nat} (h : k < at_.length) : fitK n at_ k ++ [fitI n at_[k]] = fitK n at_ (k + 1) := by
  unfold fitK
  rw [List.take_succ_eq_append_getElem h, List.map_append]; rfl
theorem fitK_end {n : Nat} {at_ : List Int} {k : Nat} (h1 : k ≤ at_.length) (h2 : k ≤ 20) (h : ¬ ((k : Int) < at_.length ∧ (k : Int) < 20)) : fitK n at_ k = fitL n at_ := by
  unfold fitK fitL
  congr 1
  by_cases e : k = 20
  · rw [e]
  · rw [List.take_of_length_le (by omega), List.take_of_length_le (by omega)]
set_option maxHeartbeats 1600000 in
theorem fits_any (a : Option Addr) (cap : Nat) (a' : Option Addr) (n' cap' : Nat) (r : Int) (b : Option Addr) (cb : Nat) (w : World) (n : Nat) (at_ : List Int) (hat : Row w b cb at_) :
    Calls Try.prog 19 #[hv a n cap a' n' cap' r, .slice b at_.length cb] w fun e w' => ∃ a2 c2, e = .returned (.slice a2 (fitL n at_).length c2) ∧ Row w' a2 c2 (fitL n at_) ∧ Below w.heap.size w w' := by
  have hm := hat.max
  have hm2 := hat.le
  have hb0 : Below w.heap.size w (w.alloc (.cells #[.slice a n cap, .slice a' n' cap', .int .i64 r] 25)) := (Below.refl _ _).new _
  have q0 := C38.new w (.slice a n cap) (.slice a' n' cap') (.int .i64 r) 25
  go_enter Try.func19, Try.ntmps19
  go_wp2_with fail
  obtain ⟨W, hW⟩ : ∃ V, (w.alloc (.cells #[.slice a n cap, .slice a' n' cap', .int .i64 r] 25)) = V := ⟨_, rfl⟩
  have hsW : W.heap.size = w.heap.size + 1 := by rw [← hW]; simp
  rw [hW] at hb0 q0 ⊢
  clear hW
  have hm0 : AccInv W.heap.size 3 ([] : List Int) (.slice (some ⟨W.heap.size, 0, none⟩) 0 0) (W.alloc (.cells #[] 3)) := AccInv.made W (Nat.le_refl _) rfl
  have hbA : Below W.heap.size W (W.alloc (.cells #[] 3)) := (Below.refl _ _).new _
  rw [hsW] at hm0
  have HSW : Hid (w.heap.size + 1 ≤ W.heap.size) := by rw [Hid, hsW]; exact Nat.le_refl _
  have HBA := mkHid hbA
  have HSQ := mkHid hsW
  clear hsW hbA
  have X0 := mkHid q0
  have HB := mkHid hb0
  have HM := mkHid hm0
  clear q0 hb0 hm0
  have hB0 : w.heap.size < W.heap.size := X0.out.lt
  try go_wp2_with fail
  go_loopw [5, 6] (fun v i wr => ∃ m : Nat, m ≤ at_.length ∧ m ≤ 20 ∧ i = .int .i64 m ∧ Hid (AccInv (w.heap.size + 1) 3 (fitK n at_ m) v wr) ∧ Hid (Below W.heap.size W wr)) (fun v i wr => 21 - (intOf i).toNat)
  case atStart => exact ⟨0, Nat.zero_le _, by omega, rfl, HM.out, HBA.out⟩
  case round =>
    obtain ⟨m, hm3, hm4, rfl, HA, HBr⟩ := hrel
    obtain ⟨av, cv, rfl, hrow⟩ := HA.out.row
    have HROW := mkHid hrow
    clear hrow
    have hul : Hid ((fitK n at_ m).length = m) := fitK_len hm3
    by_cases hlt : (m : Int) < at_.length
    · by_cases hlt2 : (m : Int) < 20
      · have hltn : m < at_.length := by omega
        obtain ⟨bb, off, rfl, hbb, hel⟩ := hat.cases.resolve_left (fun e => by simp [e] at hltn)
        obtain ⟨c0, f1, f2⟩ := int_at hel (HB.out.then HBr.out) hltn
        have HSN := mkHid (fitK_succ (n := n) hltn)
        obtain ⟨x, hx⟩ : ∃ x, at_[m] = x := ⟨_, rfl⟩
        rw [hx] at c0 f1 f2 HSN
        have HFI : Hid (fitI n x = if 0 ≤ x ∧ x < (n : Int) then x else -1) := rfl
        have X0' := mkHid (X0.out.below HBr.out)
        have C0 := mkHid c0
        clear c0 hx hel
        go_wp2_with fail
        have HS : Hid (∀ X, Below wr.heap.size wr X → (fun X => C38 X w.heap.size (.slice a n cap) (.slice a' n' cap') (.int .i64 r) ∧ X.cell? ⟨bb, off + m, none⟩ = some (.int .i64 x)) X) := fun X h => ⟨X0'.out.below h, keep C0.out h⟩
        have hd0 : Below wr.heap.size wr wr.drew := (Below.refl _ _).drew
        refine wp_region_noPanic ?_
        refine wp_region_held_drew (S := fun X => C38 X w.heap.size (.slice a n cap) (.slice a' n' cap') (.int .i64 r) ∧ X.cell? ⟨bb, off + m, none⟩ = some (.int .i64 x)) (by kernel_rfl) (HS.out _ hd0) (fun hSd => ?_)
        obtain ⟨v0, hx0⟩ : ∃ X, wr.drew = X := ⟨_, rfl⟩
        rw [hx0] at hd0 hSd ⊢
        clear hx0
        refine wpAnyH_take (i := 0) (oi := _) (v := ?_) rfl (by kernel_rfl) (by kernel_rfl) (by kernel_rfl) (fun _ _ _ h => h) (Or.inl ⟨by rfl, ?_⟩) (by assumption) ?_
        rotate_left
        · (intro w' hSw; obtain ⟨⟨q0, q1, q2⟩, q3⟩ := hSw; go_simp; try with_reducible rfl)
        (try simp only [List.getElem_toArray, List.getElem_cons_succ, List.getElem_cons_zero, Act.put, List.setIfInBounds_toArray, List.set_cons_zero, List.set_cons_succ])
        refine wpAnyH_take (i := 1) (oi := _) (v := ?_) rfl (by kernel_rfl) (by kernel_rfl) (by kernel_rfl) (fun _ _ _ h => h) (Or.inl ⟨by rfl, ?_⟩) (by assumption) ?_
        rotate_left
        · (intro w' hSw; obtain ⟨⟨q0, q1, q2⟩, q3⟩ := hSw; go_simp; try with_reducible rfl)
        (try simp only [List.getElem_toArray, List.getElem_cons_succ, List.getElem_cons_zero, Act.put, List.setIfInBounds_toArray, List.set_cons_zero, List.set_cons_succ])
        refine wpAnyH_take (i := 2) (oi := _) (v := ?_) rfl (by kernel_rfl) (by kernel_rfl) (by kernel_rfl) (fun _ _ _ h => h) (Or.inl ⟨by rfl, ?_⟩) (by assumption) ?_
        rotate_left
        · (intro w' hSw; obtain ⟨⟨q0, q1, q2⟩, q3⟩ := hSw; go_simp; try with_reducible rfl)
        (try simp only [List.getElem_toArray, List.getElem_cons_succ, List.getElem_cons_zero, Act.put, List.setIfInBounds_toArray, List.set_cons_zero, List.set_cons_succ])
        refine wpAnyH_take (i := 3) (oi := _) (v := ?_) rfl (by kernel_rfl) (by kernel_rfl) (by kernel_rfl) (fun _ _ _ h => h) (Or.inl ⟨by rfl, ?_⟩) (by assumption) ?_
        rotate_left
        · (intro w' hSw; obtain ⟨⟨q0, q1, q2⟩, q3⟩ := hSw; go_simp; try with_reducible rfl)
        (try simp only [List.getElem_toArray, List.getElem_cons_succ, List.getElem_cons_zero, Act.put, List.setIfInBounds_toArray, List.set_cons_zero, List.set_cons_succ])
        refine wpAnyH_take (i := 4) (oi := _) (v := ?_) rfl (by kernel_rfl) (by kernel_rfl) (by kernel_rfl) (fun _ _ _ h => h) (Or.inl ⟨by rfl, ?_⟩) (by assumption) ?_
        rotate_left
        · (intro w' hSw; obtain ⟨⟨q0, q1, q2⟩, q3⟩ := hSw; go_simp; try with_reducible rfl)
        (try simp only [List.getElem_toArray, List.getElem_cons_succ, List.getElem_cons_zero, Act.put, List.setIfInBounds_toArray, List.set_cons_zero, List.set_cons_succ])
        refine wpAnyH_ready (rs := [5]) (by kernel_rfl) (by simp) ?_
        refine AllReadyH.cons (o := _) rfl (fun K hK => ?_) AllReadyH.nil
        go_simp
        refine (refis_any a cap a' n' cap' r x _ n).mono ?_
        rintro e v1 ⟨rfl, hbv1⟩
        have hd1 := hd0.then hbv1
        try dsimp only
        refine hK.out _ _ (HS.out _ hd1) (fun hS1 => ?_)
        clear hK K hbv1
        (try simp only [List.getElem_toArray, List.getElem_cons_succ, List.getElem_cons_zero, Act.put, List.setIfInBounds_toArray, List.set_cons_zero, List.set_cons_succ])
        refine wpAnyH_done (by kernel_rfl) (NoPanic.normal ?_) _
        have HA1 := mkHid (HA.out.below hd1)
        have HBr1 := mkHid (HBr.out.trans (hd1.mono HBr.out.size))
        have hsz1 : w.heap.size + 1 ≤ v1.heap.size := Nat.le_trans HSW.out HBr1.out.size
        have C1 := mkHid (keep C0.out hd1)
        by_cases hin : 0 ≤ x ∧ x < (n : Int)
        · have hd : (decide (0 ≤ x) && decide (x < (n : Int))) = true := by simp [hin]
          have HFJ : Hid (fitI n x = x) := by rw [Hid, HFI.out, if_pos hin]
          clear hin
          rw [hd]
          have c1 := C1.out
          go_wp2_with (at_builtin; refine wpList_acck (α := Int) rfl _ _ 23 rfl (w.heap.size + 1) 3 8 _ Try.underlying23 Try.infoInt rfl (by decide) _ (fitK n at_ m) HA1.out (by rfl) _ #[.int .i64 x] x ⟨by simp, by omega, by omega⟩ (by rfl) (by have := hul.out; omega) hsz1 ?_; intro v' w3 hacc3 hb3 hk3)
          go_round
          case rel => exact ⟨m + 1, by omega, by omega, by go_num, by rw [Hid, ← HSN.out, HFJ.out]; exact hacc3, HBr1.out.trans (by rw [HSQ.out]; exact hb3)⟩
          case measure => simp [intOf]; omega
        · have hd : (decide (0 ≤ x) && decide (x < (n : Int))) = false := by simp; omega
          have HFJ : Hid (fitI n x = -1) := by rw [Hid, HFI.out, if_neg hin]
          clear hin
          rw [hd]
          go_wp2_with (at_builtin; refine wpList_acck (α := Int) rfl _ _ 23 rfl (w.heap.size + 1) 3 8 _ Try.underlying23 Try.infoInt rfl (by decide) _ (fitK n at_ m) HA1.out (by rfl) _ #[.int .i64 (-1)] (-1) ⟨by simp, by omega, by omega⟩ (by rfl) (by have := hul.out; omega) hsz1 ?_; intro v' w3 hacc3 hb3 hk3)
          go_round
          case rel => exact ⟨m + 1, by omega, by omega, by go_num, by rw [Hid, ← HSN.out, HFJ.out]; exact hacc3, HBr1.out.trans (by rw [HSQ.out]; exact hb3)⟩
          case measure => simp [intOf]; omega
      · have HE : Hid (fitK n at_ m = fitL n at_) := fitK_end hm3 hm4 (by omega)
        go_wp2_with fail
        go_ret
        rw [HE.out] at HROW
        refine ⟨_, _, ?_, HROW.out, HB.out.then HBr.out⟩
        rw [← HE.out]
        rfl
    · have HE : Hid (fitK n at_ m = fitL n at_) := fitK_end hm3 hm4 (by omega)
      go_wp2_with fail
      go_ret
      rw [HE.out] at HROW
      refine ⟨_, _, ?_, HROW.out, HB.out.then HBr.out⟩
      rw [← HE.out]
      rfl
end Go.Proofs.Ytefnmjoapmnkbaa
set_option linter.unusedVariables false
namespace Go.Proofs.Ytefnmjoapmnkbaa
open Go.RowKit

/-! ### slots that are right, pointwise -/
inductive SlotP (l : List Cel) (k : Nat) (c : Cel) : Prop where
  | ref (h : c.k = 1) (hs : c.s.toList = []) (h1 : 0 ≤ c.n) (h2 : c.n < (l.length : Int))
  | num (h : c.k = 2) (hr : rightB [⟨2, c.s, c.n⟩] = true)
  | ptr (h : c.k = 3) (hs : c.s.toList = []) (q : Nat) (hq : c.n = q) (hl : q < l.length) (h4 : (cellN l q).k = 4)
  | top (h : c.k = 4) (h1 : 0 ≤ c.n) (h2 : c.n ≤ 6) (h3 : (k : Int) + c.n < l.length) (hn : nameOk c.s = true) (hs : ∀ i : Nat, k < i → (i : Int) ≤ k + c.n → (cellN l i).k ≠ 4)
theorem slotsB_iff (l : List Cel) (k n : Nat) : slotsB l k n = true ↔ ∀ i : Nat, k < i → i ≤ k + n → (cellN l i).k ≠ 4 := by
  unfold slotsB
  rw [List.all_eq_true]
  constructor
  · intro h i h1 h2 h4
    by_cases hl : i < l.length
    · have hm : cellN l i ∈ (l.drop (k + 1)).take ((n : Int)).toNat := by
        rw [cellN_at hl]
        refine List.mem_of_getElem? (i := i - (k + 1)) ?_
        rw [List.getElem?_take_of_lt (by omega), List.getElem?_drop, show k + 1 + (i - (k + 1)) = i by omega, List.getElem?_eq_getElem hl]
      have := h _ hm
      simp [h4] at this
    · rw [cellN_off (by omega)] at h4; simp at h4
  · intro h c hc
    obtain ⟨j, hj⟩ := List.getElem?_of_mem hc
    rw [List.getElem?_take] at hj
    split at hj
    · rename_i hjn
      rw [List.getElem?_drop] at hj
      obtain ⟨hl, rfl⟩ := List.getElem?_eq_some_iff.1 hj
      have := h (k + 1 + j) (by omega) (by omega)
      rw [cellN_at hl] at this
      simp [this]
    · cases hj
theorem slotB_iff (l : List Cel) (k : Nat) (c : Cel) : slotB l k c = true ↔ SlotP l k c := by
  unfold slotB
  constructor
  · intro h
    by_cases h1 : c.k = 1
    · rw [if_pos h1] at h
      simp only [Bool.and_eq_true, decide_eq_true_eq, standsB] at h
      exact .ref h1 h.1 h.2.1 h.2.2
    · rw [if_neg h1] at h
      by_cases h2 : c.k = 2
      · rw [if_pos h2] at h; exact .num h2 h
      · rw [if_neg h2] at h
        by_cases h3 : c.k = 3
        · rw [if_pos h3] at h
          simp only [Bool.and_eq_true, decide_eq_true_eq] at h
          obtain ⟨h4, h5⟩ := h
          unfold ptrB at h5
          split at h5
          · rename_i hn
            exact .ptr h3 h4 c.n.toNat (by omega) (by omega) (by rw [cellN_at (by omega)]; simpa using h5)
          · cases h5
        · rw [if_neg h3] at h
          by_cases h4 : c.k = 4
          · rw [if_pos h4] at h
            unfold topB at h
            simp only [Bool.and_eq_true, decide_eq_true_eq] at h
            obtain ⟨⟨⟨⟨a1, a2⟩, a3⟩, a4⟩, a5⟩ := h
            obtain ⟨n, hn⟩ : ∃ n : Nat, c.n = n := ⟨c.n.toNat, by omega⟩
            rw [hn, slotsB_iff] at a5
            exact .top h4 a1 a2 a3 a4 fun i h1 h2 => a5 i h1 (by omega)
          · rw [if_neg h4] at h; cases h
  · rintro (⟨h1, hs, h2, h3⟩ | ⟨h2, hr⟩ | ⟨h3, hs, q, hq, hl, h4⟩ | ⟨h4, a1, a2, a3, a4, a5⟩)
    · rw [if_pos h1]; simp [standsB, hs, h2, h3]
    · rw [if_neg (by omega), if_pos h2]; exact hr
    · rw [if_neg (by omega), if_neg (by omega), if_pos h3]
      simp only [Bool.and_eq_true, decide_eq_true_eq]
      refine ⟨hs, ?_⟩
      unfold ptrB
      rw [dif_pos (by omega)]
      rw [cellN_at hl] at h4
      have e : c.n.toNat = q := by omega
      simp only [e, h4]; rfl
    · rw [if_neg (by omega), if_neg (by omega), if_neg (by omega), if_pos h4]
      unfold topB
      simp only [Bool.and_eq_true, decide_eq_true_eq]
      refine ⟨⟨⟨⟨a1, a2⟩, a3⟩, a4⟩, ?_⟩
      obtain ⟨n, hn⟩ : ∃ n : Nat, c.n = n := ⟨c.n.toNat, by omega⟩
      rw [hn, slotsB_iff]
      exact fun i h1 h2 => a5 i h1 (by omega)
theorem slotsP {l : List Cel} : SlotsOk l ↔ ∀ k, k < l.length → SlotP l k (cellN l k) := by
  constructor
  · intro h k hk
    rw [cellN_at hk]; exact (slotB_iff _ _ _).1 (h k hk)
  · intro h k hk
    have := h k hk
    rw [cellN_at hk] at this; exact (slotB_iff _ _ _).2 this
/-- where a right slot leads -/
theorem edge_right {l : List Cel} (h : SlotsOk l) (a b : Nat) : edge l a b ↔ a < l.length ∧ (((cellN l a).k = 4 ∧ a < b ∧ (b : Int) ≤ a + (cellN l a).n) ∨ ((cellN l a).k = 1 ∧ (cellN l a).n ≠ a ∧ (b : Int) = (cellN l a).n) ∨ ((cellN l a).k = 3 ∧ (b : Int) = (cellN l a).n)) := by
  unfold edge
  constructor
  · rintro ⟨ha, h1, h2⟩
    refine ⟨ha, ?_⟩
    have hp := slotsP.1 h a ha
    rw [cellN_at ha] at hp ⊢
    unfold leads1 at h1
    unfold leads2 at h2
    by_cases h4 : l[a].k = 4
    · rw [if_pos h4] at h1 h2
      exact .inl ⟨h4, by omega, by omega⟩
    · rw [if_neg h4] at h1 h2
      by_cases ho : onwardB l[a] a = true ∧ standsB l l[a].n = true
      · rw [if_pos ho] at h1 h2
        have ho1 := ho.1
        simp [onwardB] at ho1
        rcases ho1 with h3 | ⟨h3, h5⟩
        · exact .inr (.inr ⟨h3, by omega⟩)
        · exact .inr (.inl ⟨h3, h5, by omega⟩)
      · rw [if_neg ho] at h1 h2
        omega
  · rintro ⟨ha, hc⟩
    refine ⟨ha, ?_⟩
    have hp := slotsP.1 h a ha
    rw [cellN_at ha] at hp hc
    unfold leads1 leads2
    rcases hc with ⟨h4, h1, h2⟩ | ⟨h1, hn, hb⟩ | ⟨h3, hb⟩
    · rw [if_pos h4, if_pos h4]
      rcases hp with ⟨e, _, _, _⟩ | ⟨e, _⟩ | ⟨e, _, _, _, _, _⟩ | ⟨_, a1, a2, a3, _, _⟩
      · omega
      · omega
      · omega
      · omega
    · rcases hp with ⟨e, _, a1, a2⟩ | ⟨e, _⟩ | ⟨e, _, _, _, _, _⟩ | ⟨e, _, _, _, _, _⟩
      · have ho : onwardB l[a] a = true ∧ standsB l l[a].n = true := by
          simp [onwardB, standsB, h1, hn, a1, a2]
        have h4' : ¬ l[a].k = 4 := by omega
        rw [if_neg h4', if_neg h4', if_pos ho, if_pos ho]
        omega
      · omega
      · omega
      · omega
    · rcases hp with ⟨e, _, a1, a2⟩ | ⟨e, _⟩ | ⟨_, _, q, hq, hl, _⟩ | ⟨e, _, _, _, _, _⟩
      · omega
      · omega
      · have ho : onwardB l[a] a = true ∧ standsB l l[a].n = true := by
          simp [onwardB, standsB, h3]; omega
        have h4' : ¬ l[a].k = 4 := by omega
        rw [if_neg h4', if_neg h4', if_pos ho, if_pos ho]
        omega
      · omega

/-! ### a binding keeps a heap right -/
theorem cellN_bind_k {xs : List Cel} {a b : Nat} (ha : a < xs.length) (k : Nat) : (cellN (bindS xs a b) k).k = (cellN xs k).k := by
  rw [cellN_bind ha]
  split
  · rename_i e; subst e; rfl
  · rfl
theorem SlotP.bind {xs : List Cel} {a b k : Nat} {c : Cel} (ha : a < xs.length) (h : SlotP xs k c) : SlotP (bindS xs a b) k c := by
  rcases h with ⟨h1, hs, h2, h3⟩ | ⟨h2, hr⟩ | ⟨h3, hs, q, hq, hl, h4⟩ | ⟨h4, a1, a2, a3, a4, a5⟩
  · exact .ref h1 hs h2 (by rw [bindS_length]; exact h3)
  · exact .num h2 hr
  · exact .ptr h3 hs q hq (by rw [bindS_length]; exact hl) (by rw [cellN_bind_k ha]; exact h4)
  · exact .top h4 a1 a2 (by rw [bindS_length]; exact a3) a4 fun i h1 h2 => by rw [cellN_bind_k ha]; exact a5 i h1 h2
theorem slots_bind {xs : List Cel} {a b : Nat} (h : SlotsOk xs) (ha : a < xs.length) (hb : b < xs.length) (hf : sfreeB (cellN xs a) a = true) : SlotsOk (bindS xs a b) := by
  rw [slotsP] at h ⊢
  intro k hk
  rw [bindS_length] at hk
  rw [cellN_bind ha]
  split
  · rename_i e
    subst e
    simp [sfreeB] at hf
    rcases h k hk with ⟨h1, hs, h2, h3⟩ | ⟨h2, hr⟩ | ⟨h3, hs, q, hq, hl, h4⟩ | ⟨h4, a1, a2, a3, a4, a5⟩
    · exact .ref h1 hs (by simp) (by rw [bindS_length]; simp; omega)
    · omega
    · omega
    · omega
  · exact (h k hk).bind ha
theorem edge_bind {xs : List Cel} {a b : Nat} (h : SlotsOk xs) (ha : a < xs.length) (hb : b < xs.length) (hab : a ≠ b) (hf : sfreeB (cellN xs a) a = true) (x y : Nat) : edge (bindS xs a b) x y ↔ (x ≠ a ∧ edge xs x y) ∨ (x = a ∧ y = b) := by
  rw [edge_right (slots_bind h ha hb hf), edge_right h, bindS_length, cellN_bind ha]
  simp [sfreeB] at hf
  by_cases e : x = a
  · subst e
    simp [hf.1]
    constructor
    · rintro ⟨_, h1, h2⟩; omega
    · rintro rfl; exact ⟨ha, by omega, rfl⟩
  · simp [e]
theorem acyc_bind {xs : List Cel} {a b : Nat} (h : SlotsOk xs) (hA : Acyc xs) (ha : a < xs.length) (hb : b < xs.length) (hab : a ≠ b) (hf : sfreeB (cellN xs a) a = true) (hr : ¬ Reach xs b a) : Acyc (bindS xs a b) := by
  have h1 : ∀ k, Acc (fun b a => edge xs a b) k → ¬ Reach xs k a → Acc (fun y x => edge (bindS xs a b) x y) k := by
    intro k hk
    induction hk with
    | intro k _ ih =>
      intro hn
      refine ⟨k, fun y hy => ?_⟩
      rcases (edge_bind h ha hb hab hf k y).1 hy with ⟨_, he⟩ | ⟨rfl, _⟩
      · exact ih y he fun hc => hn (.step he hc)
      · exact absurd (.refl _) hn
  have h2 : Acc (fun y x => edge (bindS xs a b) x y) a := ⟨a, fun y hy => by
    rcases (edge_bind h ha hb hab hf a y).1 hy with ⟨e, _⟩ | ⟨_, rfl⟩
    · exact absurd rfl e
    · exact h1 y (hA y) hr⟩
  intro k
  induction hA k with
  | intro k _ ih =>
    by_cases e : k = a
    · subst e; exact h2
    · refine ⟨k, fun y hy => ?_⟩
      rcases (edge_bind h ha hb hab hf k y).1 hy with ⟨_, he⟩ | ⟨e', _⟩
      · exact ih y he
      · exact absurd e' e
theorem bound_iff {l : List Cel} {t : Int} : BoundAt l t ↔ ∃ k : Nat, t = k ∧ k < l.length ∧ (cellN l k).k = 1 ∧ (cellN l k).n ≠ k := by
  constructor
  · rintro ⟨k, e, hk, h1, h2⟩; exact ⟨k, e, hk, by rw [cellN_at hk]; exact h1, by rw [cellN_at hk]; exact h2⟩
  · rintro ⟨k, e, hk, h1, h2⟩; rw [cellN_at hk] at h1 h2; exact ⟨k, e, hk, h1, h2⟩
theorem RightP.bind {xs : List Cel} {ts : List Int} {r : Int} {a b : Nat} (h : RightP xs ts r) (ha : a < xs.length) (hb : b < xs.length) (hab : a ≠ b) (hf : sfreeB (cellN xs a) a = true) (hr : ¬ Reach xs b a) : RightP (bindS xs a b) (ts ++ [(a : Int)]) r := by
  have hs : SlotsOk xs := h.slots
  have hf' := hf
  simp [sfreeB] at hf'
  refine ⟨h.r1, h.r2, by rw [bindS_length]; exact h.few, slots_bind hs ha hb hf, acyc_bind hs h.acyc ha hb hab hf hr, fun t ht => ?_, ?_⟩
  · rw [bound_iff]
    rcases List.mem_append.1 ht with ht | ht
    · obtain ⟨k, e, hk, h1, h2⟩ := bound_iff.1 (h.trail.1 t ht)
      refine ⟨k, e, by rw [bindS_length]; exact hk, ?_⟩
      rw [cellN_bind ha, if_neg (by rintro rfl; exact h2 hf'.2)]
      exact ⟨h1, h2⟩
    · simp at ht
      subst ht
      refine ⟨a, rfl, by rw [bindS_length]; exact ha, ?_⟩
      rw [cellN_bind ha, if_pos rfl]
      exact ⟨hf'.1, by simp; omega⟩
  · rw [List.nodup_append]
    refine ⟨h.trail.2, by simp, fun x hx y hy => ?_⟩
    simp at hy
    subst hy
    rintro rfl
    obtain ⟨k, e, hk, h1, h2⟩ := bound_iff.1 (h.trail.1 _ hx)
    have : k = a := by omega
    subst this
    exact h2 hf'.2
theorem URun.right {xs : List Cel} {ts : List Int} {ps met : List (Int × Int)} {o : Option (List Cel × List Int)} (h : URun xs ts ps met o) : ∀ {xs' : List Cel} {ts' : List Int} {r : Int}, o = some (xs', ts') → RightP xs ts r → RightP xs' ts' r := by
  induction h with
  | done xs ts met => intro xs' ts' r e hr; cases e; exact hr
  | off => intro _ _ _ e; cases e
  | skip _ _ _ ih => intro _ _ _ e hr; exact ih e hr
  | circle => intro _ _ _ e; cases e
  | @bind xs ts a b ps met x y o hf h h2 h3 hrun ih =>
    intro xs' ts' r e hr
    obtain ⟨l1, l2, _⟩ := hf.lt
    have hne : x ≠ y := fun e => h (.inl e)
    exact ih e (hr.bind (giveA_lt l1 l2) (giveT_lt l1 l2) (give_ne hne) (giveA_free h2) h3)
  | unlike => intro _ _ _ e; cases e
  | plain _ _ _ _ _ _ ih => intro _ _ _ e hr; exact ih e hr
  | tops _ _ _ _ _ _ ih => intro _ _ _ e hr; exact ih e hr
theorem uout_right {xs xs' : List Cel} {ts ts' : List Int} {p q r : Int} {t : Bool} (h : UOut xs ts p q xs' ts' t) (hr : RightP xs ts r) : RightP xs' ts' r := by
  rcases h with ⟨_, _, rfl, rfl⟩ | ⟨_, h⟩
  · exact hr
  · exact h.right rfl hr
end Go.Proofs.Ytefnmjoapmnkbaa
set_option linter.unusedVariables false
namespace Go.Proofs.Ytefnmjoapmnkbaa
open Go.RowKit

/-! ### Put keeps a heap right -/
inductive NewOk (m : Nat) (l : List Cel) (k : Nat) (c : Cel) : Prop where
  | ref (h : c.k = 1) (hs : c.s.toList = []) (q : Nat) (hq : c.n = q) (hl : q < l.length) (hm : q < m ∨ sfreeB (cellN l q) q = true)
  | num (h : c.k = 2) (hr : rightB [⟨2, c.s, c.n⟩] = true)
  | ptr (h : c.k = 3) (hs : c.s.toList = []) (q : Nat) (hq : c.n = q) (hk : k < q) (hl : q < l.length) (h4 : (cellN l q).k = 4)
  | top (h : c.k = 4) (h1 : 0 ≤ c.n) (h2 : c.n ≤ 6) (h3 : (k : Int) + c.n < l.length) (hn : nameOk c.s = true) (hs : ∀ i : Nat, k < i → (i : Int) ≤ k + c.n → (cellN l i).k ≠ 4)
theorem NewOk.slot {m : Nat} {l : List Cel} {k : Nat} {c : Cel} (h : NewOk m l k c) : SlotP l k c := by
  rcases h with ⟨h1, hs, q, hq, hl, _⟩ | ⟨h2, hr⟩ | ⟨h3, hs, q, hq, _, hl, h4⟩ | ⟨h4, a1, a2, a3, a4, a5⟩
  · exact .ref h1 hs (by omega) (by omega)
  · exact .num h2 hr
  · exact .ptr h3 hs q hq hl h4
  · exact .top h4 a1 a2 a3 a4 a5
/-- cells stay, but for where Ptrs lead -/
structure Grw (l l' : List Cel) : Prop where
  len : l.length ≤ l'.length
  k : ∀ i, i < l.length → (cellN l' i).k = (cellN l i).k
  s : ∀ i, i < l.length → (cellN l' i).s = (cellN l i).s
  eq : ∀ i, i < l.length → (cellN l i).k ≠ 3 → cellN l' i = cellN l i
theorem Grw.refl (l : List Cel) : Grw l l := ⟨Nat.le_refl _, fun _ _ => rfl, fun _ _ => rfl, fun _ _ _ => rfl⟩
theorem Grw.trans {l l' l'' : List Cel} (h : Grw l l') (h' : Grw l' l'') : Grw l l'' :=
  ⟨Nat.le_trans h.len h'.len, fun i hi => (h'.k i (Nat.lt_of_lt_of_le hi h.len)).trans (h.k i hi), fun i hi => (h'.s i (Nat.lt_of_lt_of_le hi h.len)).trans (h.s i hi),
    fun i hi h3 => (h'.eq i (Nat.lt_of_lt_of_le hi h.len) (by rw [h.k i hi]; exact h3)).trans (h.eq i hi h3)⟩
theorem Grw.app (l ys : List Cel) : Grw l (l ++ ys) :=
  ⟨by simp, fun i hi => by rw [cellN_app_l hi], fun i hi => by rw [cellN_app_l hi], fun i hi _ => cellN_app_l hi⟩
theorem Grw.setNs {l : List Cel} {p : Nat} (hp : p < l.length) (h3 : (cellN l p).k = 3) (v : Int) : Grw l (setNs l p v) := by
  refine ⟨by rw [setNs_length]; exact Nat.le_refl _, fun i hi => ?_, fun i hi => ?_, fun i hi hn => ?_⟩
  · rw [cellN_setNs _ _ _ _ hp]; split
    · rename_i e; subst e; rfl
    · rfl
  · rw [cellN_setNs _ _ _ _ hp]; split
    · rename_i e; subst e; rfl
    · rfl
  · rw [cellN_setNs _ _ _ _ hp, if_neg (by rintro rfl; exact hn h3)]
theorem Grw.free {l l' : List Cel} (h : Grw l l') {q : Nat} (hq : q < l.length) (hf : sfreeB (cellN l q) q = true) : sfreeB (cellN l' q) q = true := by
  have hf' := hf
  simp [sfreeB] at hf'
  rw [h.eq q hq (by omega)]; exact hf
theorem NewOk.grow {m : Nat} {l l' : List Cel} {k : Nat} {c : Cel} (h : NewOk m l k c) (hg : Grw l l') : NewOk m l' k c := by
  have hlen := hg.len
  rcases h with ⟨h1, hs, q, hq, hl, hm⟩ | ⟨h2, hr⟩ | ⟨h3, hs, q, hq, hk, hl, h4⟩ | ⟨h4, a1, a2, a3, a4, a5⟩
  · exact .ref h1 hs q hq (by omega) (hm.imp_right fun hf => hg.free hl hf)
  · exact .num h2 hr
  · exact .ptr h3 hs q hq hk (by omega) (by rw [hg.k q hl]; exact h4)
  · exact .top h4 a1 a2 (by omega) a4 fun i h1 h2 => by rw [hg.k i (by omega)]; exact a5 i h1 h2
def PlNew (m : Nat) (l : List Cel) (ps : List Int) : Prop := ∀ p ∈ ps, p = -1 ∨ ∃ q : Nat, p = q ∧ q < l.length ∧ (q < m ∨ sfreeB (cellN l q) q = true)
theorem PlNew.grow {m : Nat} {l l' : List Cel} {ps : List Int} (h : PlNew m l ps) (hg : Grw l l') : PlNew m l' ps := fun p hp => (h p hp).imp_right fun ⟨q, e, hl, hm⟩ => ⟨q, e, Nat.lt_of_lt_of_le hl hg.len, hm.imp_right fun hf => hg.free hl hf⟩
theorem PlOk.new {m : Nat} {l : List Cel} {ps : List Int} (h : PlOk m ps) (hm : m ≤ l.length) : PlNew m l ps := fun p hp => (h p hp).imp_right fun ⟨h1, h2⟩ => ⟨p.toNat, by omega, by omega, .inl (by omega)⟩
structure LayInv (m : Nat) (l : List Cel) (P : Nat → Prop) (ps : List Int) : Prop where
  le : m ≤ l.length
  new : ∀ k, m ≤ k → k < l.length → P k ∨ NewOk m l k (cellN l k)
  pl : PlNew m l ps
theorem LayInv.imp {m : Nat} {l : List Cel} {P Q : Nat → Prop} {ps : List Int} (h : LayInv m l P ps) (hpq : ∀ k, m ≤ k → k < l.length → P k → Q k ∨ NewOk m l k (cellN l k)) : LayInv m l Q ps :=
  ⟨h.le, fun k h1 h2 => by rcases h.new k h1 h2 with hp | hn; exact hpq k h1 h2 hp; exact .inr hn, h.pl⟩
/-- one slot more -/
theorem LayInv.snoc {m : Nat} {l : List Cel} {P : Nat → Prop} {ps ps' : List Int} (h : LayInv m l P ps) (c : Cel) (hc : P l.length ∨ NewOk m (l ++ [c]) l.length c) (hp : PlNew m (l ++ [c]) ps') : LayInv m (l ++ [c]) P ps' := by
  refine ⟨by simp; have := h.le; omega, fun k h1 h2 => ?_, hp⟩
  simp at h2
  by_cases e : k = l.length
  · subst e
    rw [cellN_app_r (Nat.le_refl _), Nat.sub_self]
    exact hc
  · rw [cellN_app_l (by omega)]
    exact (h.new k h1 (by omega)).imp_right fun hn => hn.grow (.app _ _)
theorem nil_bytes8 : (⟨#[]⟩ : ByteArray).toList = [] := by decide +kernel
theorem num_right {c : Cel} (h : cellOk c = true) (h2 : c.k = 2) : rightB [⟨2, ⟨#[]⟩, c.n⟩] = true := by
  have hok : (Tm.mk ⟨2, ⟨#[]⟩, c.n⟩ []).ok := by
    refine ⟨?_, rfl, trivial⟩
    unfold cellOk at h ⊢
    simp [h2] at h
    simp [nil_bytes8]
    exact ⟨h.1.2, h.2⟩
  exact right_flat hok (by simp [Tm.flat, flats])
theorem LayInv.slot {m : Nat} {l : List Cel} {P : Nat → Prop} {ps : List Int} (h : LayInv m l P ps) {c : Cel} (hok : cellOk c = true) (hv : c.k = 1 → 0 ≤ c.n ∧ c.n < (ps.length : Int)) (h3 : c.k = 3 → P l.length) : LayInv m (l ++ [(slotM l.length ps c).1]) P (slotM l.length ps c).2 := by
  unfold slotM
  by_cases h1 : c.k = 1
  · rw [if_pos h1]
    obtain ⟨v1, v2⟩ := hv h1
    have hk : c.n.toNat < ps.length := by omega
    by_cases hq : ps.getD c.n.toNat 0 = -1
    · rw [if_pos hq]
      have hfree : sfreeB (cellN (l ++ [⟨1, ⟨#[]⟩, (l.length : Int)⟩]) l.length) l.length = true := by
        rw [cellN_app_r (Nat.le_refl _), Nat.sub_self]; simp [cellN, sfreeB]
      refine h.snoc _ (.inr (.ref rfl nil_bytes8 l.length rfl (by simp) (.inr hfree))) fun p hp => ?_
      rcases List.mem_or_eq_of_mem_set hp with hp | rfl
      · exact h.pl.grow (.app _ _) p hp
      · exact .inr ⟨l.length, rfl, by simp, .inr hfree⟩
    · rw [if_neg hq]
      have he : ps.getD c.n.toNat 0 ∈ ps := by
        rw [List.getD_eq_getElem?_getD, List.getElem?_eq_getElem hk]; exact List.getElem_mem hk
      obtain ⟨q, e, hl, hm⟩ := (h.pl _ he).resolve_left hq
      refine h.snoc _ (.inr (.ref rfl nil_bytes8 q e (by simp; omega) (hm.imp_right fun hf => Grw.free (.app _ _) hl hf))) (h.pl.grow (.app _ _))
  · rw [if_neg h1]
    by_cases h2 : c.k = 2
    · rw [if_pos h2]
      exact h.snoc _ (.inr (.num rfl (num_right (c := c) hok h2))) (h.pl.grow (.app _ _))
    · rw [if_neg h2]
      refine h.snoc _ (.inl (h3 ?_)) (h.pl.grow (.app _ _))
      unfold cellOk at hok
      simp [h1, h2] at hok
      exact hok.1.1.1
/-- the places of arguments that are Funs -/
def pendA : List Tm → Nat → Nat → Prop
  | [], _, _ => False
  | t :: ts, p, k => (t.hd.k = 3 ∧ k = p) ∨ pendA ts (p + 1) k
/-- what stands at arguments' slots, before their Funs are laid -/
def CellsA (l : List Cel) : List Tm → Nat → Prop
  | [], _ => True
  | t :: ts, p => p < l.length ∧ (cellN l p).k ≠ 4 ∧ (t.hd.k = 3 → (cellN l p).k = 3 ∧ (cellN l p).s.toList = []) ∧ CellsA l ts (p + 1)
theorem CellsA.grow {l l' : List Cel} (hg : Grw l l') : ∀ {ts : List Tm} {p : Nat}, CellsA l ts p → CellsA l' ts p
  | [], _, _ => trivial
  | t :: ts, p, ⟨h1, h2, h3, h4⟩ => ⟨Nat.lt_of_lt_of_le h1 hg.len, by rw [hg.k p h1]; exact h2, fun e => by rw [hg.k p h1, hg.s p h1]; exact h3 e, h4.grow hg⟩
theorem CellsA.ne {l : List Cel} : ∀ {ts : List Tm} {p : Nat}, CellsA l ts p → ∀ i, p ≤ i → i < p + ts.length → (cellN l i).k ≠ 4
  | [], p, _, i, h1, h2 => by simp at h2; omega
  | t :: ts, p, ⟨_, h2, _, h4⟩, i, h1, hi => by
    by_cases e : i = p
    · subst e; exact h2
    · exact h4.ne i (by omega) (by simp at hi; omega)
theorem slotM_grow (l : List Cel) (ps : List Int) (c : Cel) : Grw l (l ++ [(slotM l.length ps c).1]) := .app _ _
theorem slotsT_inv (m : Nat) : ∀ (ts : List Tm) (s : List Cel × List Int) (P : Nat → Prop), LayInv m s.1 P s.2 → oks ts → (∀ t ∈ ts, t.hd.k = 1 → 0 ≤ t.hd.n ∧ t.hd.n < (s.2.length : Int)) → (∀ k, pendA ts s.1.length k → P k) →
    LayInv m (slotsT s ts).1 P (slotsT s ts).2 ∧ Grw s.1 (slotsT s ts).1 ∧ CellsA (slotsT s ts).1 ts s.1.length
  | [], s, P, h, _, _, _ => ⟨h, .refl _, trivial⟩
  | t :: ts, s, P, h, hok, hv, hP => by
    have hcell : cellOk t.hd = true := ((ok_iff t).1 hok.1).1
    have h1 := h.slot hcell (hv t List.mem_cons_self) fun e => hP _ (.inl ⟨e, rfl⟩)
    obtain ⟨a, b, c⟩ := slotsT_inv m ts (s.1 ++ [(slotM s.1.length s.2 t.hd).1], (slotM s.1.length s.2 t.hd).2) P h1 hok.2
      (fun u hu => by simp only [slotM_length]; exact hv u (List.mem_cons_of_mem _ hu)) (fun k hk => hP k (.inr (by simpa using hk)))
    have e : slotsT s (t :: ts) = slotsT (s.1 ++ [(slotM s.1.length s.2 t.hd).1], (slotM s.1.length s.2 t.hd).2) ts := by unfold slotsT; rw [List.foldl_cons]
    rw [e]
    have hcn : cellN (s.1 ++ [(slotM s.1.length s.2 t.hd).1]) s.1.length = (slotM s.1.length s.2 t.hd).1 := by
      rw [cellN_app_r (Nat.le_refl _), Nat.sub_self]; rfl
    have hlt : s.1.length < (s.1 ++ [(slotM s.1.length s.2 t.hd).1]).length := by simp
    refine ⟨a, (Grw.app _ _).trans b, Nat.lt_of_lt_of_le hlt b.len, ?_, fun h3 => ?_, by simpa using c⟩
    · rw [b.k _ hlt, hcn]; exact slotM_ne _ _ _
    · rw [b.k _ hlt, b.s _ hlt, hcn]
      unfold slotM
      rw [if_neg (by omega), if_neg (by omega)]
      exact ⟨rfl, nil_bytes8⟩
theorem top_cell {c : Cel} (h : cellOk c = true) (h3 : c.k = 3) : nameOk c.s = true ∧ 0 ≤ c.n ∧ c.n ≤ 6 := by
  unfold cellOk at h
  simp [h3] at h
  exact ⟨h.1.1, h.1.2, h.2⟩
theorem VarsIn.len {n n' : Nat} {t : Tm} (h : VarsIn n t) (e : n = n') : VarsIn n' t := e ▸ h
mutual
theorem layT_inv (m : Nat) : ∀ (t : Tm) (s : List Cel × List Int) (P : Nat → Prop), LayInv m s.1 P s.2 → t.ok → t.hd.k = 3 → VarsIn s.2.length t →
    LayInv m (layT t s).1 P (layT t s).2 ∧ Grw s.1 (layT t s).1 ∧ s.1.length < (layT t s).1.length ∧ (cellN (layT t s).1 s.1.length).k = 4
  | .mk c ts, s, P, h, hok, h3, hv => by
    obtain ⟨n1, n2, n3⟩ := top_cell hok.1 h3
    have har : c.n = ts.length := by
      have h3' : c.k = 3 := h3
      have h4 := hok.2.1
      unfold ar at h4
      rw [if_pos h3'] at h4; omega
    let Q : Nat → Prop := fun k => (P k ∨ k = s.1.length) ∨ pendA ts (s.1.length + 1) k
    have h0 : LayInv m (s.1 ++ [⟨4, c.s, c.n⟩]) Q s.2 := (h.imp (Q := Q) fun k _ _ hp => .inl (.inl (.inl hp))).snoc _ (.inl (.inl (.inr rfl))) (h.pl.grow (.app _ _))
    obtain ⟨a, b, d⟩ := slotsT_inv m ts (s.1 ++ [⟨4, c.s, c.n⟩], s.2) Q h0 hok.2.2 (fun u hu => (hv.arg hu).hd) (fun k hk => .inr (by simpa using hk))
    have hl1 := (slotsT_length ts (s.1 ++ [⟨4, c.s, c.n⟩], s.2)).1
    have hl2 := (slotsT_length ts (s.1 ++ [⟨4, c.s, c.n⟩], s.2)).2
    simp only [List.length_append, List.length_cons, List.length_nil] at hl1 hl2 d
    have hc4 : cellN (slotsT (s.1 ++ [⟨4, c.s, c.n⟩], s.2) ts).1 s.1.length = ⟨4, c.s, c.n⟩ := by
      rw [b.eq _ (by simp) (by rw [cellN_app_r (Nat.le_refl _), Nat.sub_self]; simp [cellN]), cellN_app_r (Nat.le_refl _), Nat.sub_self]; rfl
    have h1 : LayInv m (slotsT (s.1 ++ [⟨4, c.s, c.n⟩], s.2) ts).1 (fun k => P k ∨ pendA ts (s.1.length + 1) k) (slotsT (s.1 ++ [⟨4, c.s, c.n⟩], s.2) ts).2 := by
      refine a.imp fun k _ _ hk => ?_
      rcases hk with (hk | rfl) | hk
      · exact .inl (.inl hk)
      · rw [hc4]
        refine .inr (.top rfl (by simpa using n2) (by simpa using n3) (by simp; omega) n1 fun i hi1 hi2 => ?_)
        simp only at hi2
        exact d.ne i (by omega) (by omega)
      · exact .inl (.inr hk)
    have hva : ∀ u ∈ ts, VarsIn (slotsT (s.1 ++ [⟨4, c.s, c.n⟩], s.2) ts).2.length u := fun u hu => (hv.arg hu).len (by rw [hl2])
    obtain ⟨e, f⟩ := layTs_inv m ts (s.1.length + 1) _ P h1 hok.2.2 hva (by simpa using d)
    unfold layT
    refine ⟨e, (Grw.app _ _).trans (b.trans f), ?_, ?_⟩
    · have := f.len; omega
    · rw [f.k _ (by omega), hc4]
theorem layTs_inv (m : Nat) : ∀ (ts : List Tm) (p : Nat) (s : List Cel × List Int) (P : Nat → Prop), LayInv m s.1 (fun k => P k ∨ pendA ts p k) s.2 → oks ts → (∀ u ∈ ts, VarsIn s.2.length u) → CellsA s.1 ts p →
    LayInv m (layTs ts p s).1 P (layTs ts p s).2 ∧ Grw s.1 (layTs ts p s).1
  | [], p, s, P, h, _, _, _ => by
    unfold layTs
    exact ⟨h.imp fun k _ _ hk => .inl (hk.resolve_right fun e => e), .refl _⟩
  | t :: ts, p, s, P, h, hok, hv, hc => by
    obtain ⟨c1, c2, c3, c4⟩ := hc
    unfold layTs
    by_cases h3 : t.hd.k = 3
    · rw [if_pos h3]
      obtain ⟨a, b, hlt, h4⟩ := layT_inv m t s _ h hok.1 h3 (hv t List.mem_cons_self)
      have hp : p < (layT t s).1.length := Nat.lt_of_lt_of_le c1 b.len
      have hk3 : (cellN (layT t s).1 p).k = 3 := by rw [b.k p c1]; exact (c3 h3).1
      have hs3 : (cellN (layT t s).1 p).s.toList = [] := by rw [b.s p c1]; exact (c3 h3).2
      have hg := Grw.setNs hp hk3 (s.1.length : Int)
      have h1 : LayInv m (setNs (layT t s).1 p (s.1.length : Int)) (fun k => P k ∨ pendA ts (p + 1) k) (layT t s).2 := by
        refine ⟨Nat.le_trans a.le hg.len, fun k k1 k2 => ?_, a.pl.grow hg⟩
        rw [setNs_length] at k2
        rw [cellN_setNs _ _ _ _ hp]
        by_cases e : k = p
        · rw [if_pos e]
          subst e
          exact .inr (.ptr hk3 hs3 s.1.length rfl c1 (by rw [setNs_length]; exact hlt) (by rw [hg.k _ hlt]; exact h4))
        · rw [if_neg e]
          rcases a.new k k1 k2 with (hk | hk | hk) | hk
          · exact .inl (.inl hk)
          · exact absurd hk.2 e
          · exact .inl (.inr hk)
          · exact .inr (hk.grow hg)
      obtain ⟨d, f⟩ := layTs_inv m ts (p + 1) (setNs (layT t s).1 p (s.1.length : Int), (layT t s).2) P h1 hok.2 (fun u hu => (hv u (List.mem_cons_of_mem _ hu)).len (layT_places t s).symm) (c4.grow (b.trans hg))
      exact ⟨d, b.trans (hg.trans f)⟩
    · rw [if_neg h3]
      refine layTs_inv m ts (p + 1) s P (h.imp fun k _ _ hk => ?_) hok.2 (fun u hu => hv u (List.mem_cons_of_mem _ hu)) c4
      rcases hk with hk | hk | hk
      · exact .inl (.inl hk)
      · exact absurd hk.1 h3
      · exact .inl (.inr hk)
end
theorem putS_inv {xs : List Cel} {ps : List Int} {t : Tm} (hok : t.ok) (hv : VarsIn ps.length t) (hp : PlOk xs.length ps) : LayInv xs.length (putS xs ps t).1.1 (fun _ => False) (putS xs ps t).1.2 := by
  have h0 : LayInv xs.length xs (fun _ => False) ps := ⟨Nat.le_refl _, fun k h1 h2 => by omega, hp.new (Nat.le_refl _)⟩
  unfold putS
  split
  · rename_i h3; exact (layT_inv _ t (xs, ps) _ h0 hok h3 hv).1
  · rename_i h3
    split
    · exact h0
    · exact h0.slot ((ok_iff t).1 hok).1 hv.hd fun e => absurd e h3
/-- what is put behind a right heap leaves it right -/
theorem right_more {xs l : List Cel} {ts ps : List Int} {r : Int} (h : RightP xs ts r) (hl : LayInv xs.length l (fun _ => False) ps) (hpre : l.take xs.length = xs) (hr : (l.length : Int) ≤ r) : RightP l ts r := by
  have hs : SlotsOk xs := h.slots
  have hold : ∀ k, k < xs.length → cellN l k = cellN xs k := fun k hk => by rw [← cellN_take (xs := l) hk, hpre]
  have hlen := hl.le
  have hsl : SlotsOk l := by
    rw [slotsP] at hs ⊢
    intro k hk
    by_cases hk' : k < xs.length
    · rw [hold k hk']
      rcases hs k hk' with ⟨h1, hs, h2, h3⟩ | ⟨h2, hr⟩ | ⟨h3, hs, q, hq, hl, h4⟩ | ⟨h4, a1, a2, a3, a4, a5⟩
      · exact .ref h1 hs h2 (by omega)
      · exact .num h2 hr
      · exact .ptr h3 hs q hq (by omega) (by rw [hold q hl]; exact h4)
      · exact .top h4 a1 a2 (by omega) a4 fun i h1 h2 => by rw [hold i (by omega)]; exact a5 i h1 h2
    · exact ((hl.new k (by omega) hk).resolve_left id).slot
  have hedge : ∀ a b, a < xs.length → (edge l a b ↔ edge xs a b) := fun a b ha => by
    rw [edge_right hsl, edge_right hs, hold a ha]
    constructor
    · rintro ⟨_, h⟩; exact ⟨ha, h⟩
    · rintro ⟨_, h⟩; exact ⟨by omega, h⟩
  have a1 : ∀ k, k < xs.length → Acc (fun b a => edge l a b) k := by
    intro k hk
    induction h.acyc k with
    | intro k _ ih =>
      refine ⟨k, fun y hy => ?_⟩
      have hy' := (hedge k y hk).1 hy
      exact ih y hy' hy'.lt.2
  have a2 : ∀ q, sfreeB (cellN l q) q = true → Acc (fun b a => edge l a b) q := fun q hf => by
    simp [sfreeB] at hf
    refine ⟨q, fun y hy => ?_⟩
    obtain ⟨_, h⟩ := (edge_right hsl q y).1 hy
    rcases h with ⟨h4, _⟩ | ⟨_, h1, _⟩ | ⟨h3, _⟩
    · omega
    · exact absurd hf.2 h1
    · omega
  have a3 : ∀ n k, l.length - k = n → k < l.length → Acc (fun b a => edge l a b) k := by
    intro n
    induction n using Nat.strongRecOn with
    | ind n ih =>
      intro k hn hk
      by_cases hk' : k < xs.length
      · exact a1 k hk'
      · refine ⟨k, fun y hy => ?_⟩
        have hylt := hy.lt.2
        obtain ⟨_, he⟩ := (edge_right hsl k y).1 hy
        rcases (hl.new k (by omega) hk).resolve_left id with ⟨h1, hs, q, hq, hlq, hm⟩ | ⟨h2, hr⟩ | ⟨h3, hs, q, hq, hkq, hlq, h4⟩ | ⟨h4, b1, b2, b3, b4, b5⟩
        · rcases he with ⟨e, _⟩ | ⟨_, h5, h6⟩ | ⟨e, _⟩
          · omega
          · have : y = q := by omega
            subst this
            rcases hm with hm | hm
            · exact a1 _ hm
            · exact a2 _ hm
          · omega
        · rcases he with ⟨e, _⟩ | ⟨e, h5, h6⟩ | ⟨e, _⟩ <;> omega
        · rcases he with ⟨e, _⟩ | ⟨e, h5, h6⟩ | ⟨_, h6⟩
          · omega
          · omega
          · exact ih (l.length - y) (by omega) y rfl hylt
        · rcases he with ⟨_, h6, _⟩ | ⟨e, h5, h6⟩ | ⟨e, h6⟩
          · exact ih (l.length - y) (by omega) y rfl hylt
          · omega
          · omega
  refine ⟨h.r1, h.r2, hr, hsl, acyc_of_lt fun k hk => a3 _ k rfl hk, fun t ht => ?_, h.trail.2⟩
  obtain ⟨k, e, hk, h1, h2⟩ := bound_iff.1 (h.trail.1 t ht)
  exact bound_iff.2 ⟨k, e, by omega, by rw [hold k hk]; exact h1, by rw [hold k hk]; exact h2⟩
theorem pout_right {xs : List Cel} {ts ps : List Int} {r : Int} {t : Tm} {xs' : List Cel} {pl : Int} {at' : List Int} {er : Int} (h : POut xs ps r (putS xs (widenL ps (varsL t.flat)) t) xs' pl at' er) (hok : t.ok) (hp : PlOk xs.length ps) (hr : RightP xs ts r) : RightP xs' ts r := by
  have hpre := pout_pre h
  rcases h with ⟨_, rfl, _⟩ | ⟨hl, rfl, _⟩
  · exact hr
  · exact right_more hr (putS_inv hok (widen_vars hok ps) (hp.widen _)) hpre.1 hl
/-- the place of what is put is one of the heap -/
theorem putS_place {xs : List Cel} {ps : List Int} {t : Tm} (hv : VarsIn ps.length t) (hp : PlOk xs.length ps) : 0 ≤ (putS xs ps t).2 ∧ (putS xs ps t).2 < ((putS xs ps t).1.1.length : Int) := by
  unfold putS
  split
  · have := (layT_length t (xs, ps)).1
    have hn : 1 ≤ slotsN t := by cases t; simp [slotsN]; omega
    simp only at this ⊢
    omega
  · split
    · rename_i h
      obtain ⟨h1, h2⟩ := h
      obtain ⟨v1, v2⟩ := hv.hd h1
      have he : ps.getD t.hd.n.toNat 0 ∈ ps := by
        rw [List.getD_eq_getElem?_getD, List.getElem?_eq_getElem (by omega)]; exact List.getElem_mem _
      rcases hp _ he with e | e
      · exact absurd e h2
      · exact e
    · simp only [List.length_append, List.length_cons, List.length_nil]
      omega
end Go.Proofs.Ytefnmjoapmnkbaa
set_option linter.unusedVariables false
namespace Go.Proofs.Ytefnmjoapmnkbaa
open Go.RowKit

theorem nat_few : ∀ (n : Nat) (l : List Nat), l.Nodup → (∀ v ∈ l, v < n) → l.length ≤ n
  | 0, l, _, h => by
    cases l with
    | nil => simp
    | cons v l => exact absurd (h v List.mem_cons_self) (by omega)
  | n + 1, l, hn, h => by
    have h1 := nat_few n (l.erase n) (hn.erase n) (fun v hv => by
      have h2 := h v (List.mem_of_mem_erase hv)
      have h3 : v ≠ n := fun e => by subst e; exact (hn.not_mem_erase) hv
      omega)
    have h2 := List.length_erase_le (a := n) (l := l)
    by_cases hm : n ∈ l
    · have := List.length_erase_of_mem hm; omega
    · rw [List.erase_of_not_mem hm] at h1; omega
/-! ### whichever place comes first -/
theorem Fol.swap {xs : List Cel} {a b : Int} {x y : Nat} (h : Fol xs a b x y) : Fol xs b a x y := by
  obtain ⟨i, j, h1, h2, rfl, rfl⟩ := h
  exact ⟨j, i, h2, h1, Nat.min_comm _ _, Nat.max_comm _ _⟩
theorem URun.swap {xs : List Cel} {ts : List Int} {a b : Int} {ps met : List (Int × Int)} {o : Option (List Cel × List Int)} (h : URun xs ts ((a, b) :: ps) met o) : URun xs ts ((b, a) :: ps) met o := by
  cases h with
  | off h => exact .off h.symm
  | skip hf h hr => exact .skip hf.swap h hr
  | circle hf h h2 h3 => exact .circle hf.swap h h2 h3
  | bind hf h h2 h3 hr => exact .bind hf.swap h h2 h3 hr
  | unlike hf h h2 h3 => exact .unlike hf.swap h h2 h3
  | plain hf h h2 h3 h4 hr => exact .plain hf.swap h h2 h3 h4 hr
  | tops hf h h2 h3 h4 hr => exact .tops hf.swap h h2 h3 h4 hr
theorem uout_det {xs X X' : List Cel} {ts T T' : List Int} {p q : Int} {b b' : Bool} (h : UOut xs ts p q X T b) (h' : UOut xs ts p q X' T' b') : X = X' ∧ T = T' ∧ b = b' := by
  rcases h with ⟨rfl, h, rfl, rfl⟩ | ⟨rfl, h⟩ <;> rcases h' with ⟨rfl, h', rfl, rfl⟩ | ⟨rfl, h'⟩
  · exact ⟨rfl, rfl, rfl⟩
  · have := h.det h'; cases this
  · have := h.det h'; cases this
  · have := h.det h'; cases this; exact ⟨rfl, rfl, rfl⟩
theorem uout_swap {xs X : List Cel} {ts T : List Int} {p q : Int} {b : Bool} (h : UOut xs ts p q X T b) : UOut xs ts q p X T b := by
  rcases h with ⟨rfl, h, rfl, rfl⟩ | ⟨rfl, h⟩
  · exact .inl ⟨rfl, h.swap, rfl, rfl⟩
  · exact .inr ⟨rfl, h.swap⟩

/-! ### where a place leads, of any length -/
def onB (l : List Cel) (k : Nat) : Bool := onwardB (cellN l k) k
inductive Fl (l : List Cel) : Int → Nat → Prop where
  | stop {k : Nat} (h : k < l.length) (ho : onB l k = false) : Fl l k k
  | on {k j : Nat} (h : k < l.length) (ho : onB l k = true) (hr : Fl l (cellN l k).n j) : Fl l k j
theorem Fl.of {l : List Cel} : ∀ {f : Nat} {a j : Int}, followL l f a = some j → Fl l a j.toNat
  | 0, a, j, h => by cases h
  | f + 1, a, j, h => by
    by_cases hr : 0 ≤ a ∧ a < (l.length : Int)
    · obtain ⟨k, rfl⟩ : ∃ k : Nat, a = k := ⟨a.toNat, by omega⟩
      have hk : k < l.length := by omega
      cases ho : onwardB l[k] k with
      | true =>
        rw [follow_on hk ho] at h
        exact .on hk (by unfold onB; rw [cellN_at hk]; exact ho) (by rw [cellN_at hk]; exact Fl.of h)
      | false =>
        rw [follow_at hk ho] at h
        cases h
        exact .stop hk (by unfold onB; rw [cellN_at hk]; exact ho)
    · rw [follow_off hr] at h; cases h
theorem Fl.det {l : List Cel} {a : Int} {i j : Nat} (h : Fl l a i) (h' : Fl l a j) : i = j := by
  induction h with
  | @stop k hk ho =>
    generalize hb : ((k : Nat) : Int) = b at h'
    cases h' with
    | stop h1 h2 => omega
    | @on k' _ h1 h2 h3 =>
      have : k' = k := by omega
      subst this
      rw [ho] at h2; cases h2
  | @on k j0 hk ho hr ih =>
    generalize hb : ((k : Nat) : Int) = b at h'
    cases h' with
    | stop h1 h2 =>
      have : j = k := by omega
      subst this
      rw [ho] at h2; cases h2
    | @on k' _ h1 h2 h3 =>
      have : k' = k := by omega
      subst this
      exact ih h3
theorem Fl.end_ {l : List Cel} {a : Int} {i : Nat} (h : Fl l a i) : i < l.length ∧ onB l i = false := by
  induction h with
  | stop hk ho => exact ⟨hk, ho⟩
  | on _ _ _ ih => exact ih
theorem on_edge {l : List Cel} (h : SlotsOk l) {k : Nat} (hk : k < l.length) (ho : onB l k = true) : ∃ q : Nat, (cellN l k).n = q ∧ edge l k q := by
  have hp := slotsP.1 h k hk
  unfold onB onwardB at ho
  simp at ho
  rcases hp with ⟨h1, hs, h2, h3⟩ | ⟨h2, hr⟩ | ⟨h3, hs, q, hq, hl, h4⟩ | ⟨h4, a1, a2, a3, a4, a5⟩
  · refine ⟨(cellN l k).n.toNat, by omega, (edge_right h _ _).2 ⟨hk, .inr (.inl ⟨h1, ?_, by omega⟩)⟩⟩
    rcases ho with ho | ho
    · omega
    · exact ho.2
  · omega
  · exact ⟨q, hq, (edge_right h _ _).2 ⟨hk, .inr (.inr ⟨h3, by omega⟩)⟩⟩
  · omega
theorem Fl.path {l : List Cel} (h : SlotsOk l) {a : Int} {i : Nat} (hf : Fl l a i) : ∀ k : Nat, a = k → Reach l k i := by
  induction hf with
  | @stop k hk ho =>
    intro k' e
    obtain rfl : k = k' := by omega
    exact .refl _
  | @on k j hk ho hr ih =>
    intro k' e
    have : k = k' := by omega
    subst this
    obtain ⟨q, hq, he⟩ := on_edge h hk ho
    exact .step he (ih q hq)
/-- with as many steps as there are slots -/
theorem Fl.steps {l : List Cel} {r : Int} {ts : List Int} (h : RightP l ts r) {a : Int} {i : Nat} (hf : Fl l a i) : followL l l.length a = some (i : Int) := by
  have hs : SlotsOk l := h.slots
  have key : ∀ {a : Int} {i : Nat}, Fl l a i → ∀ (V : List Nat), V.Nodup → (∀ v ∈ V, v < l.length ∧ ∀ k : Nat, a = k → Path l v k) → followL l (l.length - V.length) a = some (i : Int) := by
    intro a i hf
    induction hf with
    | @stop k hk ho =>
      intro V hn hV
      have hlen : V.length < l.length := by
        have hkV : k ∉ V := fun hm => h.acyc.no_path k ((hV k hm).2 k rfl)
        have := nat_few l.length (k :: V) (List.nodup_cons.2 ⟨hkV, hn⟩) (fun v hv => by
          rcases List.mem_cons.1 hv with rfl | hv
          · exact hk
          · exact (hV v hv).1)
        rw [List.length_cons] at this; omega
      obtain ⟨m, hm⟩ : ∃ m, l.length - V.length = m + 1 := ⟨l.length - V.length - 1, by omega⟩
      rw [hm]
      unfold onB at ho
      rw [cellN_at hk] at ho
      exact follow_at hk ho
    | @on k j hk ho hr ih =>
      intro V hn hV
      have hkV : k ∉ V := fun hm => h.acyc.no_path k ((hV k hm).2 k rfl)
      have hn' : (k :: V).Nodup := List.nodup_cons.2 ⟨hkV, hn⟩
      have hlen : V.length < l.length := by
        have := nat_few l.length (k :: V) hn' (fun v hv => by
          rcases List.mem_cons.1 hv with rfl | hv
          · exact hk
          · exact (hV v hv).1)
        rw [List.length_cons] at this; omega
      obtain ⟨m, hm⟩ : ∃ m, l.length - V.length = m + 1 := ⟨l.length - V.length - 1, by omega⟩
      obtain ⟨q, hq, he⟩ := on_edge hs hk ho
      have h1 := ih (k :: V) hn' (fun v hv => by
        rcases List.mem_cons.1 hv with rfl | hv
        · refine ⟨hk, fun q' e => ?_⟩
          rw [hq] at e
          obtain rfl : q = q' := by omega
          exact Path.one he
        · refine ⟨(hV v hv).1, fun q' e => ?_⟩
          rw [hq] at e
          obtain rfl : q = q' := by omega
          exact ((hV v hv).2 k rfl).snoc he)
      rw [hm]
      have ho' := ho
      unfold onB at ho'
      rw [cellN_at hk] at ho' h1
      rw [follow_on hk ho']
      rw [List.length_cons, show l.length - (V.length + 1) = m by omega] at h1
      exact h1
  have := key hf [] List.nodup_nil (fun v hv => by cases hv)
  simpa using this
theorem Fl.total {l : List Cel} {r : Int} {ts : List Int} (h : RightP l ts r) (k : Nat) (hk : k < l.length) : ∃ i, Fl l k i := by
  have hs : SlotsOk l := h.slots
  revert hk
  induction h.acyc k with
  | intro k _ ih =>
    intro hk
    cases ho : onB l k with
    | false => exact ⟨k, .stop hk ho⟩
    | true =>
      obtain ⟨q, hq, he⟩ := on_edge hs hk ho
      obtain ⟨i, hi⟩ := ih q he he.lt.2
      exact ⟨i, .on hk ho (by rw [hq]; exact hi)⟩
theorem fol_iff {l : List Cel} {r : Int} {ts : List Int} (h : RightP l ts r) {a b : Int} {x y : Nat} : Fol l a b x y ↔ ∃ i j : Nat, Fl l a i ∧ Fl l b j ∧ x = min i j ∧ y = max i j := by
  constructor
  · rintro ⟨i, j, h1, h2, e1, e2⟩
    exact ⟨i, j, by simpa using Fl.of h1, by simpa using Fl.of h2, e1, e2⟩
  · rintro ⟨i, j, h1, h2, e1, e2⟩
    exact ⟨i, j, h1.steps h, h2.steps h, e1, e2⟩

/-! ### what a run leaves -/
/-- nothing but free variables turns -/
structure Ext (l l' : List Cel) : Prop where
  len : l'.length = l.length
  eq : ∀ k, sfreeB (cellN l k) k = false → cellN l' k = cellN l k
theorem Ext.refl (l : List Cel) : Ext l l := ⟨rfl, fun _ _ => rfl⟩
theorem Ext.bind {l : List Cel} {a b : Nat} (ha : a < l.length) (hf : sfreeB (cellN l a) a = true) : Ext l (bindS l a b) :=
  ⟨bindS_length _ _ _, fun k hk => by rw [cellN_bind ha, if_neg (by rintro rfl; rw [hf] at hk; cases hk)]⟩
theorem Ext.trans {l l' l'' : List Cel} (h : Ext l l') (h' : Ext l' l'') : Ext l l'' :=
  ⟨h'.len.trans h.len, fun k hk => by rw [h'.eq k (by rw [h.eq k hk]; exact hk), h.eq k hk]⟩
theorem on_not_free {l : List Cel} {k : Nat} (h : onB l k = true) : sfreeB (cellN l k) k = false := by
  unfold onB onwardB at h
  unfold sfreeB
  simp at h ⊢
  intro h1
  rcases h with h | h
  · omega
  · exact h.2
theorem Ext.fl {l l' : List Cel} (h : Ext l l') {a : Int} {i j : Nat} (hf : Fl l a i) (hj : Fl l' i j) : Fl l' a j := by
  induction hf with
  | stop => exact hj
  | @on k _ hk ho hr ih =>
    have e := h.eq k (on_not_free ho)
    refine .on (by rw [h.len]; exact hk) (by unfold onB at ho ⊢; rw [e]; exact ho) ?_
    rw [e]; exact ih hj
theorem URun.ext {xs : List Cel} {ts : List Int} {ps met : List (Int × Int)} {o : Option (List Cel × List Int)} (h : URun xs ts ps met o) : ∀ {xs' : List Cel} {ts' : List Int}, o = some (xs', ts') → Ext xs xs' := by
  induction h with
  | done => intro _ _ e; cases e; exact .refl _
  | off => intro _ _ e; cases e
  | skip _ _ _ ih => intro _ _ e; exact ih e
  | circle => intro _ _ e; cases e
  | bind hf h h2 h3 hr ih =>
    intro _ _ e
    obtain ⟨l1, l2, _⟩ := hf.lt
    exact (Ext.bind (giveA_lt l1 l2) (giveA_free h2)).trans (ih e)
  | unlike => intro _ _ e; cases e
  | plain _ _ _ _ _ _ ih => intro _ _ e; exact ih e
  | tops _ _ _ _ _ _ ih => intro _ _ e; exact ih e
/-- two places whose cells are the same, and whose arguments R has -/
def StepR (l : List Cel) (R : Int → Int → Prop) (x y : Nat) : Prop :=
  ¬ (sfreeB (cellN l x) x = true ∨ sfreeB (cellN l y) y = true) ∧ cellN l x = cellN l y ∧ ((cellN l x).k = 4 → ∀ p ∈ argsU l x y, R p.1 p.2)
def Sim (l : List Cel) (M : List (Int × Int)) (R : Int → Int → Prop) : Prop := ∀ a b, R a b → ∃ x y, Fol l a b x y ∧ (x = y ∨ StepR l R x y ∨ ((x : Int), (y : Int)) ∈ M)
theorem argsU_ext {l l' : List Cel} {x y : Nat} (h : l'.length = l.length) (hx : cellN l' x = cellN l x) (hl : x < l.length) : argsU l' x y = argsU l x y := by
  have hl' : x < l'.length := by omega
  have e : l'[x] = l[x] := by rw [← cellN_at hl', hx, cellN_at hl]
  unfold argsU
  rw [List.getElem?_eq_getElem hl, List.getElem?_eq_getElem hl', e]
  have e1 : leads1 l' x l[x] = leads1 l x l[x] := by unfold leads1 standsB; rw [h]
  have e2 : leads2 l' x l[x] = leads2 l x l[x] := by unfold leads2 standsB; rw [h]
  simp only [e1, e2]
theorem StepR.mono {l : List Cel} {R R' : Int → Int → Prop} {x y : Nat} (h : StepR l R x y) (hR : ∀ a b, R a b → R' a b) : StepR l R' x y := ⟨h.1, h.2.1, fun e p hp => hR _ _ (h.2.2 e p hp)⟩
theorem top_free {l : List Cel} {x k : Nat} (h : (cellN l x).k = 4) : sfreeB (cellN l x) k = false := by simp [sfreeB, h]
theorem top_on {l : List Cel} {x : Nat} (h : (cellN l x).k = 4) : onB l x = false := by simp [onB, onwardB, h]
/-- a run that ends well leaves places that are alike -/
theorem URun.sim {xs : List Cel} {ts : List Int} {ps met : List (Int × Int)} {o : Option (List Cel × List Int)} (h : URun xs ts ps met o) : ∀ {xs' : List Cel} {ts' : List Int} {r : Int}, o = some (xs', ts') → RightP xs ts r → (∀ p ∈ met, ∃ x y : Nat, p = ((x : Int), (y : Int)) ∧ x ≤ y ∧ y < xs.length ∧ (cellN xs x).k = 4 ∧ (cellN xs y).k = 4) →
    ∃ R : Int → Int → Prop, (∀ p ∈ ps, R p.1 p.2) ∧ Sim xs' met R := by
  induction h with
  | done xs ts met => intro xs' ts' r e hr hm; exact ⟨fun _ _ => False, by simp, fun a b h => h.elim⟩
  | off => intro _ _ _ e; cases e
  | @skip xs ts a b ps met x y o hf h hrun ih =>
    intro xs' ts' r e hr hm
    obtain ⟨R, h1, h2⟩ := ih e hr hm
    have hx := hrun.ext e
    have hr' := hrun.right e hr
    refine ⟨fun c d => R c d ∨ (c = a ∧ d = b), fun p hp => ?_, fun c d hcd => ?_⟩
    · rcases List.mem_cons.1 hp with rfl | hp
      · exact .inr ⟨rfl, rfl⟩
      · exact .inl (h1 p hp)
    · rcases hcd with hcd | ⟨rfl, rfl⟩
      · obtain ⟨u, v, q1, q2⟩ := h2 c d hcd
        exact ⟨u, v, q1, q2.imp_right (·.imp_left (·.mono fun _ _ => .inl))⟩
      · obtain ⟨i, j, f1, f2, e1, e2⟩ := (fol_iff hr).1 hf
        have hil := f1.end_.1
        have hjl := f2.end_.1
        rcases h with h | h
        · have hij : i = j := by omega
          subst hij
          obtain ⟨z, hz⟩ := Fl.total hr' i (by rw [hx.len]; exact hil)
          exact ⟨z, z, (fol_iff hr').2 ⟨z, z, hx.fl f1 hz, hx.fl f2 hz, by simp, by simp⟩, .inl rfl⟩
        · obtain ⟨x', y', ep, hle, hyl, k1, k2⟩ := hm _ h
          injection ep with p1 p2
          have p1' : x' = x := by omega
          have p2' : y' = y := by omega
          subst p1'; subst p2'
          have s1 : Fl xs' x' x' := .stop (by rw [hx.len]; omega) (by unfold onB; rw [hx.eq _ (top_free k1)]; exact top_on k1)
          have s2 : Fl xs' y' y' := .stop (by rw [hx.len]; omega) (by unfold onB; rw [hx.eq _ (top_free k2)]; exact top_on k2)
          have si : Fl xs' i i := by rcases (show i = x' ∨ i = y' by omega) with e | e <;> rw [e] <;> assumption
          have sj : Fl xs' j j := by rcases (show j = x' ∨ j = y' by omega) with e | e <;> rw [e] <;> assumption
          exact ⟨x', y', (fol_iff hr').2 ⟨i, j, hx.fl f1 si, hx.fl f2 sj, e1, e2⟩, .inr (.inr h)⟩
  | circle => intro _ _ _ e; cases e
  | @bind xs ts a b ps met x y o hf h hfree hre hrun ih =>
    intro xs' ts' r e hr hm
    obtain ⟨l1, l2, _⟩ := hf.lt
    have hne : x ≠ y := fun e => h (.inl e)
    have hAf := giveA_free hfree
    have hAl := giveA_lt (xs := xs) l1 l2
    have hTl := giveT_lt (xs := xs) l1 l2
    have hb := Ext.bind (b := giveT xs x y) hAl hAf
    have hr1 := hr.bind hAl hTl (give_ne hne) hAf hre
    have hm1 : ∀ p ∈ met, ∃ x' y' : Nat, p = ((x' : Int), (y' : Int)) ∧ x' ≤ y' ∧ y' < (bindS xs (giveA xs x y) (giveT xs x y)).length ∧ (cellN (bindS xs (giveA xs x y) (giveT xs x y)) x').k = 4 ∧ (cellN (bindS xs (giveA xs x y) (giveT xs x y)) y').k = 4 := fun p hp => by
      obtain ⟨x', y', e1, e2, e3, e4, e5⟩ := hm p hp
      exact ⟨x', y', e1, e2, by rw [bindS_length]; exact e3, by rw [cellN_bind_k hAl]; exact e4, by rw [cellN_bind_k hAl]; exact e5⟩
    obtain ⟨R, h1, h2⟩ := ih e hr1 hm1
    have hx1 := hrun.ext e
    have hx := hb.trans hx1
    have hr' := hrun.right e hr1
    refine ⟨fun c d => R c d ∨ (c = a ∧ d = b), fun p hp => ?_, fun c d hcd => ?_⟩
    · rcases List.mem_cons.1 hp with rfl | hp
      · exact .inr ⟨rfl, rfl⟩
      · exact .inl (h1 p hp)
    · rcases hcd with hcd | ⟨rfl, rfl⟩
      · obtain ⟨u, v, q1, q2⟩ := h2 c d hcd
        exact ⟨u, v, q1, q2.imp_right (·.imp_left (·.mono fun _ _ => .inl))⟩
      · obtain ⟨i, j, f1, f2, e1, e2⟩ := (fol_iff hr).1 hf
        -- giveA leads to giveT in the bound heap
        obtain ⟨z, hz⟩ := Fl.total hr' (giveT xs x y) (by rw [hx.len]; exact hTl)
        have hA1 : cellN (bindS xs (giveA xs x y) (giveT xs x y)) (giveA xs x y) = ⟨(cellN xs (giveA xs x y)).k, (cellN xs (giveA xs x y)).s, (giveT xs x y : Int)⟩ := by rw [cellN_bind hAl, if_pos rfl]
        have hk1 : (cellN xs (giveA xs x y)).k = 1 := by have := hAf; simp [sfreeB] at this; exact this.1
        have hgn := give_ne (xs := xs) hne
        have hnf : sfreeB (cellN (bindS xs (giveA xs x y) (giveT xs x y)) (giveA xs x y)) (giveA xs x y) = false := by
          rw [hA1]; simp [sfreeB, hk1]; omega
        have hA2 : cellN xs' (giveA xs x y) = ⟨(cellN xs (giveA xs x y)).k, (cellN xs (giveA xs x y)).s, (giveT xs x y : Int)⟩ := by rw [hx1.eq _ hnf, hA1]
        have hzA : Fl xs' (giveA xs x y) z := .on (by rw [hx.len]; exact hAl) (by
          unfold onB; rw [hA2]; simp [onwardB, hk1]; omega) (by rw [hA2]; exact hz)
        have hxy : Fl xs' x z ∧ Fl xs' y z := by
          unfold giveA at hzA
          unfold giveT at hz
          split at hz
          · rename_i hc; rw [if_pos hc] at hzA; exact ⟨hz, hzA⟩
          · rename_i hc; rw [if_neg hc] at hzA; exact ⟨hzA, hz⟩
        have si : Fl xs' i z := by rcases (show i = x ∨ i = y by omega) with e | e <;> rw [e]; exact hxy.1; exact hxy.2
        have sj : Fl xs' j z := by rcases (show j = x ∨ j = y by omega) with e | e <;> rw [e]; exact hxy.1; exact hxy.2
        exact ⟨z, z, (fol_iff hr').2 ⟨z, z, hx.fl f1 si, hx.fl f2 sj, by simp, by simp⟩, .inl rfl⟩
  | unlike => intro _ _ _ e; cases e
  | @plain xs ts a b ps met x y o hf h hnf hcc h4 hrun ih =>
    intro xs' ts' r e hr hm
    obtain ⟨R, h1, h2⟩ := ih e hr hm
    have hx := hrun.ext e
    have hr' := hrun.right e hr
    obtain ⟨n1, n2⟩ := not_or.1 hnf
    have n1' : sfreeB (cellN xs x) x = false := by simpa using n1
    have n2' : sfreeB (cellN xs y) y = false := by simpa using n2
    refine ⟨fun c d => R c d ∨ (c = a ∧ d = b), fun p hp => ?_, fun c d hcd => ?_⟩
    · rcases List.mem_cons.1 hp with rfl | hp
      · exact .inr ⟨rfl, rfl⟩
      · exact .inl (h1 p hp)
    · rcases hcd with hcd | ⟨rfl, rfl⟩
      · obtain ⟨u, v, q1, q2⟩ := h2 c d hcd
        exact ⟨u, v, q1, q2.imp_right (·.imp_left (·.mono fun _ _ => .inl))⟩
      · obtain ⟨i, j, f1, f2, e1, e2⟩ := (fol_iff hr).1 hf
        have o1 := f1.end_
        have o2 := f2.end_
        have stay : ∀ u, u = x ∨ u = y → u < xs.length → onB xs u = false → Fl xs' u u := fun u hu hl ho => by
          refine .stop (by rw [hx.len]; exact hl) ?_
          unfold onB at ho ⊢
          rcases hu with rfl | rfl
          · rw [hx.eq _ n1']; exact ho
          · rw [hx.eq _ n2']; exact ho
        have si : Fl xs' i i := stay i (by omega) o1.1 o1.2
        have sj : Fl xs' j j := stay j (by omega) o2.1 o2.2
        refine ⟨x, y, (fol_iff hr').2 ⟨i, j, hx.fl f1 si, hx.fl f2 sj, e1, e2⟩, .inr (.inl ⟨?_, ?_, fun e => ?_⟩)⟩
        · rw [hx.eq _ n1', hx.eq _ n2']; exact hnf
        · rw [hx.eq _ n1', hx.eq _ n2']; exact hcc
        · rw [hx.eq _ n1'] at e; exact absurd e h4
  | @tops xs ts a b ps met x y o hf h hnf hcc h4 hrun ih =>
    intro xs' ts' r e hr hm
    obtain ⟨l1, l2, hle⟩ := hf.lt
    have hm1 : ∀ p ∈ (((x : Int), (y : Int)) :: met), ∃ x' y' : Nat, p = ((x' : Int), (y' : Int)) ∧ x' ≤ y' ∧ y' < xs.length ∧ (cellN xs x').k = 4 ∧ (cellN xs y').k = 4 := fun p hp => by
      rcases List.mem_cons.1 hp with rfl | hp
      · exact ⟨x, y, rfl, hle, l2, h4, by rw [← hcc]; exact h4⟩
      · exact hm p hp
    obtain ⟨R, h1, h2⟩ := ih e hr hm1
    have hx := hrun.ext e
    have hr' := hrun.right e hr
    have k2 : (cellN xs y).k = 4 := by rw [← hcc]; exact h4
    have c1 := hx.eq x (top_free h4)
    have c2 := hx.eq y (top_free k2)
    have hst : ∀ R' : Int → Int → Prop, (∀ c d, R c d → R' c d) → StepR xs' R' x y := fun R' hR => by
      refine ⟨?_, by rw [c1, c2]; exact hcc, fun _ p hp => ?_⟩
      · rw [c1, c2, top_free h4, top_free k2]; simp
      · rw [argsU_ext hx.len c1 l1] at hp
        exact hR _ _ (h1 p (by simp [hp]))
    have s1 : Fl xs' x x := .stop (by rw [hx.len]; omega) (by unfold onB; rw [c1]; exact top_on h4)
    have s2 : Fl xs' y y := .stop (by rw [hx.len]; omega) (by unfold onB; rw [c2]; exact top_on k2)
    refine ⟨fun c d => R c d ∨ (c = a ∧ d = b), fun p hp => ?_, fun c d hcd => ?_⟩
    · rcases List.mem_cons.1 hp with rfl | hp
      · exact .inr ⟨rfl, rfl⟩
      · exact .inl (h1 p (by simp [hp]))
    · rcases hcd with hcd | ⟨rfl, rfl⟩
      · obtain ⟨u, v, q1, q2⟩ := h2 c d hcd
        refine ⟨u, v, q1, ?_⟩
        rcases q2 with q2 | q2 | q2
        · exact .inl q2
        · exact .inr (.inl (q2.mono fun _ _ => .inl))
        · rcases List.mem_cons.1 q2 with q2 | q2
          · injection q2 with p1 p2
            have p1' : u = x := by omega
            have p2' : v = y := by omega
            subst p1'; subst p2'
            exact .inr (.inl (hst _ fun _ _ => .inl))
          · exact .inr (.inr q2)
      · obtain ⟨i, j, f1, f2, e1, e2⟩ := (fol_iff hr).1 hf
        have si : Fl xs' i i := by rcases (show i = x ∨ i = y by omega) with e | e <;> rw [e] <;> assumption
        have sj : Fl xs' j j := by rcases (show j = x ∨ j = y by omega) with e | e <;> rw [e] <;> assumption
        exact ⟨x, y, (fol_iff hr').2 ⟨i, j, hx.fl f1 si, hx.fl f2 sj, e1, e2⟩, .inr (.inl (hst _ fun _ _ => .inl))⟩
/-- places that are alike are made alike without a change -/
theorem URun.still {xs : List Cel} {ts : List Int} {ps met : List (Int × Int)} {o : Option (List Cel × List Int)} (h : URun xs ts ps met o) : ∀ {R : Int → Int → Prop}, Sim xs [] R → (∀ p ∈ ps, R p.1 p.2) → o = some (xs, ts) := by
  induction h with
  | done xs ts met => intro R _ _; rfl
  | @off xs ts a b ps met h =>
    intro R hS hp
    obtain ⟨x, y, hf, _⟩ := hS a b (hp (a, b) List.mem_cons_self)
    exact absurd h hf.on
  | skip hf h hr ih => intro R hS hp; exact ih hS fun p hm => hp p (List.mem_cons_of_mem _ hm)
  | @circle xs ts a b ps met x y hf h h2 h3 =>
    intro R hS hp
    obtain ⟨x', y', hf', hc⟩ := hS a b (hp (a, b) List.mem_cons_self)
    obtain ⟨rfl, rfl⟩ := hf.det hf'
    rcases hc with hc | hc | hc
    · exact absurd (.inl hc) h
    · exact absurd h2 hc.1
    · cases hc
  | @bind xs ts a b ps met x y o hf h h2 h3 hr ih =>
    intro R hS hp
    obtain ⟨x', y', hf', hc⟩ := hS a b (hp (a, b) List.mem_cons_self)
    obtain ⟨rfl, rfl⟩ := hf.det hf'
    rcases hc with hc | hc | hc
    · exact absurd (.inl hc) h
    · exact absurd h2 hc.1
    · cases hc
  | @unlike xs ts a b ps met x y hf h h2 h3 =>
    intro R hS hp
    obtain ⟨x', y', hf', hc⟩ := hS a b (hp (a, b) List.mem_cons_self)
    obtain ⟨rfl, rfl⟩ := hf.det hf'
    rcases hc with hc | hc | hc
    · exact absurd (.inl hc) h
    · exact absurd hc.2.1 h3
    · cases hc
  | plain hf h h2 h3 h4 hr ih => intro R hS hp; exact ih hS fun p hm => hp p (List.mem_cons_of_mem _ hm)
  | @tops xs ts a b ps met x y o hf h h2 h3 h4 hr ih =>
    intro R hS hp
    obtain ⟨x', y', hf', hc⟩ := hS a b (hp (a, b) List.mem_cons_self)
    obtain ⟨rfl, rfl⟩ := hf.det hf'
    rcases hc with hc | hc | hc
    · exact absurd (.inl hc) h
    · refine ih hS fun p hm => ?_
      rcases List.mem_append.1 hm with hm | hm
      · exact hc.2.2 h4 p (by simpa using hm)
      · exact hp p (List.mem_cons_of_mem _ hm)
    · cases hc
/-- made alike once more, the other way round too, nothing changes -/
theorem uout_again {xs X X' : List Cel} {ts T T' : List Int} {p q r : Int} {b' : Bool} (hr : RightP xs ts r) (h : UOut xs ts p q X T true) (h' : UOut X T q p X' T' b') : X' = X ∧ T' = T ∧ b' = true := by
  rcases h with ⟨e, _⟩ | ⟨_, h⟩
  · cases e
  · obtain ⟨R, h1, h2⟩ := h.sim rfl hr (by simp)
    have hpq := h1 (p, q) (by simp)
    rcases h' with ⟨_, h', _, _⟩ | ⟨rfl, h'⟩
    · have := h'.swap.still h2 (by simpa using hpq); cases this
    · have := h'.swap.still h2 (by simpa using hpq)
      cases this; exact ⟨rfl, rfl, rfl⟩
end Go.Proofs.Ytefnmjoapmnkbaa
set_option linter.unusedVariables false
namespace Go.Proofs.Ytefnmjoapmnkbaa
open Go.RowKit

/-! ### places that are alike have one term -/
theorem fold_from {F : List Cel → Int → List Cel} {lo1 lo2 : Int} : ∀ (m : Nat) (acc : List Cel), (∀ (acc : List Cel) (t : Nat), t < m → F acc (lo1 + t) = F acc (lo2 + t)) → (fromI lo1 m).foldl F acc = (fromI lo2 m).foldl F acc
  | 0, acc, _ => rfl
  | m + 1, acc, h => by
    rw [fromI_succ, fromI_succ, List.foldl_append, List.foldl_append, fold_from m acc fun acc t ht => h acc t (by omega)]
    simp only [List.foldl_cons, List.foldl_nil]
    exact h _ m (by omega)
theorem args_mem {l : List Cel} (hs : SlotsOk l) {x y : Nat} (hx : x < l.length) (h4 : (cellN l x).k = 4) (m : Nat) (hm : (m : Int) < (cellN l x).n) : ((x : Int) + 1 + m, (y : Int) + 1 + m) ∈ argsU l x y := by
  rw [cellN_at hx] at h4 hm
  obtain ⟨h1, h2, h3, _⟩ := top_of hs hx h4
  unfold argsU
  rw [List.getElem?_eq_getElem hx]
  simp only
  have e1 : leads1 l x l[x] = x + 1 := by unfold leads1; rw [if_pos h4]
  have e2 : leads2 l x l[x] = x + 1 + l[x].n := by unfold leads2; rw [if_pos h4]; omega
  rw [e1, e2]
  unfold argsD
  rw [List.mem_map]
  refine ⟨(l[x].n - 1 - m).toNat, by rw [List.mem_range]; omega, ?_⟩
  rw [Prod.mk.injEq]
  constructor <;> omega
theorem layG_sim {l : List Cel} {ts : List Int} {r : Int} (hr : RightP l ts r) {R : Int → Int → Prop} (hS : Sim l [] R) : ∀ (f : Nat) (acc : List Cel) (a b : Int), R a b → layG l f acc a = layG l f acc b
  | 0, _, _, _, _ => rfl
  | f + 1, acc, a, b, hab => by
    have hs : SlotsOk l := hr.slots
    obtain ⟨x, y, ⟨i, j, h1, h2, ex, ey⟩, hc⟩ := hS a b hab
    have o1 := (Fl.of h1).end_
    have o2 := (Fl.of h2).end_
    simp only [Int.toNat_natCast] at o1 o2
    unfold layG
    rw [h1, h2]
    simp only [Int.toNat_natCast]
    by_cases hl : acc.length > 200
    · rw [if_pos hl, if_pos hl]
    · rw [if_neg hl, if_neg hl]
      rcases hc with hc | hc | hc
      · have : i = j := by omega
        rw [this]
      · obtain ⟨_, hcc, hR⟩ := hc
        have hij : cellN l i = cellN l j := by
          rcases (show (i = x ∧ j = y) ∨ (i = y ∧ j = x) by omega) with ⟨rfl, rfl⟩ | ⟨rfl, rfl⟩
          · exact hcc
          · exact hcc.symm
        have hk : (cellN l i).k = (cellN l x).k := by
          rcases (show i = x ∨ i = y by omega) with rfl | rfl
          · rfl
          · rw [hcc]
        rw [hij]
        by_cases h4 : (cellN l x).k = 4
        · have k4 : (cellN l j).k = 4 := by rw [← hij, hk]; exact h4
          have n1 := top_of hs o1.1 (by rw [← cellN_at o1.1, hij]; exact k4)
          have n2 := top_of hs o2.1 (by rw [← cellN_at o2.1]; exact k4)
          rw [← cellN_at o1.1, hij] at n1
          rw [← cellN_at o2.1] at n2
          have a1 : leads1 l i (cellN l j) = i + 1 := by unfold leads1; rw [if_pos k4]
          have a2 : leads2 l i (cellN l j) = i + 1 + (cellN l j).n := by unfold leads2; rw [if_pos k4]; omega
          have b1 : leads1 l j (cellN l j) = j + 1 := by unfold leads1; rw [if_pos k4]
          have b2 : leads2 l j (cellN l j) = j + 1 + (cellN l j).n := by unfold leads2; rw [if_pos k4]; omega
          rw [a1, a2, b1, b2, show (i : Int) + 1 + (cellN l j).n - (i + 1) = (cellN l j).n by omega, show (j : Int) + 1 + (cellN l j).n - (j + 1) = (cellN l j).n by omega]
          refine fold_from _ _ fun acc t ht => ?_
          have hnx : (t : Int) < (cellN l x).n := by
            have : cellN l x = cellN l j := by
              rcases (show j = x ∨ j = y by omega) with rfl | rfl
              · rfl
              · exact hcc
            rw [this]; omega
          have hm := args_mem hs (x := x) (y := y) (by omega) h4 t hnx
          have hRm := hR h4 _ hm
          rcases (show (i = x ∧ j = y) ∨ (i = y ∧ j = x) by omega) with ⟨rfl, rfl⟩ | ⟨rfl, rfl⟩
          · exact layG_sim hr hS f acc _ _ hRm
          · exact (layG_sim hr hS f acc _ _ hRm).symm
        · have k4 : ¬ (cellN l j).k = 4 := by rw [← hij, hk]; exact h4
          have c1 : ¬ (onwardB (cellN l j) i = true ∧ standsB l (cellN l j).n = true) := fun h => by
            have := o1.2
            unfold onB at this
            rw [hij, h.1] at this; cases this
          have c2 : ¬ (onwardB (cellN l j) j = true ∧ standsB l (cellN l j).n = true) := fun h => by
            have := o2.2
            unfold onB at this
            rw [h.1] at this; cases this
          have a1 : leads1 l i (cellN l j) = i := by unfold leads1; rw [if_neg k4, if_neg c1]
          have a2 : leads2 l i (cellN l j) = i := by unfold leads2; rw [if_neg k4, if_neg c1]
          have b1 : leads1 l j (cellN l j) = j := by unfold leads1; rw [if_neg k4, if_neg c2]
          have b2 : leads2 l j (cellN l j) = j := by unfold leads2; rw [if_neg k4, if_neg c2]
          rw [a1, a2, b1, b2, Int.sub_self, Int.sub_self]
          rfl
      · cases hc
theorem uout_get {xs X : List Cel} {ts T : List Int} {p q r : Int} (hr : RightP xs ts r) (h : UOut xs ts p q X T true) : getB X p = getB X q ∧ getL X p = getL X q := by
  have hr' := uout_right h hr
  rcases h with ⟨e, _⟩ | ⟨_, h⟩
  · cases e
  · obtain ⟨R, h1, h2⟩ := h.sim rfl hr (by simp)
    have hg : gotL X p = gotL X q := layG_sim hr' h2 _ _ _ _ (h1 (p, q) (by simp))
    unfold getL getB
    rw [hg]
    exact ⟨rfl, rfl⟩
end Go.Proofs.Ytefnmjoapmnkbaa
set_option linter.unusedVariables false
namespace Go.Proofs.Ytefnmjoapmnkbaa
open Go.RowKit

/-! ### rows of deeds -/
structure OpH where
  t : List Cel
  a : Int
  b : Int
structure OpE (w : World) (b o : Nat) (x : OpH) : Prop where
  t : ∃ a cap, w.cell? ⟨b, o, none⟩ = some (.slice a x.t.length cap) ∧ Row w a cap x.t
  c1 : w.cell? ⟨b, o + 1, none⟩ = some (.int .i64 x.a)
  c2 : w.cell? ⟨b, o + 2, none⟩ = some (.int .i64 x.b)
  fit : pfit (x.a, x.b)
instance repOpH : Rep OpH where
  sz := 3
  E := OpE
  mono h hb := ⟨let ⟨a, c, h0, hr⟩ := h.t; ⟨a, c, hb _ _ _ h0, hr.keeps hb⟩, hb _ _ _ h.c1, hb _ _ _ h.c2, h.fit⟩
  lt h := let ⟨_, _, h0, _⟩ := h.t; cell_lt h0
theorem op_at {w wr : World} {b off : Nat} {xs : List OpH} (hat : ∀ i (hi : i < xs.length), Rep.E w b (off + i * Rep.sz OpH) xs[i]) (hb : Below w.heap.size w wr) {k : Nat} (hk : k < xs.length) :
    (∃ a cap, wr.cell? ⟨b, off + k * 3, none⟩ = some (.slice a xs[k].t.length cap) ∧ Row wr a cap xs[k].t) ∧ wr.cell? ⟨b, off + k * 3 + 1, none⟩ = some (.int .i64 xs[k].a) ∧ wr.cell? ⟨b, off + k * 3 + 2, none⟩ = some (.int .i64 xs[k].b) ∧ pfit (xs[k].a, xs[k].b) := by
  have h : OpE w b (off + k * 3) xs[k] := hat k hk
  obtain ⟨a, c, h0, hr⟩ := h.t
  exact ⟨⟨a, c, keep h0 hb, hr.below hb⟩, keep h.c1 hb, keep h.c2 hb, h.fit⟩
theorem row_take8 {α : Type} [Rep α] {w : World} {a : Option Addr} {cap : Nat} {xs : List α} (h : Row w a cap xs) (k : Nat) : Row w a cap (xs.take k) :=
  ⟨by have := h.le; rw [List.length_take]; omega, h.max, h.nil, fun i x hi => h.at_ i x (by
    rw [List.getElem?_take] at hi
    split at hi
    · exact hi
    · cases hi)⟩
end Go.Proofs.Ytefnmjoapmnkbaa
namespace Go.Proofs.Ytefnmjoapmnkbaa
open Go.RowKit Go.ChangeShapes Go.WideShapes Go.Deep Go.ChangeAt

theorem Try.cells80 : Try.prog.cellsOf 80 = 3 := by kernel_rfl
theorem Try.cells22 : Try.prog.cellsOf 22 = 1 := by kernel_rfl
theorem Try.cells23 : Try.prog.cellsOf 23 = 1 := by kernel_rfl
theorem Try.cells28 : Try.prog.cellsOf 28 = 3 := by kernel_rfl
theorem Try.cells25 : Try.prog.cellsOf 25 = 3 := by kernel_rfl
section
variable {H : Type} {enc : TypeId × Value → H} {w : World} {held : Bool}
theorem open_slv {fuel : Nat} {t e : TypeId} (he : Try.prog.underlying t = some (.slice e)) {v : Value} {x : DataW H × List MemPlace} (h : DataW.trod enc Try.prog w 0 (fun _ => true) held fuel t [v] = some x) : ∃ a len cap, v = .slice a len cap := by
  rcases open_slice he h with ⟨hcs, _⟩ | ⟨ad, l, c, m, n, D, Pl, hcs, _⟩
  · simp at hcs; exact ⟨_, _, _, hcs⟩
  · simp at hcs; exact ⟨_, _, _, hcs⟩
set_option maxRecDepth 100000 in
/-- three cells that read as a slot -/
theorem open_slot8 {n : Nat} {cs : List Value} {x : DataW H × List MemPlace} (h : DataW.trod enc Try.prog w 0 (fun _ => true) held n 80 cs = some x) :
    ∃ c : Cel, cs = [.int .i64 c.k, .string c.s, .int .i64 c.n] ∧ c.fit := by
  obtain ⟨ys, m, _, _, hlen, hyl, hf⟩ := DataW.trod_struct Try.underlying80 h
  rw [Try.cells80] at hlen
  match cs, hlen with
  | [v0, v1, v2], _ =>
    have h0 : DataW.trod enc Try.prog w 0 (fun _ => true) held m 3 (([v0, v1, v2].drop 0).take (Try.prog.cellsOf 3)) = ys[0]? := hf 0 _ rfl
    have h1 : DataW.trod enc Try.prog w 0 (fun _ => true) held m 9 (([v0, v1, v2].drop 1).take (Try.prog.cellsOf 9)) = ys[1]? := hf 1 _ rfl
    have h2 : DataW.trod enc Try.prog w 0 (fun _ => true) held m 3 (([v0, v1, v2].drop 2).take (Try.prog.cellsOf 3)) = ys[2]? := hf 2 _ rfl
    rw [Try.cells3] at h0 h2
    rw [Try.cells9] at h1
    have hy : ∀ i : Nat, i < 3 → ∃ y, ys[i]? = some y := fun i hi => ⟨_, List.getElem?_eq_getElem (by rw [hyl]; exact hi)⟩
    obtain ⟨y0, e0⟩ := hy 0 (by omega)
    obtain ⟨y1, e1⟩ := hy 1 (by omega)
    obtain ⟨y2, e2⟩ := hy 2 (by omega)
    rw [e0] at h0
    rw [e1] at h1
    rw [e2] at h2
    obtain ⟨a0, q0, _, f0⟩ := DataW.trod_int Try.underlying3 h0
    obtain ⟨a1, q1, _, f1⟩ := DataW.trod_string Try.underlying9 h1
    obtain ⟨a2, q2, _, f2⟩ := DataW.trod_int Try.underlying3 h2
    simp at q0 q1 q2
    refine ⟨⟨a0, a1, a2⟩, by rw [q0, q1, q2], ⟨(i64_wf f0).1, (i64_wf f0).2, (i64_wf f2).1, (i64_wf f2).2, by unfold maxLen at f1; exact f1⟩⟩
theorem E_slot8 (n : Nat) (a : Addr) (cs : List Value) (x : DataW H × List MemPlace) (hc : w.cells? 0 a 3 = some cs) (h : DataW.trod enc Try.prog w 0 (fun _ => true) held n 80 cs = some x) : ∃ (b o : Nat) (y : Cel), a = ⟨b, o, none⟩ ∧ Rep.E w b o y := by
  obtain ⟨c, rfl, hf⟩ := open_slot8 h
  obtain ⟨_, _, hat⟩ := World.cells?_some hc
  have h0 := hat 0 (by omega)
  obtain ⟨b, o, rfl⟩ : ∃ b o, a = ⟨b, o, none⟩ := spot_none (by simpa [Addr.add] using h0)
  refine ⟨b, o, c, rfl, ?_⟩
  have h1 := hat 1 (by omega)
  have h2 := hat 2 (by omega)
  rw [add_lit] at h0 h1 h2
  exact ⟨h0, h1, h2, hf⟩
theorem open_slots8 {fuel : Nat} {a : Option Addr} {len cap : Nat} {x : DataW H × List MemPlace} (h : DataW.trod enc Try.prog w 0 (fun _ => true) held fuel 22 [.slice a len cap] = some x) :
    ∃ xs : List Cel, xs.length = len ∧ Row w a cap xs :=
  open_rows Try.underlying22 Try.cells80 (fun n a cs x h1 h2 => E_slot8 n a cs x h1 h2) h
theorem E_int8 (n : Nat) (a : Addr) (cs : List Value) (x : DataW H × List MemPlace) (hc : w.cells? 0 a 1 = some cs) (h : DataW.trod enc Try.prog w 0 (fun _ => true) held n 3 cs = some x) : ∃ (b o : Nat) (y : Int), a = ⟨b, o, none⟩ ∧ Rep.E w b o y := by
  obtain ⟨a0, q0, _, f0⟩ := DataW.trod_int Try.underlying3 h
  subst q0
  obtain ⟨_, _, hat⟩ := World.cells?_some hc
  have h0 := hat 0 (by omega)
  obtain ⟨b, o, rfl⟩ : ∃ b o, a = ⟨b, o, none⟩ := spot_none (by simpa [Addr.add] using h0)
  rw [add_lit] at h0
  exact ⟨b, o, a0, rfl, ⟨h0, (i64_wf f0).1, (i64_wf f0).2⟩⟩
theorem open_ints8 {fuel : Nat} {a : Option Addr} {len cap : Nat} {x : DataW H × List MemPlace} (h : DataW.trod enc Try.prog w 0 (fun _ => true) held fuel 23 [.slice a len cap] = some x) :
    ∃ xs : List Int, xs.length = len ∧ Row w a cap xs :=
  open_rows Try.underlying23 Try.cells3 (fun n a cs x h1 h2 => E_int8 n a cs x h1 h2) h
set_option maxRecDepth 100000 in
theorem open_heap8 {n : Nat} {cs : List Value} {x : DataW H × List MemPlace} (h : DataW.trod enc Try.prog w 0 (fun _ => true) held n 25 cs = some x) :
    ∃ (l : List Cel) (ts : List Int) (r : Int) (a : Option Addr) (cap : Nat) (a' : Option Addr) (cap' : Nat), cs = [.slice a l.length cap, .slice a' ts.length cap', .int .i64 r] ∧ Row w a cap l ∧ Row w a' cap' ts := by
  obtain ⟨ys, m, _, _, hlen, hyl, hf⟩ := DataW.trod_struct Try.underlying25 h
  rw [Try.cells25] at hlen
  match cs, hlen with
  | [v0, v1, v2], _ =>
    have h0 : DataW.trod enc Try.prog w 0 (fun _ => true) held m 22 (([v0, v1, v2].drop 0).take (Try.prog.cellsOf 22)) = ys[0]? := hf 0 _ rfl
    have h1 : DataW.trod enc Try.prog w 0 (fun _ => true) held m 23 (([v0, v1, v2].drop 1).take (Try.prog.cellsOf 23)) = ys[1]? := hf 1 _ rfl
    have h2 : DataW.trod enc Try.prog w 0 (fun _ => true) held m 3 (([v0, v1, v2].drop 2).take (Try.prog.cellsOf 3)) = ys[2]? := hf 2 _ rfl
    rw [Try.cells22] at h0
    rw [Try.cells23] at h1
    rw [Try.cells3] at h2
    have hy : ∀ i : Nat, i < 3 → ∃ y, ys[i]? = some y := fun i hi => ⟨_, List.getElem?_eq_getElem (by rw [hyl]; exact hi)⟩
    obtain ⟨y0, e0⟩ := hy 0 (by omega)
    obtain ⟨y1, e1⟩ := hy 1 (by omega)
    obtain ⟨y2, e2⟩ := hy 2 (by omega)
    rw [e0] at h0
    rw [e1] at h1
    rw [e2] at h2
    have h0' : DataW.trod enc Try.prog w 0 (fun _ => true) held m 22 [v0] = some y0 := by simpa using h0
    have h1' : DataW.trod enc Try.prog w 0 (fun _ => true) held m 23 [v1] = some y1 := by simpa using h1
    obtain ⟨a, len, cap, rfl⟩ := open_slv Try.underlying22 h0'
    obtain ⟨a', len', cap', rfl⟩ := open_slv Try.underlying23 h1'
    obtain ⟨a2, q2, _, _⟩ := DataW.trod_int Try.underlying3 h2
    simp at q2
    obtain ⟨xs, rfl, hr⟩ := open_slots8 h0'
    obtain ⟨us, rfl, hr'⟩ := open_ints8 h1'
    exact ⟨xs, us, a2, a, cap, a', cap', by rw [q2], hr, hr'⟩
set_option maxRecDepth 100000 in
theorem open_op8 {n : Nat} {cs : List Value} {x : DataW H × List MemPlace} (h : DataW.trod enc Try.prog w 0 (fun _ => true) held n 28 cs = some x) :
    ∃ (y : OpH) (a : Option Addr) (cap : Nat), cs = [.slice a y.t.length cap, .int .i64 y.a, .int .i64 y.b] ∧ Row w a cap y.t ∧ pfit (y.a, y.b) := by
  obtain ⟨ys, m, _, _, hlen, hyl, hf⟩ := DataW.trod_struct Try.underlying28 h
  rw [Try.cells28] at hlen
  match cs, hlen with
  | [v0, v1, v2], _ =>
    have h0 : DataW.trod enc Try.prog w 0 (fun _ => true) held m 26 (([v0, v1, v2].drop 0).take (Try.prog.cellsOf 26)) = ys[0]? := hf 0 _ rfl
    have h1 : DataW.trod enc Try.prog w 0 (fun _ => true) held m 3 (([v0, v1, v2].drop 1).take (Try.prog.cellsOf 3)) = ys[1]? := hf 1 _ rfl
    have h2 : DataW.trod enc Try.prog w 0 (fun _ => true) held m 3 (([v0, v1, v2].drop 2).take (Try.prog.cellsOf 3)) = ys[2]? := hf 2 _ rfl
    rw [Try.cells26] at h0
    rw [Try.cells3] at h1 h2
    have hy : ∀ i : Nat, i < 3 → ∃ y, ys[i]? = some y := fun i hi => ⟨_, List.getElem?_eq_getElem (by rw [hyl]; exact hi)⟩
    obtain ⟨y0, e0⟩ := hy 0 (by omega)
    obtain ⟨y1, e1⟩ := hy 1 (by omega)
    obtain ⟨y2, e2⟩ := hy 2 (by omega)
    rw [e0] at h0
    rw [e1] at h1
    rw [e2] at h2
    have h0' : DataW.trod enc Try.prog w 0 (fun _ => true) held m 26 [v0] = some y0 := by simpa using h0
    obtain ⟨a, len, cap, rfl⟩ := open_slv Try.underlying26 h0'
    obtain ⟨a1, q1, _, f1⟩ := DataW.trod_int Try.underlying3 h1
    obtain ⟨a2, q2, _, f2⟩ := DataW.trod_int Try.underlying3 h2
    simp at q1 q2
    obtain ⟨xs, rfl, hr⟩ := open_cells h0'
    exact ⟨⟨xs, a1, a2⟩, a, cap, by rw [q1, q2], hr, ⟨(i64_wf f1).1, (i64_wf f1).2⟩, (i64_wf f2).1, (i64_wf f2).2⟩
set_option maxRecDepth 100000 in
theorem E_op8 (n : Nat) (a : Addr) (cs : List Value) (x : DataW H × List MemPlace) (hc : w.cells? 0 a 3 = some cs) (h : DataW.trod enc Try.prog w 0 (fun _ => true) held n 28 cs = some x) : ∃ (b o : Nat) (y : OpH), a = ⟨b, o, none⟩ ∧ Rep.E w b o y := by
  obtain ⟨y, a1, cap, rfl, hr, hf⟩ := open_op8 h
  obtain ⟨_, _, hat⟩ := World.cells?_some hc
  have h0 := hat 0 (by omega)
  obtain ⟨b, o, rfl⟩ : ∃ b o, a = ⟨b, o, none⟩ := spot_none (by simpa [Addr.add] using h0)
  refine ⟨b, o, y, rfl, ?_⟩
  have h1 := hat 1 (by omega)
  have h2 := hat 2 (by omega)
  rw [add_lit] at h0 h1 h2
  exact ⟨⟨a1, cap, h0, hr⟩, h1, h2, hf⟩
theorem open_ops8 {fuel : Nat} {a : Option Addr} {len cap : Nat} {x : DataW H × List MemPlace} (h : DataW.trod enc Try.prog w 0 (fun _ => true) held fuel 63 [.slice a len cap] = some x) :
    ∃ xs : List OpH, xs.length = len ∧ Row w a cap xs :=
  open_rows Try.underlying63 Try.cells28 (fun n a cs x h1 h2 => E_op8 n a cs x h1 h2) h

set_option maxRecDepth 100000 in
theorem agg_heap {base : Nat} {v : Value} (hk : Value.okWide Try.prog w .any base 25 v) : ∃ cs, v = .agg cs := by
  simp only [Value.okWide, Try.underlying25] at hk
  obtain ⟨cs, h1, _⟩ := hk
  exact ⟨cs, h1⟩
set_option maxRecDepth 100000 in
theorem agg_op {base : Nat} {v : Value} (hk : Value.okWide Try.prog w .any base 28 v) : ∃ cs, v = .agg cs := by
  simp only [Value.okWide, Try.underlying28] at hk
  obtain ⟨cs, h1, _⟩ := hk
  exact ⟨cs, h1⟩
end
end Go.Proofs.Ytefnmjoapmnkbaa
namespace Go.Proofs.Ytefnmjoapmnkbaa
end Go.Proofs.Ytefnmjoapmnkbaa
