import Derived.Test.YtmmnfkggfnokjaaGreatZr2
import Derived.Shelf.Spec.SlicesInsertGrow
import Derived.Stop.Walk2
import Derived.Deep.LoopGhost
import Derived.RangeFuncNested
import Derived.RangeFuncBound
import Derived.RangeFuncCalls
import Derived.RangeFuncLeaves
import Derived.RangeFuncBox
import Derived.Shelf.Abstract
import Derived.Shelf.RegionOpen
import Derived.WalkKit
import Derived.OwnWalkIn
import Derived.TacticsInMore
import Derived.LoopNIn
import Derived.LoopIn
import Derived.Maps.AppendAt
import Derived.Test.YtmmnfkggfnokjaaGreatRows
import Derived.Shelf.SortM.Plain
import Derived.Shelf.SortM.SortNone
import Derived.Shelf.SlicesE.Compact
import Derived.Deep.RegionWith
import Derived.OwnWalk
import Derived.Maps.OwnOps
import Derived.Maps.OwnSet
import Derived.Maps.OwnIn
namespace Go.Proofs.YtmmnfkggfnokjaaGreat
open Go.RowKit

mutual
/-- a tree with its cells changed -/
def mapT (f : Cel → Cel) : Tm → Tm
  | .mk c ts => .mk (f c) (mapTs f ts)
def mapTs (f : Cel → Cel) : List Tm → List Tm
  | [] => []
  | t :: ts => mapT f t :: mapTs f ts
end
mutual
theorem mapT_flat (f : Cel → Cel) : ∀ t : Tm, (mapT f t).flat = t.flat.map f
  | .mk c ts => by simp only [mapT, Tm.flat, List.map_cons]; rw [mapTs_flat f ts]
theorem mapTs_flat (f : Cel → Cel) : ∀ ts : List Tm, flats (mapTs f ts) = (flats ts).map f
  | [] => rfl
  | t :: ts => by simp only [mapTs, flats, List.map_append]; rw [mapT_flat f t, mapTs_flat f ts]
end
theorem mapTs_length (f : Cel → Cel) (ts : List Tm) : (mapTs f ts).length = ts.length := by
  induction ts with
  | nil => rfl
  | cons t ts ih => simp [mapTs, ih]
mutual
theorem mapT_depth (f : Cel → Cel) : ∀ t : Tm, (mapT f t).depth = t.depth
  | .mk c ts => by simp only [mapT, Tm.depth]; rw [mapTs_depth f ts]
theorem mapTs_depth (f : Cel → Cel) : ∀ ts : List Tm, depths (mapTs f ts) = depths ts
  | [] => rfl
  | t :: ts => by simp only [mapTs, depths]; rw [mapT_depth f t, mapTs_depth f ts]
end
mutual
theorem mapT_ok (f : Cel → Cel) : ∀ t : Tm, t.ok → (∀ c ∈ t.flat, cellOk (f c) = true ∧ ar (f c) = ar c) → (mapT f t).ok
  | .mk c ts, h, hf => by
    obtain ⟨h1, h2, h3⟩ := h
    have hc := hf c (by simp [Tm.flat])
    exact ⟨hc.1, by rw [mapTs_length, h2, hc.2], mapTs_ok f ts h3 (fun d hd => hf d (by simp only [Tm.flat]; exact List.mem_cons_of_mem _ hd))⟩
theorem mapTs_ok (f : Cel → Cel) : ∀ ts : List Tm, oks ts → (∀ c ∈ flats ts, cellOk (f c) = true ∧ ar (f c) = ar c) → oks (mapTs f ts)
  | [], _, _ => trivial
  | t :: ts, h, hf => ⟨mapT_ok f t h.1 (fun c hc => hf c (by simp only [flats]; exact List.mem_append_left _ hc)), mapTs_ok f ts h.2 (fun c hc => hf c (by simp only [flats]; exact List.mem_append_right _ hc))⟩
end
mutual
theorem ok_cells : ∀ t : Tm, t.ok → ∀ c ∈ t.flat, cellOk c = true
  | .mk c ts, h, d, hd => by
    simp only [Tm.flat, List.mem_cons] at hd
    rcases hd with rfl | hd
    · exact h.1
    · exact oks_cells ts h.2.2 d hd
theorem oks_cells : ∀ ts : List Tm, oks ts → ∀ c ∈ flats ts, cellOk c = true
  | [], _, d, hd => by simp [flats] at hd
  | t :: ts, h, d, hd => by
    simp only [flats, List.mem_append] at hd
    rcases hd with hd | hd
    · exact ok_cells t h.1 d hd
    · exact oks_cells ts h.2 d hd
end
theorem right_cells {xs : List Cel} (h : rightB xs = true) : ∀ c ∈ xs, cellOk c = true := by
  obtain ⟨t, ht, rfl, _⟩ := right_tm h
  exact ok_cells t ht
theorem var_range {c : Cel} (h : cellOk c = true) (h1 : c.k = 1) : 0 ≤ c.n ∧ c.n ≤ 999 := by
  simp [cellOk, h1] at h; omega

/-- the variables of a term, shifted -/
def shiftI (d : Int) (c : Cel) : Cel := if c.k = 1 then ⟨c.k, c.s, c.n + d⟩ else c
theorem shiftC_eq {d : Int} (hd : -100000 ≤ d ∧ d ≤ 100000) {c : Cel} (h : c.k = 1 → -100000 ≤ c.n ∧ c.n ≤ 100000) : shiftC d c = shiftI d c := by
  unfold shiftC shiftI
  by_cases h1 : c.k = 1
  · have := h h1
    rw [if_pos h1, if_pos h1, IntWalk.wrap64_in _ (by constructor <;> omega)]
  · rw [if_neg h1, if_neg h1]
theorem map_shift {xs : List Cel} {d : Int} (hd : -100000 ≤ d ∧ d ≤ 100000) (h : ∀ c ∈ xs, c.k = 1 → -100000 ≤ c.n ∧ c.n ≤ 100000) : xs.map (shiftC d) = xs.map (shiftI d) :=
  List.map_congr_left (fun c hc => shiftC_eq hd (h c hc))
theorem varsGo_shift (d : Int) (xs : List Cel) : ∀ acc : List Int, varsGo (acc.map (· + d)) (xs.map (shiftI d)) = (varsGo acc xs).map (· + d) := by
  induction xs with
  | nil => intro acc; rfl
  | cons c xs ih =>
    intro acc
    simp only [List.map_cons, varsGo]
    have hk : (shiftI d c).k = c.k := by unfold shiftI; split <;> rfl
    have hm : ∀ n : Int, n + d ∈ acc.map (· + d) ↔ n ∈ acc := by
      intro n
      rw [List.mem_map]
      constructor
      · rintro ⟨m, hm, e⟩
        have : m = n := by omega
        rw [← this]; exact hm
      · intro h; exact ⟨n, h, rfl⟩
    by_cases h1 : c.k = 1
    · have hn : (shiftI d c).n = c.n + d := by unfold shiftI; rw [if_pos h1]
      by_cases h2 : c.n ∈ acc
      · rw [if_neg (by rw [hk, hn]; simp only [hm]; exact fun h => h.2 h2), if_neg (fun h => h.2 h2)]
        exact ih acc
      · rw [if_pos (by rw [hk, hn]; simp only [hm]; exact ⟨h1, h2⟩), if_pos ⟨h1, h2⟩, hn]
        have := ih (acc ++ [c.n])
        rw [List.map_append] at this
        exact this
    · rw [if_neg (by rw [hk]; exact fun h => h1 h.1), if_neg (fun h => h1 h.1)]
      exact ih acc
theorem vars_shift {xs : List Cel} (d : Int) : varsL (xs.map (shiftI d)) = (varsL xs).map (· + d) := varsGo_shift d xs []
theorem mem_vars_of (xs : List Cel) : ∀ (acc : List Int) (n : Int), n ∈ varsGo acc xs → n ∈ acc ∨ ∃ c ∈ xs, c.k = 1 ∧ c.n = n := by
  induction xs with
  | nil => intro acc n h; exact .inl h
  | cons c xs ih =>
    intro acc n h
    simp only [varsGo] at h
    rcases ih _ _ h with h | ⟨e, he, h1, h2⟩
    · split at h
      · rename_i hc
        rcases List.mem_append.1 h with h | h
        · exact .inl h
        · simp at h; exact .inr ⟨c, List.mem_cons_self, hc.1, h.symm⟩
      · exact .inl h
    · exact .inr ⟨e, List.mem_cons_of_mem _ he, h1, h2⟩
theorem vars_range {xs : List Cel} (h : rightB xs = true) : ∀ n ∈ varsL xs, 0 ≤ n ∧ n ≤ 999 := by
  intro n hn
  rcases mem_vars_of xs [] n hn with h' | ⟨c, hc, h1, rfl⟩
  · simp at h'
  · exact var_range (right_cells h c hc) h1
theorem shift_ok {c : Cel} {d : Int} (h : cellOk c = true) (hr : c.k = 1 → 0 ≤ c.n + d ∧ c.n + d ≤ 999) : cellOk (shiftI d c) = true ∧ ar (shiftI d c) = ar c := by
  unfold shiftI
  by_cases h1 : c.k = 1
  · rw [if_pos h1]
    have := hr h1
    refine ⟨?_, by simp [ar, h1]⟩
    simp [cellOk, h1] at h ⊢
    exact ⟨⟨h.1.1, this.1⟩, this.2⟩
  · rw [if_neg h1]; exact ⟨h, rfl⟩
theorem mem_varsL {xs : List Cel} {c : Cel} (hc : c ∈ xs) (h1 : c.k = 1) : c.n ∈ varsL xs := by
  have : ∀ (xs : List Cel) (acc : List Int), c ∈ xs → c.n ∈ varsGo acc xs := by
    intro xs
    induction xs with
    | nil => intro acc h; simp at h
    | cons e l ih =>
      intro acc h
      rcases List.mem_cons.1 h with rfl | h
      · simp only [varsGo]
        have sub : ∀ (l : List Cel) (acc : List Int) (n : Int), n ∈ acc → n ∈ varsGo acc l := by
          intro l
          induction l with
          | nil => intro acc n h; exact h
          | cons f l ih => intro acc n h; refine ih _ _ ?_; split; exact List.mem_append_left _ h; exact h
        refine sub _ _ _ ?_
        by_cases h2 : c.n ∈ acc
        · rw [if_neg (fun h => h.2 h2)]; exact h2
        · rw [if_pos ⟨h1, h2⟩]; simp
      · exact ih _ h
  exact this xs [] hc
theorem small_vars {xs : List Cel} (h : rightB xs = true) : ∀ c ∈ xs, c.k = 1 → -100000 ≤ c.n ∧ c.n ≤ 100000 := fun c hc h1 => by
  have := var_range (right_cells h c hc) h1; omega

/-- all variables stay within the limits -/
def stays (vs : List Int) (d : Int) : Bool := vs.all fun n => decide (0 ≤ n + d) && decide (n + d ≤ 999)
theorem shift_stays {t : Tm} (ht : t.ok) (h200 : t.flat.length ≤ 200) {d : Int} (hd : -100000 ≤ d ∧ d ≤ 100000) (h : stays (varsL t.flat) d = true) :
    shiftL t.flat d = (mapT (shiftI d) t).flat ∧ (mapT (shiftI d) t).ok ∧ (mapT (shiftI d) t).flat.length = t.flat.length := by
  have hR := right_flat ht h200
  have hok : (mapT (shiftI d) t).ok := mapT_ok _ t ht (fun c hc => shift_ok (ok_cells t ht c hc) (fun h1 => by
    have := List.all_eq_true.1 h c.n (mem_varsL hc h1)
    simpa using this))
  have hl : (mapT (shiftI d) t).flat.length = t.flat.length := by rw [mapT_flat, List.length_map]
  refine ⟨?_, hok, hl⟩
  unfold shiftL
  rw [map_shift hd (small_vars hR), ← mapT_flat, if_pos (right_flat hok (by omega))]
theorem shift_leaves {t : Tm} (ht : t.ok) (h200 : t.flat.length ≤ 200) {d : Int} (hd : -100000 ≤ d ∧ d ≤ 100000) (h : stays (varsL t.flat) d = false) : shiftL t.flat d = [] := by
  have hR := right_flat ht h200
  unfold shiftL
  rw [map_shift hd (small_vars hR), if_neg]
  intro hr
  obtain ⟨n, hn, hb⟩ := List.all_eq_false.1 h
  rcases mem_vars_of t.flat [] n hn with h' | ⟨c, hc, h1, rfl⟩
  · simp at h'
  · have h2 := right_cells hr (shiftI d c) (List.mem_map_of_mem hc)
    have h3 : (shiftI d c).k = 1 := by unfold shiftI; rw [if_pos h1]; exact h1
    have h4 := var_range h2 h3
    have h5 : (shiftI d c).n = c.n + d := by unfold shiftI; rw [if_pos h1]
    rw [h5] at h4
    exact hb (by simp; exact h4)
theorem shift_back {t : Tm} (ht : t.ok) (h200 : t.flat.length ≤ 200) {d : Int} (hd : -100000 ≤ d ∧ d ≤ 99000) (hd2 : -99000 ≤ d) (h : stays (varsL t.flat) d = true) : shiftL (mapT (shiftI d) t).flat (-d) = t.flat := by
  obtain ⟨_, hok, hl⟩ := shift_stays ht h200 ⟨hd.1, by omega⟩ h
  have hR := right_flat ht h200
  have hR2 := right_flat hok (by omega)
  have e : (mapT (shiftI d) t).flat.map (shiftC (-d)) = t.flat := by
    rw [map_shift ⟨by omega, by omega⟩ (small_vars hR2), mapT_flat, List.map_map]
    have : ∀ c ∈ t.flat, (shiftI (-d) ∘ shiftI d) c = c := by
      intro c _
      show shiftI (-d) (shiftI d c) = c
      unfold shiftI
      by_cases h1 : c.k = 1
      · rw [if_pos h1, if_pos h1]
        exact (Cel.eq_iff _ _).2 ⟨rfl, rfl, by show c.n + d + -d = c.n; omega⟩
      · rw [if_neg h1, if_neg h1]
    exact (List.map_congr_left this).trans (List.map_id _)
  unfold shiftL
  rw [e, if_pos hR]
theorem shift_zero {t : Tm} (ht : t.ok) (h200 : t.flat.length ≤ 200) : shiftL t.flat 0 = t.flat := by
  have hR := right_flat ht h200
  have e : t.flat.map (shiftC 0) = t.flat := by
    rw [map_shift ⟨by omega, by omega⟩ (small_vars hR)]
    have : ∀ c ∈ t.flat, shiftI 0 c = c := by
      intro c _
      unfold shiftI
      by_cases h1 : c.k = 1
      · rw [if_pos h1]
        exact (Cel.eq_iff _ _).2 ⟨rfl, rfl, by show c.n + 0 = c.n; omega⟩
      · rw [if_neg h1]
    exact (List.map_congr_left this).trans (List.map_id _)
  unfold shiftL
  rw [e, if_pos hR]
end Go.Proofs.YtmmnfkggfnokjaaGreat
namespace Go.Proofs.YtmmnfkggfnokjaaGreat
open Go.RowKit

/-! ### the document's Add -/
def insGo (q : Bool) (t : List Cel) (l : List (List Cel)) : List (List Cel) := if q then l else insF t l
theorem insGo_yes (t : List Cel) (l : List (List Cel)) : insGo true t l = l := rfl
theorem insGo_lt {t : List Cel} {l : List (List Cel)} {k : Nat} (hk : k < l.length) (h : compP t l[k] < 0) : insGo false t (l.drop k) = t :: l[k] :: l.drop (k + 1) := by
  rw [List.drop_eq_getElem_cons hk]; unfold insGo insF; simp [h]
theorem insGo_ge {t : List Cel} {l : List (List Cel)} {k : Nat} (hk : k < l.length) (h : ¬ compP t l[k] < 0) : insGo false t (l.drop k) = l[k] :: insGo false t (l.drop (k + 1)) := by
  rw [List.drop_eq_getElem_cons hk]; unfold insGo; simp only [Bool.false_eq_true, if_false]; rw [insF, if_neg h]
theorem insGo_end {t : List Cel} {l : List (List Cel)} {k : Nat} (hk : l.length ≤ k) : insGo false t (l.drop k) = [t] := by
  rw [List.drop_eq_nil_of_le hk]; rfl

set_option maxHeartbeats 3200000 in
set_option maxRecDepth 100000 in
theorem refaddF_any (a : Option Addr) (cap : Nat) (l : List (List Cel)) (a' : Option Addr) (cap' : Nat) (t : List Cel) (w : World) (hr : Row w a cap l) (ht : Row w a' cap' t) (hF : FR l) :
    Calls Tryz.prog 12 #[.slice a l.length cap, .slice a' t.length cap'] w fun e w' => ∃ a2 c2, e = .returned (.tuple #[.slice a2 (addF l t).length c2, .int .i64 (addE l t)]) ∧ Row w' a2 c2 (addF l t) ∧ Below w.heap.size w w' := by
  have hm := hr.max
  have hm2 := hr.le
  have hm3 := ht.max
  have hm4 := ht.le
  have h512 := hF.len
  cases hQ : factB t with
  | false =>
    have HE : Hid (addE l t = 120) := by unfold Hid addE; rw [hQ]; rfl
    have HL : Hid (addF l t = []) := by unfold Hid addF; rw [hQ]; rfl
    have HQ := mkHid hQ
    clear hQ hF
    go_enter Tryz.func12, Tryz.ntmps12
    go_wp2_with fail
    refine (reffact_is ht HQ).mono ?_; rintro e w1 ⟨rfl, hb1⟩
    go_wp2_with fail
    go_ret2
    rw [HE.out, HL.out]
    exact ⟨none, 0, rfl, nilRow _, hb1⟩
  | true =>
    have HQ := mkHid hQ
    by_cases hin : t ∈ l
    · have HE : Hid (addE l t = 0) := addE_in hQ hin
      have HL : Hid (addF l t = l) := by unfold Hid addF; rw [if_pos hQ, if_pos hin]
      have HD : Hid (decide (t ∈ l) = true) := decide_eq_true hin
      clear hQ hin hF
      go_enter Tryz.func12, Tryz.ntmps12
      go_wp2_with fail
      refine (reffact_is ht HQ).mono ?_; rintro e w1 ⟨rfl, hb1⟩
      go_wp2_with fail
      refine (refhasF_any a cap l a' cap' t w1 (hr.below hb1) (ht.below hb1)).mono ?_; rintro e w2 ⟨rfl, hb2⟩
      rw [HD.out]
      go_wp2_with fail
      go_ret2
      rw [HE.out, HL.out]
      exact ⟨a, cap, rfl, (hr.below hb1).below hb2, hb1.then hb2⟩
    · have HD : Hid (decide (t ∈ l) = false) := decide_eq_false hin
      by_cases hfull : 512 ≤ l.length
      · have HE : Hid (addE l t = 2) := by unfold Hid addE; rw [if_pos hQ, if_neg hin, if_pos hfull]
        have HL : Hid (addF l t = []) := by unfold Hid addF; rw [if_pos hQ, if_neg hin, if_pos hfull]
        clear hQ hin hF
        go_enter Tryz.func12, Tryz.ntmps12
        go_wp2_with fail
        refine (reffact_is ht HQ).mono ?_; rintro e w1 ⟨rfl, hb1⟩
        go_wp2_with fail
        refine (refhasF_any a cap l a' cap' t w1 (hr.below hb1) (ht.below hb1)).mono ?_; rintro e w2 ⟨rfl, hb2⟩
        rw [HD.out]
        go_wp2_with fail
        go_ret2
        rw [HE.out, HL.out]
        exact ⟨none, 0, rfl, nilRow _, hb1.then hb2⟩
      · have HE : Hid (addE l t = 0) := by unfold Hid addE; rw [if_pos hQ, if_neg hin, if_neg hfull]
        have HL : Hid (addF l t = insF t l) := by unfold Hid addF; rw [if_pos hQ, if_neg hin, if_neg hfull]
        have hlt512 : l.length < 512 := by omega
        have HA : Hid (∀ x ∈ l, factB x = true) := hF.all
        clear hQ hin hF
        go_enter Tryz.func12, Tryz.ntmps12
        go_wp2_with fail
        refine (reffact_is ht HQ).mono ?_; rintro e w1 ⟨rfl, hb1⟩
        go_wp2_with fail
        refine (refhasF_any a cap l a' cap' t w1 (hr.below hb1) (ht.below hb1)).mono ?_; rintro e w2 ⟨rfl, hb2⟩
        rw [HD.out]
        have hb12 := hb1.then hb2
        have hr2 := hr.below hb12
        have ht2 := ht.below hb12
        have hm0 := AccInv.made (α := List Cel) (B := w2.heap.size) (e := 23) (T := 23) w2 (Nat.le_refl _) rfl
        have hb0 := (Below.refl w2.heap.size w2).new (.cells #[] 23)
        go_wp2_with fail
        go_loopw [6, 7, 8] (fun v q i wr => ∃ (k : Nat) (A : List (List Cel)) (b : Bool), k ≤ l.length ∧ (A.length ≤ k ∨ b = true ∧ A.length ≤ k + 1) ∧ i = .int .i64 k ∧ q = .bool b ∧ AccInv w2.heap.size 23 A v wr ∧ Below w2.heap.size w2 wr ∧ Hid (A ++ insGo b t (l.drop k) = insF t l)) (fun v q i wr => l.length - (intOf i).toNat)
        case atStart => exact ⟨0, [], false, Nat.zero_le _, by simp, rfl, rfl, hm0, hb0, rfl⟩
        case round =>
          obtain ⟨k, A, q, hk, hA, rfl, rfl, hacc, hbl, HS⟩ := hrel
          by_cases hlt : k < l.length
          · obtain ⟨b, off, rfl, hb, hat⟩ := hr2.cases.resolve_left (fun e => by simp [e] at hlt)
            obtain ⟨a1, cap1, d0, hq1⟩ := list_at hat (Below.refl _ _) hlt
            have c0 := keep d0 hbl
            have hr1 := hq1.below hbl
            have ht1 := ht2.below hbl
            have hfr := hacc.fresh hbl
            have hqh := hq1.keeps hfr
            have hth := ht2.keeps hfr
            have hszl := hbl.size
            cases q with
            | true =>
              have hA1 : A.length ≤ k + 1 := hA.elim (fun h => by omega) (fun h => h.2)
              clear hA
              have HT : Hid ((A ++ [l[k]]) ++ insGo true t (l.drop (k + 1)) = insF t l) := by
                rw [Hid, ← HS.out, insGo_yes, insGo_yes, List.append_assoc, List.drop_eq_getElem_cons hlt]; rfl
              clear HS
              go_wp2_with (at_builtin; refine wpList_acc (α := List Cel) rfl _ _ 22 rfl w2.heap.size 23 24 _ Tryz.underlying22 Tryz.infoSl rfl (by decide) _ A hacc (by rfl) _ #[.slice a1 l[k].length cap1] l[k] ⟨a1, cap1, rfl, hqh⟩ (by rfl) (by omega) hszl ?_; intro v9 w9 hacc9 hb9)
              go_round
              case rel => exact ⟨k + 1, A ++ [l[k]], true, by omega, .inr ⟨rfl, by simp; omega⟩, by go_num, rfl, hacc9, hbl.trans hb9, HT⟩
              case measure => simp [intOf]; omega
            | false =>
              have hA1 : A.length ≤ k := hA.elim id (fun h => by cases h.1)
              clear hA
              obtain ⟨d, hd⟩ : ∃ d, compP t l[k] = d := ⟨_, rfl⟩
              have HR : Hid (compR t l[k] = d) := by rw [Hid, ← comp_factF HQ.out (HA.out _ (List.getElem_mem hlt))]; exact hd
              by_cases hd0 : d < 0
              · have HT : Hid (((A ++ [t]) ++ [l[k]]) ++ insGo true t (l.drop (k + 1)) = insF t l) := by
                  rw [Hid, ← HS.out, insGo_yes, insGo_lt hlt (by rw [hd]; exact hd0), List.append_assoc, List.append_assoc]; rfl
                clear HS hd
                go_wp2_with (first
                  | (go_at_call 35; refine (refcompare_is ht1 hr1 HR).mono ?_; rintro e w4 ⟨rfl, hb4⟩; have hacc4 := hacc.below hb4; have hbl4 := hbl.then hb4; have hfr4 := hacc4.fresh hbl4; have hqh4 := hq1.keeps hfr4; have hth4 := ht2.keeps hfr4; have c4 := keep c0 hb4; have hsz4 := hbl4.size)
                  | (at_builtin; refine wpList_acc (α := List Cel) rfl _ _ 22 rfl w2.heap.size 23 24 _ Tryz.underlying22 Tryz.infoSl rfl (by decide) _ A hacc4 (by rfl) _ #[.slice a' t.length cap'] t ⟨a', cap', rfl, hth4⟩ (by rfl) (by omega) hsz4 ?_; intro v8 w8 hacc8 hb8; have hbl8 := hbl4.trans hb8; have hqh8 := hq1.keeps (hacc8.fresh hbl8); have c8 := keep d0 hbl8; have hsz8 := hbl8.size)
                  | (at_builtin; refine wpList_acc (α := List Cel) rfl _ _ 22 rfl w2.heap.size 23 24 _ Tryz.underlying22 Tryz.infoSl rfl (by decide) _ (A ++ [t]) hacc8 (by rfl) _ #[.slice a1 l[k].length cap1] l[k] ⟨a1, cap1, rfl, hqh8⟩ (by rfl) (by simp; omega) hsz8 ?_; intro v9 w9 hacc9 hb9))
                go_round
                case rel => exact ⟨k + 1, (A ++ [t]) ++ [l[k]], true, by omega, .inr ⟨rfl, by simp; omega⟩, by go_num, rfl, hacc9, hbl8.trans hb9, HT⟩
                case measure => simp [intOf]; omega
              · have HT : Hid ((A ++ [l[k]]) ++ insGo false t (l.drop (k + 1)) = insF t l) := by
                  rw [Hid, ← HS.out, insGo_ge hlt (by rw [hd]; exact hd0), List.append_assoc]; rfl
                clear HS hd
                go_wp2_with (first
                  | (go_at_call 35; refine (refcompare_is ht1 hr1 HR).mono ?_; rintro e w4 ⟨rfl, hb4⟩; have hacc4 := hacc.below hb4; have hbl4 := hbl.then hb4; have hfr4 := hacc4.fresh hbl4; have hqh4 := hq1.keeps hfr4; have c4 := keep c0 hb4; have hsz4 := hbl4.size)
                  | (at_builtin; refine wpList_acc (α := List Cel) rfl _ _ 22 rfl w2.heap.size 23 24 _ Tryz.underlying22 Tryz.infoSl rfl (by decide) _ A hacc4 (by rfl) _ #[.slice a1 l[k].length cap1] l[k] ⟨a1, cap1, rfl, hqh4⟩ (by rfl) (by omega) hsz4 ?_; intro v9 w9 hacc9 hb9))
                go_round
                case rel => exact ⟨k + 1, A ++ [l[k]], false, by omega, .inl (by simp; omega), by go_num, rfl, hacc9, hbl4.trans hb9, HT⟩
                case measure => simp [intOf]; omega
          · have hszl := hbl.size
            cases q with
            | true =>
              clear hA
              have HT : Hid (A = insF t l) := by rw [Hid, ← HS.out, insGo_yes, List.drop_eq_nil_of_le (by omega), List.append_nil]
              clear HS
              obtain ⟨a9, c9, rfl, hr9⟩ := hacc.row
              go_wp2_with fail
              go_ret2
              rw [HE.out, HL.out, ← HT.out]
              exact ⟨a9, c9, rfl, hr9, hb12.then hbl⟩
            | false =>
              have hA1 : A.length ≤ k := hA.elim id (fun h => by cases h.1)
              clear hA
              have HT : Hid (A ++ [t] = insF t l) := by rw [Hid, ← HS.out, insGo_end (by omega)]
              have hth := ht2.keeps (hacc.fresh hbl)
              clear HS
              go_wp2_with (at_builtin; refine wpList_acc (α := List Cel) rfl _ _ 22 rfl w2.heap.size 23 24 _ Tryz.underlying22 Tryz.infoSl rfl (by decide) _ A hacc (by rfl) _ #[.slice a' t.length cap'] t ⟨a', cap', rfl, hth⟩ (by rfl) (by omega) hszl ?_; intro v9 w9 hacc9 hb9)
              obtain ⟨a9, c9, rfl, hr9⟩ := hacc9.row
              go_wp2_with fail
              go_ret2
              rw [HE.out, HL.out, ← HT.out]
              exact ⟨a9, c9, rfl, hr9, hb12.then (hbl.trans hb9)⟩
end Go.Proofs.YtmmnfkggfnokjaaGreat
namespace Go.Proofs.YtmmnfkggfnokjaaGreat
open Go.RowKit Go.Shelf Go.Lib

/-! ### slices.Insert of one row into a row of rows -/
theorem set_grownF (b : Nat) : ∀ (vs : List Value) (o : Nat) (w : World), w.grownBy (w.setCells b o vs) (some b)
  | [], o, w => ⟨rfl, rfl, rfl, Nat.le_refl _, fun _ _ _ => rfl⟩
  | v :: vs, o, w => grown_trans (grown_set w b o v) (set_grownF b vs (o + 1) (w.setCell ⟨b, o, none⟩ v))
theorem drew_grownF (w : World) (r : Option Nat) : w.grownBy w.drew r := ⟨rfl, rfl, rfl, Nat.le_refl _, fun _ _ _ => rfl⟩
theorem crows_one {W : World} : ∀ {vs : List Value} {acc : List (List Cel)}, CRows W vs acc → vs.length = acc.length ∧ ∀ (i : Nat) (x : List Cel), acc[i]? = some x → ∃ a cap, vs[i]? = some (Value.slice a x.length cap) ∧ Row W a cap x
  | _, _, .nil => ⟨rfl, fun i x h => by simp at h⟩
  | _, _, .cons (cs := cs) (x := y) (vs := vs) (xs := xs) hc hr => by
    obtain ⟨a, cap, rfl, hrow⟩ := hc
    obtain ⟨h1, h2⟩ := crows_one hr
    refine ⟨by simp [h1], fun i x hx => ?_⟩
    cases i with
    | zero => simp at hx; subst hx; exact ⟨a, cap, rfl, hrow⟩
    | succ i => exact h2 i x (by simpa using hx)
theorem info_sizeF : (Tryz.prog.info? 23).map (·.size) = some 1 := by
  obtain ⟨i0, hi0, _, hzs, _⟩ := info_parts Tryz.infoSl
  rw [hi0]; simp [hzs]
theorem size_of_F : ∀ w, (Go.sizeOf 23).run Tryz.prog w = .ok 1 w := fun w => by kernel_rfl
theorem overlapsF (w : World) (vb b o lb cb : Nat) (hvb : vb ≠ b) (tA tB : TypeId) (kA kB : Nat) (hsa : w.shape? vb = some (tA, kA)) (hsb : w.shape? b = some (tB, kB)) (hkB : kB ≠ 0) (hfa : ∀ j, w.frozen? ⟨vb, j, none⟩ = false) :
    (callFunc 63 #[.slice (some ⟨vb, 0, none⟩) 1 1, .slice (some ⟨b, o, none⟩) lb cb]).run Tryz.prog w = .ok (.value (.bool false)) w := by
  rw [run_callFunc_extern Tryz.func63 (by kernel_rfl) (by kernel_rfl) (by kernel_rfl) (e := Extern.SlicesOverlaps.overlaps #[22, 22] #[4]) (by kernel_rfl),
    Lib.run_overlaps_apart w 22 4 23 Tryz.underlying22 1 size_of_F ⟨vb, 0, none⟩ ⟨b, o, none⟩ 1 1 lb cb hvb tA tB kA kB hsa hsb hkB (hfa 0) (hfa kA)]
  rfl

set_option maxHeartbeats 4000000 in
set_option maxRecDepth 100000 in
/-- there is room, and it is put in ahead of the end -/
theorem ins_shift (b n c i vb : Nat) (cs : List Value) (tv : Value) (w : World) (hi : i < n) (hroom : n + 1 ≤ c) (hc63 : c ≤ 9223372036854775807) (hvb : vb ≠ b) (hcl : cs.length = n)
    (hcs : ∀ j v, cs[j]? = some v → w.cell? ⟨b, j, none⟩ = some v) (hsp : ∀ j, j < n + 1 → (w.cell? ⟨b, j, none⟩).isSome = true) (hfz : ∀ j, w.frozen? ⟨b, j, none⟩ = false)
    (hvs : w.cell? ⟨vb, 0, none⟩ = some tv) (h1c : ∀ v ∈ cs, v.oneCell' = true) (h1v : tv.oneCell' = true)
    (tA tB : TypeId) (kA kB : Nat) (hsa : w.shape? vb = some (tA, kA)) (hsb : w.shape? b = some (tB, kB)) (hkB : kB ≠ 0) (hfa : ∀ j, w.frozen? ⟨vb, j, none⟩ = false) :
    Calls Tryz.prog 39 #[.slice (some ⟨b, 0, none⟩) n c, .int .i64 i, .slice (some ⟨vb, 0, none⟩) 1 1] w fun e w' =>
      e = .returned (.slice (some ⟨b, 0, none⟩) (n + 1) c) ∧ w' = (w.drew.setCells b (i + 1) (cs.drop i)).setCells b i [tv] := by
  have hov : ∀ o lb cb, (callFunc 63 #[.slice (some ⟨vb, 0, none⟩) 1 1, .slice (some ⟨b, o, none⟩) lb cb]).run Tryz.prog w = .ok (.value (.bool false)) w := fun o lb cb => overlapsF w vb b o lb cb hvb tA tB kA kB hsa hsb hkB hfa
  have hdl : (cs.drop i).length = n - i := by rw [List.length_drop, hcl]
  have hz2 : ¬ ((i : Int) = (n : Int)) := by omega
  have hw1 : IntKind.i64.wrap ((i : Int) + 1) = (i : Int) + 1 := by rw [IntKind.wrap_i64]; omega
  have hb1 : (0 : Int) ≤ (i : Int) + 1 := by omega
  have hin : i ≤ n := by omega
  have htn : ((i : Int) + 1).toNat = i + 1 := by omega
  have hb2 : ¬ (c = i + 1) := by omega
  have hb3 : (i : Int) ≤ (n : Int) + 1 := by omega
  have hb4 : ¬ (c = i) := by omega
  have hcp1 : ∀ ty dc sc, (Builtin.copy_ #[22, 22] ty #[.slice (some ⟨b, i + 1, none⟩) (n - i) dc, .slice (some ⟨b, i, none⟩) (n + 1 - i) sc]).run Tryz.prog w.drew = .ok (goInt (cs.drop i).length) (w.drew.setCells b (i + 1) (cs.drop i)) := fun ty dc sc =>
    run_copy_cells w.drew _ _ ty 23 b (i + 1) (n - i) dc ⟨b, i, none⟩ (n + 1 - i) sc (cs.drop i) Tryz.underlying22 info_sizeF (by rw [hdl]; simp only [Nat.min_def]; split <;> omega)
      (fun j v hj => by rw [Addr.add_lit]; exact hcs (i + j) v (by rwa [List.getElem?_drop] at hj))
      (fun j hj => hsp _ (by omega)) (fun j hj => hfz _) (fun v hv => h1c v (List.mem_of_mem_drop hv))
  obtain ⟨W1, hW1⟩ : ∃ W1, W1 = w.drew.setCells b (i + 1) (cs.drop i) := ⟨_, rfl⟩
  have hsp1 : ∀ k, k < n + 1 → (W1.cell? ⟨b, k, none⟩).isSome = true := fun k hk => by
    rw [hW1]
    exact isSome_setCells b (cs.drop i) (i + 1) w.drew (fun j hj => hsp (i + 1 + j) (by omega)) k (hsp k hk)
  have hcp2 : ∀ (W : World), (∀ x, W.cell? x = W1.cell? x) → (∀ x, W.frozen? x = W1.frozen? x) → ∀ ty dc, (Builtin.copy_ #[22, 22] ty #[.slice (some ⟨b, i, none⟩) (n + 1 - i) dc, .slice (some ⟨vb, 0, none⟩) 1 1]).run Tryz.prog W = .ok (goInt [tv].length) (W.setCells b i [tv]) := fun W hWc hWf ty dc =>
    run_copy_cells W _ _ ty 23 b i (n + 1 - i) dc ⟨vb, 0, none⟩ 1 1 [tv] Tryz.underlying22 info_sizeF (by simp only [Nat.min_def, List.length_singleton]; split <;> omega)
      (fun j v hj => by
        rw [Addr.add_lit, hWc, hW1, World.cell?_setCells_out b _ _ _ _ (fun h _ => absurd h hvb)]
        cases j with
        | zero => simp at hj; subst hj; exact hvs
        | succ j => simp at hj)
      (fun j hj => by rw [hWc]; exact hsp1 _ (by simp at hj; omega)) (fun j hj => by rw [hWf, hW1, World.frozen?_setCells]; exact hfz _) (fun v hv => by simp at hv; subst hv; exact h1v)
  rw [← hW1] at hcp1
  have mixed : Tryz.prog.follows Departure.mixedOrders = true := by kernel_rfl
  go_enter Tryz.func39, Tryz.ntmps39
  go_wp2_with (simp only [hov])
  go_region_law_o (refine step_copy_runI rfl _ _ 22 22 rfl _ _ (by simp [Act.eval, Act.put]) (by simp [Act.eval, Act.put]) (hcp1 _ _ _) ?_)
  go_wp2_with (at_builtin; refine wpList_copy_runI _ rfl _ _ 22 22 rfl _ _ rfl rfl (hcp2 _ (fun _ => rfl) (fun _ => rfl) _ _) ?_)
  go_ret
  first | exact ⟨rfl, rfl⟩ | exact ⟨rfl, by rw [hW1]⟩

set_option maxHeartbeats 4000000 in
set_option maxRecDepth 100000 in
/-- there is no room, and it is put in ahead of the end -/
theorem ins_grow (b n c i vb : Nat) (cs : List Value) (tv : Value) (w : World) (hi : i < n) (hnc : n ≤ c) (hroom : c < n + 1) (hbig : n + 1 ≤ 1000000000)
    (hcl : cs.length = n) (hcs : ∀ j v, cs[j]? = some v → w.cell? ⟨b, j, none⟩ = some v) (hvs : w.cell? ⟨vb, 0, none⟩ = some tv) (h1c : ∀ v ∈ cs, v.oneCell' = true) (h1v : tv.oneCell' = true) :
    Calls Tryz.prog 39 #[.slice (some ⟨b, 0, none⟩) n c, .int .i64 i, .slice (some ⟨vb, 0, none⟩) 1 1] w fun e w' =>
      ∃ (G : Nat) (ROW : Array Value), e = .returned (.slice (some ⟨w.heap.size, 0, none⟩) (n + 1) G) ∧ n + 1 ≤ G ∧ G ≤ 9223372036854775807 ∧ n + 1 ≤ ROW.size ∧ (∀ (j : Nat) (v : Value), (cs.take i)[j]? = some v → ROW[j]? = some v) ∧
        w' = (((w.alloc (.cells ROW 23)).drew.setCells w.heap.size i [tv]).drew).setCells w.heap.size (i + 1) (cs.drop i) := by
  obtain ⟨i0, hi0, hz0, hzs, hzb⟩ := info_parts Tryz.infoSl
  have hz2 : ¬ ((i : Int) = (n : Int)) := by omega
  have hz3 : (c : Int) < (n : Int) + 1 := by omega
  have hbw : b < w.heap.size := block_lt_of_cell (hcs 0 _ (List.getElem?_eq_getElem (by omega)))
  have hvw : vb < w.heap.size := block_lt_of_cell hvs
  have hkk : (n : Int) + 1 - (i : Int) = ((n + 1 - i : Nat) : Int) := by omega
  have hik : i + (n + 1 - i) = n + 1 := by omega
  have hold : (Builtin.firstCells i0.size i (.slice (some ⟨b, 0, none⟩) i c)).run Tryz.prog w.drew = .ok (cs.take i).toArray w.drew := by
    rw [hzs]
    exact run_firstCells_some w.drew 1 i ⟨b, 0, none⟩ i c (cs.take i) (by rw [List.length_take]; omega) (fun j v hj => by
      rw [Addr.add_lit, Nat.zero_add]
      rw [List.getElem?_take] at hj
      split at hj
      · exact hcs j v hj
      · cases hj)
  have hrz : ∀ ty, (Builtin.append_ #[22, 3] ty #[.slice (some ⟨b, 0, none⟩) i c, .int .i64 ((n : Int) + 1 - (i : Int))]).run Tryz.prog w =
      .ok (.slice (some ⟨w.heap.size, 0, none⟩) (n + 1) (grownCap w (n + 1) c 23)) (w.drew.alloc (.cells ((cs.take i).toArray ++ Builtin.zeroCells (Value.slice none 0 0).cells (n + 1 - i) ++ Builtin.zeroCells (Value.slice none 0 0).cells (grownCap w (n + 1) c 23 - (n + 1))) 23)) := fun ty => by
    have h := Lib.run_append_grow_zeros w 22 3 ty 23 i0 _ .i64 .i64 Tryz.underlying22 Tryz.underlying3 hi0 hz0 (some ⟨b, 0, none⟩) i c (cs.take i) hold (n + 1 - i) (by omega) (by omega) (by omega) (by omega) (by rw [hzb]; omega) (by rw [hzb, hik]; exact growslice_fits (bytes := 24) hroom (by omega))
    rw [hik] at h
    rw [hkk]
    exact h
  obtain ⟨G, hG⟩ : ∃ G, G = grownCap w (n + 1) c 23 := ⟨_, rfl⟩
  obtain ⟨ROW, hROW⟩ : ∃ ROW : Array Value, ROW = (cs.take i).toArray ++ Builtin.zeroCells (Value.slice none 0 0).cells (n + 1 - i) ++ Builtin.zeroCells (Value.slice none 0 0).cells (G - (n + 1)) := ⟨_, rfl⟩
  rw [← hG] at hrz
  rw [← hROW] at hrz
  have hRl : n + 1 ≤ ROW.size := by
    rw [hROW]
    simp [Builtin.zeroCells, Value.cells]
    omega
  have hRt : ∀ (j : Nat) (v : Value), (cs.take i)[j]? = some v → ROW[j]? = some v := by
    intro j v hj
    obtain ⟨hl, _⟩ := List.getElem?_eq_some_iff.1 hj
    rw [hROW, Array.getElem?_append_left (by simp at hl ⊢; omega), Array.getElem?_append_left (by simpa using hl)]
    simpa using hj
  obtain ⟨W1, hW1⟩ : ∃ W1, W1 = w.drew.alloc (.cells ROW 23) := ⟨_, rfl⟩
  rw [← hW1] at hrz
  have hN : ∀ j, j < n + 1 → (W1.cell? ⟨w.heap.size, j, none⟩).isSome = true := fun j hj => by
    rw [hW1, World.cell?_alloc_at (w := w.drew) ROW _ w.heap.size j rfl, Array.getElem?_eq_getElem (by omega)]; rfl
  have hNf : ∀ j, W1.frozen? ⟨w.heap.size, j, none⟩ = false := fun j => by rw [hW1]; exact World.frozen?_alloc_at (w := w.drew) ROW _ w.heap.size j rfl
  have hOb : ∀ j v, w.cell? ⟨b, j, none⟩ = some v → W1.cell? ⟨b, j, none⟩ = some v := fun j v h => by rw [hW1, World.cell?_alloc_past (w := w.drew) _ b j hbw]; exact h
  have hOv : ∀ j v, w.cell? ⟨vb, j, none⟩ = some v → W1.cell? ⟨vb, j, none⟩ = some v := fun j v h => by rw [hW1, World.cell?_alloc_past (w := w.drew) _ vb j hvw]; exact h
  have hcpA : ∀ (W : World), (∀ x, W.cell? x = W1.cell? x) → (∀ x, W.frozen? x = W1.frozen? x) → ∀ ty dc, (Builtin.copy_ #[22, 22] ty #[.slice (some ⟨w.heap.size, i, none⟩) (n + 1 - i) dc, .slice (some ⟨vb, 0, none⟩) 1 1]).run Tryz.prog W = .ok (goInt [tv].length) (W.setCells w.heap.size i [tv]) := fun W hWc hWf ty dc =>
    run_copy_cells W _ _ ty 23 w.heap.size i (n + 1 - i) dc ⟨vb, 0, none⟩ 1 1 [tv] Tryz.underlying22 info_sizeF (by simp only [Nat.min_def, List.length_singleton]; split <;> omega)
      (fun j v hj => by
        rw [Addr.add_lit, hWc]
        cases j with
        | zero => simp at hj; subst hj; exact hOv _ _ hvs
        | succ j => simp at hj)
      (fun j hj => by rw [hWc]; exact hN _ (by simp at hj; omega)) (fun j hj => by rw [hWf]; exact hNf _) (fun v hv => by simp at hv; subst hv; exact h1v)
  have hGn : n + 1 ≤ G := by rw [hG]; exact grownCap_ge w _ _ _
  have hG63 : G ≤ 9223372036854775807 := by
    have := grownCap_le_maxLen w (n + 1) c 23 (by unfold maxLen; omega)
    rw [← hG] at this
    unfold maxLen at this
    omega
  have hGi : ¬ (G = i) := by omega
  have hGim : ¬ (G = i + 1) := by omega
  have hci : ¬ (c = i) := by omega
  have hbN : b ≠ w.heap.size := by omega
  have hdl : (cs.drop i).length = n - i := by rw [List.length_drop, hcl]
  have hcpB : ∀ (W : World), (∀ x, W.cell? x = (W1.setCells w.heap.size i [tv]).cell? x) → (∀ x, W.frozen? x = (W1.setCells w.heap.size i [tv]).frozen? x) → ∀ ty dc sc, (Builtin.copy_ #[22, 22] ty #[.slice (some ⟨w.heap.size, i + 1, none⟩) (n - i) dc, .slice (some ⟨b, i, none⟩) (n - i) sc]).run Tryz.prog W = .ok (goInt (cs.drop i).length) (W.setCells w.heap.size (i + 1) (cs.drop i)) := fun W hWc hWf ty dc sc =>
    run_copy_cells W _ _ ty 23 w.heap.size (i + 1) (n - i) dc ⟨b, i, none⟩ (n - i) sc (cs.drop i) Tryz.underlying22 info_sizeF (by rw [hdl]; simp only [Nat.min_def]; split <;> omega)
      (fun j v hj => by
        rw [Addr.add_lit, hWc, World.cell?_setCells_out _ _ _ _ _ (fun h _ => absurd h hbN)]
        exact hOb _ v (hcs (i + j) v (by rwa [List.getElem?_drop] at hj)))
      (fun j hj => by rw [hWc]; exact isSome_setCells w.heap.size [tv] i W1 (fun t ht => hN (i + t) (by simp at ht; omega)) (i + 1 + j) (hN _ (by omega)))
      (fun j hj => by rw [hWf, World.frozen?_setCells]; exact hNf _) (fun v hv => h1c v (List.mem_of_mem_drop hv))
  subst hW1
  have hE1 : ∀ x, ((w.alloc (.cells ROW 23)).drew).cell? x = (w.drew.alloc (.cells ROW 23)).cell? x := fun x => rfl
  have hE2 : ∀ x, ((w.alloc (.cells ROW 23)).drew).frozen? x = (w.drew.alloc (.cells ROW 23)).frozen? x := fun x => rfl
  have hF1 : ∀ x, (((w.alloc (.cells ROW 23)).drew.setCells w.heap.size i [tv]).drew).cell? x = ((w.drew.alloc (.cells ROW 23)).setCells w.heap.size i [tv]).cell? x := fun x => rfl
  have hF2 : ∀ x, (((w.alloc (.cells ROW 23)).drew.setCells w.heap.size i [tv]).drew).frozen? x = ((w.drew.alloc (.cells ROW 23)).setCells w.heap.size i [tv]).frozen? x := fun x => rfl
  have hw1 : IntKind.i64.wrap ((i : Int) + 1) = (i : Int) + 1 := by rw [IntKind.wrap_i64]; omega
  have hb1 : (0 : Int) ≤ (i : Int) + 1 := by omega
  have hin : i ≤ n := by omega
  have htn : ((i : Int) + 1).toNat = i + 1 := by omega
  have hb3 : (i : Int) ≤ (n : Int) := by omega
  have HRl := mkHid hRl
  have HRt := mkHid hRt
  have mixed : Tryz.prog.follows Departure.mixedOrders = true := by kernel_rfl
  clear hkk hik hold hROW hG hRl hRt
  go_enter Tryz.func39, Tryz.ntmps39
  go_wp2_with (first
    | (at_builtin; refine Lib.wpList_append_run _ rfl _ _ _ _ rfl _ _ rfl rfl _ _ (hrz _) ?_)
    | (at_builtin; refine wpList_copy_runI _ rfl _ _ 22 22 rfl _ _ rfl rfl (hcpA _ hE1 hE2 _ _) ?_)
    | (at_builtin; refine wpList_copy_runI _ rfl _ _ 22 22 rfl _ _ rfl rfl (hcpB _ (fun _ => rfl) (fun _ => rfl) _ _ _) ?_))
  go_region_law_o (refine step_copy_runI rfl _ _ 22 22 rfl (.slice (some ⟨w.heap.size, i + 1, none⟩) (n - i) (G - (i + 1))) (.slice (some ⟨b, i, none⟩) (n - i) (c - i)) (by simp [Act.eval, Act.put]) (by simp [Act.eval, Act.put]) (hcpB _ hF1 hF2 3 (G - (i + 1)) (c - i)) ?_)
  go_wp2
  go_ret
  exact ⟨G, ROW, rfl, hGn, hG63, HRl.out, HRt.out, rfl⟩
end Go.Proofs.YtmmnfkggfnokjaaGreat
namespace Go.Proofs.YtmmnfkggfnokjaaGreat
open Go.RowKit Go.Shelf Go.Lib

theorem ins_pt {α β : Type} (R : β → α → Prop) {us : List β} {xs : List α} (hl : us.length = xs.length) (h : ∀ (j : Nat) (x : α), xs[j]? = some x → ∃ u, us[j]? = some u ∧ R u x) {i : Nat} (hi : i ≤ xs.length) {v : β} {y : α} (hv : R v y) :
    ∀ (j : Nat) (x : α), (xs.take i ++ y :: xs.drop i)[j]? = some x → ∃ u, (us.take i ++ v :: us.drop i)[j]? = some u ∧ R u x := by
  intro j x hx
  have t1 : (xs.take i).length = i := by rw [List.length_take]; omega
  have t2 : (us.take i).length = i := by rw [List.length_take]; omega
  by_cases h1 : j < i
  · rw [List.getElem?_append_left (by omega), List.getElem?_take_of_lt h1] at hx ⊢
    exact h j x hx
  · rw [List.getElem?_append_right (by omega), t1] at hx
    rw [List.getElem?_append_right (by omega), t2]
    by_cases h2 : j = i
    · subst h2
      simp at hx ⊢
      subst hx; exact hv
    · obtain ⟨d, hd⟩ : ∃ d, j - i = d + 1 := ⟨j - i - 1, by omega⟩
      rw [hd, List.getElem?_cons_succ, List.getElem?_drop] at hx ⊢
      exact h _ x hx
section
variable {b i n : Nat} {w : World} {cs : List Value} {tv : Value}
theorem two_setA (hcl : cs.length = n) (hi : i < n) (hsp : ∀ j, j < n + 1 → (w.cell? ⟨b, j, none⟩).isSome = true) (hlo : ∀ (j : Nat) (u : Value), j < i → cs[j]? = some u → w.cell? ⟨b, j, none⟩ = some u) :
    ∀ (j : Nat) (u : Value), (cs.take i ++ tv :: cs.drop i)[j]? = some u → ((w.setCells b (i + 1) (cs.drop i)).setCells b i [tv]).cell? ⟨b, j, none⟩ = some u := by
  intro j u hj
  have t2 : (cs.take i).length = i := by rw [List.length_take]; omega
  have hdl : (cs.drop i).length = n - i := by rw [List.length_drop, hcl]
  by_cases h1 : j < i
  · rw [List.getElem?_append_left (by omega), List.getElem?_take_of_lt h1] at hj
    rw [World.cell?_setCells_out _ _ _ _ _ (fun _ _ => .inl h1), World.cell?_setCells_out _ _ _ _ _ (fun _ _ => .inl (by show j < i + 1; omega))]
    exact hlo j u h1 hj
  · rw [List.getElem?_append_right (by omega), t2] at hj
    by_cases h2 : j = i
    · subst h2
      simp at hj
      subst hj
      have := World.cell?_setCells_in b [tv] j (w.setCells b (j + 1) (cs.drop j)) (fun q hq => by
        simp at hq; subst hq
        exact isSome_setCells b (cs.drop j) (j + 1) w (fun q hq => hsp (j + 1 + q) (by omega)) (j + 0) (hsp _ (by omega))) 0 (by simp)
      simpa using this
    · obtain ⟨d, hd⟩ : ∃ d, j = i + 1 + d := ⟨j - i - 1, by omega⟩
      subst hd
      rw [show i + 1 + d - i = d + 1 by omega, List.getElem?_cons_succ] at hj
      obtain ⟨hl, hu⟩ := List.getElem?_eq_some_iff.1 hj
      rw [World.cell?_setCells_out _ _ _ _ _ (fun _ _ => .inr (by simp <;> omega)), World.cell?_setCells_in b (cs.drop i) (i + 1) w (fun q hq => hsp _ (by omega)) d hl, hu]
theorem two_setB (hcl : cs.length = n) (hi : i < n) (hsp : ∀ j, j < n + 1 → (w.cell? ⟨b, j, none⟩).isSome = true) (hlo : ∀ (j : Nat) (u : Value), j < i → cs[j]? = some u → w.cell? ⟨b, j, none⟩ = some u) :
    ∀ (j : Nat) (u : Value), (cs.take i ++ tv :: cs.drop i)[j]? = some u → ((w.setCells b i [tv]).setCells b (i + 1) (cs.drop i)).cell? ⟨b, j, none⟩ = some u := by
  intro j u hj
  have t2 : (cs.take i).length = i := by rw [List.length_take]; omega
  have hdl : (cs.drop i).length = n - i := by rw [List.length_drop, hcl]
  by_cases h1 : j < i
  · rw [List.getElem?_append_left (by omega), List.getElem?_take_of_lt h1] at hj
    rw [World.cell?_setCells_out _ _ _ _ _ (fun _ _ => .inl (by show j < i + 1; omega)), World.cell?_setCells_out _ _ _ _ _ (fun _ _ => .inl h1)]
    exact hlo j u h1 hj
  · rw [List.getElem?_append_right (by omega), t2] at hj
    by_cases h2 : j = i
    · subst h2
      simp at hj
      subst hj
      rw [World.cell?_setCells_out _ _ _ _ _ (fun _ _ => .inl (by show j < j + 1; omega))]
      have := World.cell?_setCells_in b [tv] j w (fun q hq => by
        simp at hq; subst hq
        exact hsp _ (by omega)) 0 (by simp)
      simpa using this
    · obtain ⟨d, hd⟩ : ∃ d, j = i + 1 + d := ⟨j - i - 1, by omega⟩
      subst hd
      rw [show i + 1 + d - i = d + 1 by omega, List.getElem?_cons_succ] at hj
      obtain ⟨hl, hu⟩ := List.getElem?_eq_some_iff.1 hj
      rw [World.cell?_setCells_in b (cs.drop i) (i + 1) _ (fun q hq => isSome_setCells b [tv] i w (fun q hq => hsp (i + q) (by simp at hq; omega)) (i + 1 + q) (hsp _ (by omega))) d hl, hu]
end
/-- rows of rows, told cell by cell -/
theorem row_told {W : World} {b c : Nat} {us : List Value} {xs : List (List Cel)} (hc : xs.length ≤ c) (hc2 : c ≤ 9223372036854775807) (hcell : ∀ (j : Nat) (u : Value), us[j]? = some u → W.cell? ⟨b, j, none⟩ = some u)
    (h : ∀ (j : Nat) (x : List Cel), xs[j]? = some x → ∃ u, us[j]? = some u ∧ ∃ a cap, u = Value.slice a x.length cap ∧ Row W a cap x) : Row W (some ⟨b, 0, none⟩) c xs := by
  refine ⟨hc, hc2, (fun e => by cases e), fun j x hx => ⟨b, 0, rfl, ?_⟩⟩
  obtain ⟨u, hu, a, cap, rfl, hr⟩ := h j x hx
  have := hcell j _ hu
  refine ⟨a, cap, ?_, hr⟩
  show W.cell? ⟨b, 0 + j * 1, none⟩ = _
  rw [Nat.zero_add, Nat.mul_one]
  exact this
theorem ins_len (xs : List (List Cel)) (t : List Cel) (k : Nat) : (xs.take k ++ t :: xs.drop k).length = xs.length + 1 := by
  rw [List.length_append, List.length_cons, ← Nat.add_assoc, ← List.length_append, List.take_append_drop]

set_option maxHeartbeats 2000000 in
theorem insert_any (B : Nat) (v : Value) (acc : List (List Cel)) (k : Nat) (t : List Cel) (at_ : Option Addr) (ct : Nat) (w : World) (hacc : AccInv B 23 acc v w) (hk : k ≤ acc.length) (hl : acc.length ≤ 1000000) (hB : B ≤ w.heap.size) (ht : Row (hide v.ownBlock w) at_ ct t) :
    Calls Tryz.prog 39 #[v, .int .i64 k, .slice (some ⟨w.heap.size, 0, none⟩) 1 1] (w.alloc (.cells #[.slice at_ t.length ct] 23)) fun e w' => ∃ a' c', e = .returned (.slice a' (acc.length + 1) c') ∧ Row w' a' c' (acc.take k ++ t :: acc.drop k) ∧ Below B w w' := by
  by_cases hke : k = acc.length
  · have HE : Hid (acc ++ [t] = acc.take k ++ t :: acc.drop k) := by subst hke; simp [Hid]
    have hend : ∀ v9 w9, AccInv B 23 (acc ++ [t]) v9 w9 → ∃ a' c', v9 = .slice a' (acc.length + 1) c' ∧ Row w9 a' c' (acc.take k ++ t :: acc.drop k) := fun v9 w9 h => by
      obtain ⟨a', c', rfl, hr⟩ := h.row
      exact ⟨a', c', by simp, HE.out ▸ hr⟩
    have HEND := mkHid hend
    clear hend HE
    obtain ⟨vs, ho, hc⟩ := hacc.ex
    rcases ho.2 with ⟨rfl, hn⟩ | ⟨g, cap, cur, rfl, hbg, hg, hn, hm, hsz, htk⟩
    · obtain rfl : acc = [] := List.eq_nil_of_length_eq_zero hn
      obtain rfl : k = 0 := hke
      clear ho hc hn
      go_enter Tryz.func39, Tryz.ntmps39
      go_wp2_with (at_builtin; refine wpList_acc (α := List Cel) rfl _ _ 22 rfl B 23 24 _ Tryz.underlying22 Tryz.infoSl rfl (by decide) _ [] hacc (by rfl) _ #[.slice at_ t.length ct] t ⟨at_, ct, rfl, ht⟩ (by rfl) (by simp) hB ?_; intro v9 w9 hacc9 hb9)
      obtain ⟨a', c', rfl, hrow⟩ := HEND.out v9 w9 hacc9
      go_wp2
      go_ret
      exact ⟨a', c', rfl, hrow, hb9⟩
    · have hcap : cap ≤ 9223372036854775807 := by unfold maxLen at hm; omega
      clear ho hc htk hsz hg hm
      subst hke
      by_cases hce : cap = acc.length
      · subst hce
        go_enter Tryz.func39, Tryz.ntmps39
        go_wp2_with (at_builtin; refine wpList_acc (α := List Cel) rfl _ _ 22 rfl B 23 24 _ Tryz.underlying22 Tryz.infoSl rfl (by decide) _ acc hacc (by rfl) _ #[.slice at_ t.length ct] t ⟨at_, ct, rfl, ht⟩ (by rfl) (by omega) hB ?_; intro v9 w9 hacc9 hb9)
        obtain ⟨a', c', rfl, hrow⟩ := HEND.out v9 w9 hacc9
        go_wp2
        go_ret
        exact ⟨a', c', rfl, hrow, hb9⟩
      · go_enter Tryz.func39, Tryz.ntmps39
        go_wp2_with (at_builtin; refine wpList_acc (α := List Cel) rfl _ _ 22 rfl B 23 24 _ Tryz.underlying22 Tryz.infoSl rfl (by decide) _ acc hacc (by rfl) _ #[.slice at_ t.length ct] t ⟨at_, ct, rfl, ht⟩ (by rfl) (by omega) hB ?_; intro v9 w9 hacc9 hb9)
        obtain ⟨a', c', rfl, hrow⟩ := HEND.out v9 w9 hacc9
        go_wp2
        go_ret
        exact ⟨a', c', rfl, hrow, hb9⟩
  · have hki : k < acc.length := by omega
    obtain ⟨vs, ho, hc⟩ := hacc.ex
    have hvl : vs.length = acc.length := by have := ho.1; rwa [show Rep.sz (List Cel) = 1 from rfl, Nat.mul_one] at this
    rcases ho.2 with ⟨rfl, hn⟩ | ⟨g, cap, cur, rfl, hbg, hg, hn, hm, hsz, htk⟩
    · omega
    have hgs : g < w.heap.size := (Array.getElem?_eq_some_iff.1 hg).1
    have hcap : cap ≤ 9223372036854775807 := by unfold maxLen at hm; omega
    obtain ⟨W, hW⟩ : ∃ W, w.alloc (.cells #[.slice at_ t.length ct] 23) = W := ⟨_, rfl⟩
    have hbW : Below w.heap.size w W := by rw [← hW]; exact (Below.refl _ _).new _
    have hkW : Keeps (hide (some g) w) (hide (some g) W) := below_hide hbW _
    have hcells : ∀ (j : Nat) (u : Value), vs[j]? = some u → W.cell? ⟨g, j, none⟩ = some u := fun j u hu => keep (own_cells ho j u hu) hbW
    have hgW : W.heap[g]? = some (.cells cur 23 (0, 0)) := by rw [hbW.block g hgs]; exact hg
    have hspW : ∀ j, j < cap → (W.cell? ⟨g, j, none⟩).isSome = true := fun j hj => by
      rw [World.cell?, hgW]
      have : j < cur.size := by rw [hsz, show Rep.sz (List Cel) = 1 from rfl, Nat.mul_one]; exact hj
      simp [this]
    have hfzW : ∀ j, W.frozen? ⟨g, j, none⟩ = false := fun j => by simp [World.frozen?, hgW]
    have hvW : W.cell? ⟨w.heap.size, 0, none⟩ = some (.slice at_ t.length ct) := by rw [← hW]; exact World.cell?_alloc_at _ _ _ 0 rfl
    have hsa : W.shape? w.heap.size = some (23, 1) := by rw [← hW]; exact World.shape?_alloc_at _ _ _ rfl
    have hsb : W.shape? g = some (23, cur.size) := by simp [World.shape?, hgW]
    have hfa : ∀ j, W.frozen? ⟨w.heap.size, j, none⟩ = false := fun j => by rw [← hW]; exact World.frozen?_alloc_at _ _ _ j rfl
    have hone : ∀ u ∈ vs, u.oneCell' = true := hc.one
    obtain ⟨_, hpt⟩ := crows_one hc
    have hpt2 : ∀ (W2 : World), Keeps (hide (some g) w) W2 → ∀ (j : Nat) (x : List Cel), (acc.take k ++ t :: acc.drop k)[j]? = some x → ∃ u, (vs.take k ++ .slice at_ t.length ct :: vs.drop k)[j]? = some u ∧ ∃ a cap, u = Value.slice a x.length cap ∧ Row W2 a cap x := fun W2 hk2 =>
      ins_pt (fun u x => ∃ a cap, u = Value.slice a x.length cap ∧ Row W2 a cap x) hvl (fun j x hx => by
        obtain ⟨a, c, h1, h2⟩ := hpt j x hx
        exact ⟨_, h1, a, c, rfl, h2.keeps hk2⟩) hk ⟨at_, ct, rfl, ht.keeps hk2⟩
    have HPT := mkHid hpt2
    have hlen := ins_len acc t k
    have HLEN := mkHid hlen
    clear hpt hpt2 hlen
    have hcz : cur.size ≠ 0 := by rw [hsz, show Rep.sz (List Cel) = 1 from rfl, Nat.mul_one]; omega
    rw [hW]
    by_cases hroom : acc.length + 1 ≤ cap
    · refine (ins_shift g acc.length cap k w.heap.size vs _ W hki hroom hcap (by omega) hvl hcells (fun j hj => hspW j (by omega)) hfzW hvW hone (by rfl) _ _ _ _ hsa hsb hcz hfa).mono ?_
      rintro e w' ⟨rfl, hw'⟩
      have hgr : W.grownBy w' (some g) := by rw [hw']; exact grown_trans (grown_trans (drew_grownF W _) (set_grownF g _ _ _)) (set_grownF g _ _ _)
      have hk2 : Keeps (hide (some g) w) w' := (hkW.trans (grown_keeps hgr)).trans (hide_keeps _ _)
      refine ⟨some ⟨g, 0, none⟩, cap, rfl, row_told (by rw [HLEN.out]; exact hroom) hcap (us := vs.take k ++ .slice at_ t.length ct :: vs.drop k) ?_ (HPT.out w' hk2), ?_⟩
      · rw [hw']
        exact two_setA (w := W.drew) hvl hki (fun j hj => hspW j (by omega)) (fun j u _ hu => hcells j u hu)
      · exact (hbW.mono hB).grown hgr (Nat.le_trans hB hbW.size) (fun q hq => by cases hq; exact hbg)
    · refine (ins_grow g acc.length cap k w.heap.size vs _ W hki hn (by omega) (by omega) hvl hcells hvW hone (by rfl)).mono ?_
      rintro e w' ⟨G, ROW, rfl, hG1, hG2, hR1, hR2, hw'⟩
      have hb1 : Below W.heap.size W w' := by
        rw [hw']
        have h1 : Below W.heap.size W ((W.alloc (.cells ROW 23)).drew) := ((Below.refl _ _).new (.cells ROW 23)).trans ⟨rfl, rfl, rfl, Nat.le_refl _, fun _ _ => rfl⟩
        have h2 := h1.grown (set_grownF W.heap.size [Value.slice at_ t.length ct] k _) h1.size (fun q hq => by cases hq; exact Nat.le_refl _)
        have h3 : Below W.heap.size W ((((W.alloc (.cells ROW 23)).drew).setCells W.heap.size k [Value.slice at_ t.length ct]).drew) := h2.trans ⟨rfl, rfl, rfl, Nat.le_refl _, fun _ _ => rfl⟩
        exact h3.grown (set_grownF W.heap.size (vs.drop k) (k + 1) _) h3.size (fun q hq => by cases hq; exact Nat.le_refl _)
      have hk2 : Keeps (hide (some g) w) w' := (hkW.trans (hide_keeps _ _)).trans (Keeps.of hb1)
      refine ⟨some ⟨W.heap.size, 0, none⟩, G, rfl, row_told (by rw [HLEN.out]; exact hG1) hG2 (us := vs.take k ++ .slice at_ t.length ct :: vs.drop k) ?_ (HPT.out w' hk2), (hbW.mono hB).trans (hb1.mono (Nat.le_trans hB hbW.size))⟩
      rw [hw', drew_setCells]
      refine two_setB (w := (W.alloc (.cells ROW 23)).drew.drew) hvl hki (fun j hj => ?_) (fun j u hj hu => ?_)
      · have h1 : (W.alloc (.cells ROW 23)).cell? ⟨W.heap.size, j, none⟩ = ROW[j]? := World.cell?_alloc_at ROW _ W.heap.size j rfl
        show ((W.alloc (.cells ROW 23)).cell? ⟨W.heap.size, j, none⟩).isSome = true
        rw [h1, Array.getElem?_eq_getElem (by omega)]; rfl
      · have h1 : (W.alloc (.cells ROW 23)).cell? ⟨W.heap.size, j, none⟩ = ROW[j]? := World.cell?_alloc_at ROW _ W.heap.size j rfl
        show (W.alloc (.cells ROW 23)).cell? ⟨W.heap.size, j, none⟩ = some u
        rw [h1]
        exact hR2 j u (by rw [List.getElem?_take_of_lt hj]; exact hu)
end Go.Proofs.YtmmnfkggfnokjaaGreat
namespace Go.Proofs.YtmmnfkggfnokjaaGreat
open Go.RowKit

/-! ### where a fact stands -/
set_option maxHeartbeats 4000000 in
theorem search_any (g : Nat) (cb : Array Value) (n k : Nat) (p : Nat → Bool) (w : World) (eg : ∀ args w, (callFunc g args).run Tryz.prog w = .ok (.enter g args) w) (hsz : n ≤ 1000000) (hk : k ≤ n)
    (hf : ∀ (W : World) (i : Nat), Below w.heap.size w W → i < n → Calls Tryz.prog g (#[.int .i64 i] ++ cb) W fun e W' => e = .returned (.bool (p i)) ∧ Below W.heap.size W W')
    (h1 : ∀ i, i < k → p i = false) (h2 : ∀ i, k ≤ i → i < n → p i = true) :
    Calls Tryz.prog 61 #[.int .i64 n, .func (.func g) #[] cb] w fun e w' => e = .returned (.int .i64 k) ∧ Below w.heap.size w w' := by
  have HF := mkHid hf
  have H1 := mkHid h1
  have H2 := mkHid h2
  clear hf h1 h2
  go_enter Tryz.func61, Tryz.ntmps61
  go_wp2
  go_loopg [5, 6] n (fun kx s5 s6 wr => ∃ (lo hi : Nat), s5 = .int .i64 lo ∧ s6 = .int .i64 hi ∧ lo ≤ k ∧ k ≤ hi ∧ hi ≤ n ∧ hi - lo ≤ kx ∧ Below w.heap.size w wr)
  case atStart => exact ⟨0, n, rfl, rfl, Nat.zero_le _, hk, Nat.le_refl _, by omega, Below.refl _ _⟩
  case round =>
    obtain ⟨lo, hi, rfl, rfl, hlk, hkh, hin, hg, hbl⟩ := hrel
    by_cases hlt : lo < hi
    · have hc := HF.out wr ((lo + hi) / 2) hbl (by omega)
      rw [show (((lo + hi) / 2 : Nat) : Int) = ((lo : Int) + (hi : Int)) / 2 by omega] at hc
      by_cases hp : (lo + hi) / 2 < k
      · rw [H1.out _ hp] at hc
        go_wp2_with fail
        refine hc.mono ?_
        rintro e w' ⟨rfl, hb1⟩
        go_wp2_with fail
        go_roundg (hi - ((lo + hi) / 2 + 1))
        case measure => omega
        case rel => exact ⟨(lo + hi) / 2 + 1, hi, by rw [show ((lo : Int) + (hi : Int)) / 2 + 1 = (((lo + hi) / 2 + 1 : Nat) : Int) by omega], rfl, hp, hkh, hin, Nat.le_refl _, hbl.then hb1⟩
      · rw [H2.out ((lo + hi) / 2) (by omega) (by omega)] at hc
        go_wp2_with fail
        refine hc.mono ?_
        rintro e w' ⟨rfl, hb1⟩
        go_wp2_with fail
        go_roundg ((lo + hi) / 2 - lo)
        case measure => omega
        case rel => exact ⟨lo, (lo + hi) / 2, rfl, by rw [show ((lo : Int) + (hi : Int)) / 2 = (((lo + hi) / 2 : Nat) : Int) by omega], hlk, by omega, by omega, Nat.le_refl _, hbl.then hb1⟩
    · obtain rfl : hi = lo := by omega
      obtain rfl : hi = k := by omega
      go_wp2
      go_ret
      exact ⟨rfl, hbl⟩

set_option maxHeartbeats 1600000 in
theorem place1_any (T2 T3 : Nat) (W : World) (a : Option Addr) (cap : Nat) (l : List (List Cel)) (a' : Option Addr) (cap' : Nat) (t : List Cel) (i : Nat) (hi : i < l.length) (hr : Row W a cap l) (ht : Row W a' cap' t)
    (h2 : W.cell? ⟨T2, 0, none⟩ = some (.slice a l.length cap)) (h3 : W.cell? ⟨T3, 0, none⟩ = some (.slice a' t.length cap')) :
    Calls Tryz.prog 62 (#[.int .i64 i] ++ #[.pointer (some ⟨T2, 0, none⟩), .pointer (some ⟨T3, 0, none⟩)]) W fun e W' => e = .returned (.bool (!decide (compP l[i] t < 0))) ∧ Below W.heap.size W W' := by
  have hm := hr.max
  have hm2 := hr.le
  obtain ⟨b, off, rfl, hb, hat⟩ := hr.cases.resolve_left (fun e => by simp [e] at hi)
  obtain ⟨a1, cap1, c0, hr1⟩ := list_at hat (Below.refl _ _) hi
  have e0 : ∀ x : Later W, x.w'.cell? ⟨b, off + i, none⟩ = some (.slice a1 l[i].length cap1) := keepL c0
  have e2 : ∀ x : Later W, x.w'.cell? ⟨T2, 0, none⟩ = some (.slice (some ⟨b, off, none⟩) l.length cap) := keepL h2
  have e3 : ∀ x : Later W, x.w'.cell? ⟨T3, 0, none⟩ = some (.slice a' t.length cap') := keepL h3
  obtain ⟨d, hd⟩ : ∃ d, compP l[i] t = d := ⟨_, rfl⟩
  have HD := mkHid hd
  have hcall : ∀ x : Later W, Calls Tryz.prog 34 #[.slice a1 l[i].length cap1, .slice a' t.length cap'] x.w' fun e w'' => e = .returned (.int .i64 d) ∧ Below x.w'.heap.size x.w' w'' := fun x =>
    compare_is (hr1.below x.ok) (ht.below x.ok) HD
  rw [hd]
  clear hd
  show Calls Tryz.prog 62 #[.int .i64 i, .pointer (some ⟨T2, 0, none⟩), .pointer (some ⟨T3, 0, none⟩)] W _
  by_cases hd0 : d < 0
  · have hd1 : ¬ 0 ≤ d := by omega
    go_enter Tryz.func62, Tryz.ntmps62
    go_wp2
    refine wp_region_calm (by kernel_rfl) (by kernel_rfl) ?_
    repeat (go_big_quiet_step (exact Calls.calm_of (hcall _)))
    refine wpQuiet_nil ?_
    rintro _ ⟨x, rfl⟩
    go_wp2
    go_ret
    exact ⟨ret_bool (by have h1 : ¬ 0 ≤ d := by omega
                        simp [hd0, h1]), x.ok⟩
  · have hd1 : 0 ≤ d := by omega
    go_enter Tryz.func62, Tryz.ntmps62
    go_wp2
    refine wp_region_calm (by kernel_rfl) (by kernel_rfl) ?_
    repeat (go_big_quiet_step (exact Calls.calm_of (hcall _)))
    refine wpQuiet_nil ?_
    rintro _ ⟨x, rfl⟩
    go_wp2
    go_ret
    exact ⟨ret_bool (by simp; omega), x.ok⟩

theorem pos_ahead {t : List Cel} {l : List (List Cel)} (h : FR l) {i : Nat} (hi : i < l.length) : (!decide (compP l[i] t < 0)) = !decide (i < posF t l) := by
  obtain ⟨h1, h2⟩ := pos_split (t := t) h.rise
  by_cases hk : i < posF t l
  · have := h1 l[i] (take_memF hi hk)
    simp [this, hk]
  · have := h2 l[i] (drop_memF hi (by omega))
    simp [hk]; omega

theorem fbox_old (w : World) (v : Value) (T : TypeId) (o : Obj) : ((w.alloc (.cells #[v] T)).alloc o).cell? ⟨w.heap.size, 0, none⟩ = some v := by
  have h : (w.alloc (.cells #[v] T)).cell? ⟨w.heap.size, 0, none⟩ = some v := (World.cell?_alloc_at #[v] T w.heap.size 0 rfl).trans rfl
  exact keep h ((Below.refl _ _).new _)
theorem fbox_new (w : World) (o : Obj) (v : Value) (T : TypeId) : ((w.alloc o).alloc (.cells #[v] T)).cell? ⟨w.heap.size + 1, 0, none⟩ = some v :=
  (World.cell?_alloc_at (w := w.alloc o) #[v] T (w.heap.size + 1) 0 (by simp)).trans rfl
set_option maxHeartbeats 1600000 in
theorem place_any (a : Option Addr) (cap : Nat) (l : List (List Cel)) (a' : Option Addr) (cap' : Nat) (t : List Cel) (w : World) (hr : Row w a cap l) (ht : Row w a' cap' t) (hF : FR l) :
    Calls Tryz.prog 36 #[.slice a l.length cap, .slice a' t.length cap'] w fun e w' => e = .returned (.tuple #[.int .i64 (posF t l), .bool (decide (t ∈ l))]) ∧ Below w.heap.size w w' := by
  have hm := hr.max
  have hm2 := hr.le
  have h512 := hF.len
  have hple := pos_le t l
  have HP : Hid (t ∈ l ↔ ∃ hk : posF t l < l.length, l[posF t l] = t) := pos_mem hF.rise
  have HF := mkHid hF
  clear hF
  have hmf : ∀ (fn : Fn) (first cap : Array Value) (w : World), (Instr.makeFunc fn first cap).run Tryz.prog w = .ok (.func fn first cap) w := fun _ _ _ _ => rfl
  have hb0 : Below w.heap.size w ((w.alloc (.cells #[.slice a l.length cap] 22)).alloc (.cells #[.slice a' t.length cap'] 23)) := ((Below.refl _ _).new _).new _
  have k2 : ((w.alloc (.cells #[.slice a l.length cap] 22)).alloc (.cells #[.slice a' t.length cap'] 23)).cell? ⟨w.heap.size, 0, none⟩ = some (.slice a l.length cap) := fbox_old _ _ _ _
  have k3 : ((w.alloc (.cells #[.slice a l.length cap] 22)).alloc (.cells #[.slice a' t.length cap'] 23)).cell? ⟨w.heap.size + 1, 0, none⟩ = some (.slice a' t.length cap') := fbox_new _ _ _ _
  have hs : Calls Tryz.prog 61 #[.int .i64 l.length, .func (.func 62) #[] #[.pointer (some ⟨w.heap.size, 0, none⟩), .pointer (some ⟨w.heap.size + 1, 0, none⟩)]] ((w.alloc (.cells #[.slice a l.length cap] 22)).alloc (.cells #[.slice a' t.length cap'] 23)) fun e w' => e = .returned (.int .i64 (posF t l)) ∧ Below ((w.alloc (.cells #[.slice a l.length cap] 22)).alloc (.cells #[.slice a' t.length cap'] 23)).heap.size ((w.alloc (.cells #[.slice a l.length cap] 22)).alloc (.cells #[.slice a' t.length cap'] 23)) w' := by
    refine search_any _ _ l.length (posF t l) (fun i => !decide (i < posF t l)) _ (fun _ _ => by kernel_rfl) (by omega) hple ?_ (fun i hi => by simp [hi]) (fun i hi _ => by simp; omega)
    intro W i hW hi
    have hbW := hb0.then hW
    refine (place1_any w.heap.size (w.heap.size + 1) W a cap l a' cap' t i hi (hr.below hbW) (ht.below hbW) (keep k2 hW) (keep k3 hW)).mono ?_
    rintro e W' ⟨he, hb⟩
    exact ⟨by rw [he]; exact ret_bool (pos_ahead HF.out hi), hb⟩
  obtain ⟨k, hkk⟩ : ∃ k, posF t l = k := ⟨_, rfl⟩
  rw [hkk] at hs hple HP ⊢
  clear hkk
  by_cases hlt : k < l.length
  · obtain ⟨b, off, rfl, hb, hat⟩ := hr.cases.resolve_left (fun e => by simp [e] at hlt)
    obtain ⟨d, hd⟩ : ∃ d, decide (l[k] = t) = d := ⟨_, rfl⟩
    have HD := mkHid hd
    have HE : Hid (d = decide (t ∈ l)) := by
      rw [Hid, ← hd]
      refine decide_eq_decide.2 ?_
      rw [HP.out]
      exact ⟨fun e => ⟨hlt, e⟩, fun ⟨_, e⟩ => e⟩
    clear hd
    go_enter Tryz.func36, Tryz.ntmps36
    go_wp2_with fail
    refine hs.mono ?_
    rintro e w1 ⟨rfl, hb1⟩
    have hb01 := hb0.then hb1
    obtain ⟨a1, cap1, c0, hr1⟩ := list_at hat hb01 hlt
    have e0 : ∀ x : Later w1, x.w'.cell? ⟨b, off + k, none⟩ = some (.slice a1 l[k].length cap1) := keepL c0
    have e2 : ∀ x : Later w1, x.w'.cell? ⟨w.heap.size, 0, none⟩ = some (.slice (some ⟨b, off, none⟩) l.length cap) := keepL (keep k2 hb1)
    have e3 : ∀ x : Later w1, x.w'.cell? ⟨w.heap.size + 1, 0, none⟩ = some (.slice a' t.length cap') := keepL (keep k3 hb1)
    have ht1 := ht.below hb01
    have hcall : ∀ x : Later w1, Calls Tryz.prog 42 #[.slice a1 l[k].length cap1, .slice a' t.length cap'] x.w' fun e w'' => e = .returned (.bool d) ∧ Below x.w'.heap.size x.w' w'' := fun x =>
      sameF_is (hr1.below x.ok) (ht1.below x.ok) HD
    go_wp2_with fail
    refine wp_region_calm (by kernel_rfl) (by kernel_rfl) ?_
    repeat (go_big_quiet_step (exact Calls.calm_of (hcall _)))
    refine wpQuiet_nil ?_
    rintro _ ⟨x, rfl⟩
    go_wp2
    go_ret2
    refine ⟨?_, hb01.then x.ok⟩
    rw [← HE.out]
    rfl
  · have HE : Hid (decide (t ∈ l) = false) := by
      rw [Hid]
      refine decide_eq_false ?_
      rw [HP.out]
      exact fun ⟨h, _⟩ => hlt h
    go_enter Tryz.func36, Tryz.ntmps36
    go_wp2_with fail
    refine hs.mono ?_
    rintro e w1 ⟨rfl, hb1⟩
    have hb01 := hb0.then hb1
    have e2 : ∀ x : Later w1, x.w'.cell? ⟨w.heap.size, 0, none⟩ = some (.slice a l.length cap) := keepL (keep k2 hb1)
    have e3 : ∀ x : Later w1, x.w'.cell? ⟨w.heap.size + 1, 0, none⟩ = some (.slice a' t.length cap') := keepL (keep k3 hb1)
    go_wp2_with fail
    refine wp_region_calm (by kernel_rfl) (by kernel_rfl) ?_
    repeat (go_big_quiet_step (fail))
    refine wpQuiet_nil ?_
    rintro _ ⟨x, rfl⟩
    go_wp2
    go_ret2
    refine ⟨?_, hb01.then x.ok⟩
    rw [HE.out]
    rfl

/-! ### is it there? -/
theorem hasF_any (a : Option Addr) (cap : Nat) (l : List (List Cel)) (a' : Option Addr) (cap' : Nat) (t : List Cel) (w : World) (hr : Row w a cap l) (ht : Row w a' cap' t) (hF : FR l) :
    Calls Tryz.prog 20 #[.slice a l.length cap, .slice a' t.length cap'] w fun e w' => e = .returned (.bool (decide (t ∈ l))) ∧ Below w.heap.size w w' := by
  have hm := hr.max
  have hm2 := hr.le
  have hm3 := ht.max
  have hm4 := ht.le
  cases hQ : factB t with
  | false =>
    have HE : Hid (decide (t ∈ l) = false) := decide_eq_false fun h => by rw [hF.all t h] at hQ; cases hQ
    have HQ := mkHid hQ
    clear hQ
    go_enter Tryz.func20, Tryz.ntmps20
    go_wp2_with fail
    refine (fact_is ht HQ).mono ?_; rintro e w1 ⟨rfl, hb1⟩
    go_wp2_with fail
    go_ret
    exact ⟨ret_bool HE.out.symm, hb1⟩
  | true =>
    have HQ := mkHid hQ
    clear hQ
    have HF := mkHid hF
    clear hF
    go_enter Tryz.func20, Tryz.ntmps20
    go_wp2_with fail
    refine (fact_is ht HQ).mono ?_; rintro e w1 ⟨rfl, hb1⟩
    go_wp2_with fail
    refine (place_any a cap l a' cap' t w1 (hr.below hb1) (ht.below hb1) HF.out).mono ?_; rintro e w2 ⟨rfl, hb2⟩
    go_wp2_with fail
    go_ret
    exact ⟨rfl, hb1.then hb2⟩
/-- what is no fact is never there -/
theorem hasF_no (a : Option Addr) (cap : Nat) (l : List (List Cel)) (a' : Option Addr) (cap' : Nat) (t : List Cel) (w : World) (hr : Row w a cap l) (ht : Row w a' cap' t) (hQ : factB t = false) :
    Calls Tryz.prog 20 #[.slice a l.length cap, .slice a' t.length cap'] w fun e w' => e = .returned (.bool false) ∧ Below w.heap.size w w' := by
  have hm := hr.max
  have hm2 := hr.le
  have hm3 := ht.max
  have hm4 := ht.le
  have HQ := mkHid hQ
  clear hQ
  go_enter Tryz.func20, Tryz.ntmps20
  go_wp2_with fail
  refine (fact_is ht HQ).mono ?_; rintro e w1 ⟨rfl, hb1⟩
  go_wp2_with fail
  go_ret
  exact ⟨rfl, hb1⟩
end Go.Proofs.YtmmnfkggfnokjaaGreat
namespace Go.Proofs.YtmmnfkggfnokjaaGreat
open Go.RowKit
attribute [local go_sem] Oper.semAt_some

/-- a number that may be -/
abbrev IntF := { n : Int // -9223372036854775808 ≤ n ∧ n ≤ 9223372036854775807 }
def valsI (l : List IntF) : List Int := l.map Subtype.val
theorem valsI_append (a b : List IntF) : valsI (a ++ b) = valsI a ++ valsI b := by simp [valsI]
theorem valsI_fit (l : List IntF) : ∀ n ∈ valsI l, -9223372036854775808 ≤ n ∧ n ≤ 9223372036854775807 := by
  intro n hn
  obtain ⟨x, _, rfl⟩ := List.mem_map.1 hn
  exact x.2

set_option maxHeartbeats 1000000 in
theorem values_in (F : Fence) (n : Nat) (hF : F.fn 81) (hro : F.round = none) (a : Option Addr) (len cap : Nat) (w : World) :
    CallsIn F n Tryz.prog 81 #[.slice a len cap] w fun e w' => e = .returned (.func (.func 89) #[] #[.pointer (some ⟨w.heap.size, 0, none⟩)]) ∧ w' = w.alloc (.cells #[.slice a len cap] 63) := by
  refine callsIn_of_wp Tryz.func81 rfl hF ?_ hro
  simp only [Tryz.ntmps81, List.size_toArray, List.length_cons, List.length_nil, Nat.reduceAdd, Nat.reduceSub, Array.replicate_succ, Array.replicate_zero, List.push_toArray, List.append_toArray, List.nil_append, List.cons_append]
  gi_wp2
  go_ret
  exact ⟨rfl, rfl⟩

set_option maxRecDepth 100000 in
set_option maxHeartbeats 4000000 in
theorem values1_in (F : Fence) (n : Nat) (hF : F.fn 89) (hro : F.round = none) (hn : 1 ≤ n) (l Bs n₀ : Nat) (w : World) (a : Option Addr) (cap : Nat) (xs : List Int) (hx : Row w a cap xs) (hwn : w.heap.size ≤ n₀)
    (J Jx : List IntF → World → Prop) (W : World) (hW : Below w.heap.size w W)
    (hY : ∀ pre x W, J pre W → pre.length < xs.length → YieldAt F (n - 1) Tryz.prog l #[.int .i64 x.1] W fun e W' =>
      (e = .returned (.bool true) ∧ J (pre ++ [x]) W' ∧ Below n₀ W W') ∨ (e = .returned (.bool false) ∧ Jx (pre ++ [x]) W'))
    (hBs : W.cell? ⟨Bs, 0, none⟩ = some (.slice a xs.length cap)) (h0 : J [] W) :
    CallsIn F n Tryz.prog 89 #[.func (.yield l) #[] #[], .pointer (some ⟨Bs, 0, none⟩)] W fun e W' => (∃ v, e = .returned v) ∧
      ((∃ ys, valsI ys = xs ∧ J ys W') ∨ (∃ pre, valsI pre <+: xs ∧ Jx pre W')) := by
  have hm := hx.max
  have hm2 := hx.le
  refine callsIn_of_wp Tryz.func89 rfl hF ?_ hro
  simp only [Tryz.ntmps89, List.size_toArray, List.length_cons, List.length_nil, Nat.reduceAdd, Nat.reduceSub, Array.replicate_succ, Array.replicate_zero, List.push_toArray, List.append_toArray, List.nil_append, List.cons_append]
  gi_wp2
  gi_loopw [7] (fun i wr => ∃ (k : Nat) (pre : List IntF), k ≤ xs.length ∧ i = .int .i64 k ∧ Hid (valsI pre = xs.take k) ∧ J pre wr ∧ Below n₀ W wr) (fun i _ => xs.length - (intOf i).toNat)
  case atStart => exact ⟨0, [], Nat.zero_le _, rfl, by simp [Hid, valsI], h0, Below.refl _ _⟩
  case round =>
    obtain ⟨k, pre, hk, rfl, HP, hJs, hnx⟩ := hrel
    by_cases hlt : k < xs.length
    · obtain ⟨b, off, rfl, hb, hat⟩ := hx.cases.resolve_left (fun e => by simp [e] at hlt)
      obtain ⟨d0, n1, n2⟩ := int_at hat (hW.trans (hnx.mono hwn)) hlt
      have hroom : pre.length < xs.length := by
        have h1 : pre.length = (valsI pre).length := by simp [valsI]
        rw [h1, HP.out]; simp; omega
      have HV : Hid (valsI (pre ++ [⟨xs[k], n1, n2⟩]) = xs.take (k + 1)) := by
        rw [Hid, valsI_append, HP.out, List.take_succ_eq_append_getElem hlt]; rfl
      obtain ⟨fn, tmps, assign, body, hy, hR⟩ := hY pre ⟨xs[k], n1, n2⟩ wr hJs hroom
      dsimp only at hy
      clear hroom
      gi_wp2
      refine hR.mono ?_
      rintro e W3 (⟨rfl, hJ3, hk3⟩ | ⟨rfl, hJx3⟩)
      · gi_wp2
        go_roundw
        case rel => exact ⟨k + 1, _, by omega, by simp, HV, hJ3, hnx.trans hk3⟩
        case measure => simp [intOf]; omega
      · gi_wp2
        refine bodyPost_ret (results_none rfl _ _ _) rfl ?_
        exact ⟨⟨_, rfl⟩, .inr ⟨_, by rw [HV.out]; exact List.take_prefix _ _, hJx3⟩⟩
    · have HV : Hid (valsI pre = xs) := by rw [Hid, HP.out, List.take_of_length_le (by omega)]
      gi_wp2
      go_end0
      exact ⟨⟨_, rfl⟩, .inl ⟨_, HV.out, hJs⟩⟩
end Go.Proofs.YtmmnfkggfnokjaaGreat
namespace Go.Proofs.YtmmnfkggfnokjaaGreat
open Go.RowKit
attribute [local go_sem] Oper.semAt_some

/-- what a round of AppendSeq finds -/
def SeqI (w : World) (pre : List IntF) (W : World) : Prop := ∃ v, Boxed W w.heap.size 63 v ∧ W.ownsRow w.heap.size 3 1 v (valsI pre).length ((valsI pre).map (Value.int .i64)) ∧ True
theorem SeqI.own (w : World) : Own (SeqI w) := holdsRow_own w.heap.size w.heap.size 63 3 1 (fun pre : List IntF => (valsI pre).length) (fun pre => (valsI pre).map (Value.int .i64)) (fun _ _ => True)

set_option maxRecDepth 100000 in
set_option maxHeartbeats 4000000 in
theorem appendseq_in (F : Fence) (n : Nat) (h90 : F.fn 90) (h87 : F.fn 89) (hro : F.round = none) (hn : 3 ≤ n) (Bs : Nat) (w0 w : World) (a : Option Addr) (cap : Nat) (xs : List Int) (hx : Row w0 a cap xs) (hl : xs.length ≤ 1000000) (hw : Below w0.heap.size w0 w) (hBs : w.cell? ⟨Bs, 0, none⟩ = some (.slice a xs.length cap)) :
    CallsIn F n Tryz.prog 90 #[.slice none 0 0, .func (.func 89) #[] #[.pointer (some ⟨Bs, 0, none⟩)]] w fun e w' => ∃ v, e = .returned v ∧ AccInv w.heap.size 3 xs v w' ∧ Below w.heap.size w w' := by
  have h1 : 1 ≤ n := by omega
  have hBl := cell_lt hBs
  refine callsIn_of_wp_marks Tryz.func90 rfl h90 ?_ hro
  simp only [Tryz.ntmps90, List.size_toArray, List.length_cons, List.length_nil, Nat.reduceAdd, Nat.reduceSub, Array.replicate_succ, Array.replicate_zero, List.push_toArray, List.append_toArray, List.nil_append, List.cons_append]
  gi_wp2
  have bS := Boxed.new w 63 (.slice none 0 0)
  have hB0 := (Below.refl w.heap.size w).new (.cells #[.slice none 0 0] 63)
  refine wpIn_rangeFunc_ownG hro h1 (gf := 89) (lb := #[.pointer (some ⟨Bs, 0, none⟩)]) rfl h87 (enters_of Tryz.func89 (by kernel_rfl) rfl)
    (α := IntF) (encs := fun x => #[.int .i64 x.1]) (Kp := Below w.heap.size) (S := fun ys => valsI ys = xs) (Sp := fun pre => valsI pre <+: xs) (N := xs.length) (w0 := w.alloc (.cells #[.slice none 0 0] 63))
    (fun l J Jx W hW hJ _ hY h0 => values1_in F (n - 1) h87 hro (by omega) l Bs w.heap.size w0 a cap xs hx hw.size J Jx W ((hw.then hB0).then hW) hY
      ((hW.cell (p := ⟨Bs, 0, none⟩) (by simp; omega)).trans (keep hBs hB0)) h0)
    belowK_t (belowK_b (by simp)) (Below.refl _ _) (fun _ => rfl)
    (fun pre W => (SeqI w pre W ∧ Below w.heap.size w W) ∧ pre.length ≤ 1000000)
    (fun _ _ _ => False)
    (OwnFrom.and (OwnFrom.and ((SeqI.own w).from _) (ownFrom_below (Nat.le_refl _) hB0.size)) (ownFrom_pure _ _))
    (fun _ _ _ _ _ hs _ _ => hs)
    ⟨⟨⟨_, bS, World.ownsRow_nil _ _ _ _, trivial⟩, hB0⟩, by simp⟩
    (fun x => { tmps := #[.slice none 0 0, .func (.func 89) #[] #[.pointer (some ⟨Bs, 0, none⟩)], .pointer (some ⟨w.heap.size, 0, none⟩), undef, .slice none 0 0, .int .i64 x.1, .func (.func 89) #[] #[.pointer (some ⟨Bs, 0, none⟩)], .int .i64 x.1, undef, undef, undef, undef, undef], defers := [] })
    ?assign ?body ?done ?stop
  case assign =>
    intro l x W K hK
    gi_wp2
    exact hK
  case body =>
    rintro l pre x W ⟨⟨⟨v, hb, hown, _⟩, hB⟩, hlen⟩ hlt
    obtain ⟨av, capv, rfl, hrow⟩ := own_rowI hown (valsI_fit pre)
    have c6 : W.cell? ⟨w.heap.size, 0, none⟩ = some (.slice av (valsI pre).length capv) := hb.cell
    have hvl : (valsI pre).length = pre.length := by simp [valsI]
    have hv2 : (valsI pre).length ≤ 1000000 := by omega
    have HVL := mkHid hvl
    have HPL : Hid ((pre ++ [x]).length ≤ 1000000) := by rw [Hid, List.length_append]; simp; omega
    clear hvl
    obtain ⟨i0, hi, hz0, hz1, hz2⟩ := info_parts Tryz.infoInt
    gi_wp2_with (gi_at_builtin; refine wpListIn_append_own _ rfl _ _ 63 rfl w.heap.size 3 i0 _ 1 8 Tryz.underlying63 hi hz0 hz1 hz2 rfl (by decide) (.slice av (valsI pre).length capv) (valsI pre).length ((valsI pre).map (Value.int .i64)) rfl (hown.alloc _) ⟨W.heap.size, 0, none⟩ 1 1 [.int .i64 x.1] rfl rfl ((src_new W #[.int .i64 x.1] _ 1 rfl (by simp [Value.oneCell'])).cells _ rfl) (by simp [Value.oneCell']) (by unfold maxLen; omega) (by omega) (by have := hB.size; simp; omega) ?_; intro v' w1 hown' hgrow _; obtain ⟨g', cap', rfl⟩ := ownsRow_succ hown'; obtain ⟨hv1, hv2', hr2, hk2, hb2⟩ := hb.appended (by decide) hown hB.size (by omega) hown' hgrow; have hc1 : w1.cell? ⟨w.heap.size, 0, none⟩ = _ := hv1.cell; have hf1 : w1.frozen? ⟨w.heap.size, 0, none⟩ = _ := hv1.frozen)
    refine ⟨hk2.from _, hb2, ⟨⟨⟨_, hv2', ?_, trivial⟩, hB.trans hb2⟩, HPL.out⟩⟩
    rw [valsI_append, List.map_append, List.length_append]
    exact hr2
  case done =>
    rintro D zs W hD hS ⟨⟨⟨v, hb, hown, _⟩, hB⟩, hlen⟩ hK
    have c6 := hb.cell
    have o3 := ownsRow_putObj hown (.deferred none) hK rfl
    have HA : AccInv w.heap.size 3 xs v (W.putObj D (.deferred none)) := by
      subst hS
      exact ⟨_, o3, crows_ints _ (valsI_fit zs)⟩
    clear o3 hown
    gi_wp2
    refine ⟨by simp, .inl ⟨_, _, rfl, run_takeDeferred hK, ?_⟩⟩
    exact ⟨_, results_tmp rfl _ _ _, v, rfl, HA, hB.trans (belowK_b (w := w) (Nat.le_refl _) W D _ _ (by simp at hD; omega) hK rfl rfl)⟩
  case stop =>
    rintro D c pre W _ _ h _
    exact h.elim
end Go.Proofs.YtmmnfkggfnokjaaGreat
namespace Go.Proofs.YtmmnfkggfnokjaaGreat
open Go.Shelf
def Tryz.sortI_ren : Go.Shelf.Ren := ⟨fun | 5 => 88 | 8 => 92 | 7 => 91 | 19 => 102 | 20 => 103 | 10 => 93 | 11 => 94 | 12 => 95 | 13 => 96 | 14 => 97 | 15 => 98 | 16 => 99 | 17 => 100 | 18 => 101 | 30 => 104 | 31 => 105 | 32 => 106 | 33 => 107 | 34 => 108 | 35 => 76 | 40 => 109 | n => n, fun | 23 => 63 | 25 => 3 | 3 => 3 | 32 => 83 | 22 => 63 | 0 => 0 | 44 => 105 | 46 => 107 | 4 => 4 | 36 => 98 | 35 => 97 | 41 => 53 | 5 => 5 | 9 => 9 | 53 => 108 | 57 => 112 | 63 => 114 | 64 => 115 | n => n, fun | n => n⟩
theorem Tryz.sortI : Go.Proofs.SlLaysM.n5 Tryz.prog Tryz.sortI_ren := {
  mixed := by kernel_rfl
  f5 := ⟨Tryz.f88.name, by decide, Tryz.func88.trans (congrArg some (by kernel_rfl))⟩
  f7 := ⟨Tryz.f91.name, by decide, Tryz.func91.trans (congrArg some (by kernel_rfl))⟩
  f8 := Tryz.func92.trans (congrArg some (by kernel_rfl))
  f10 := ⟨Tryz.f93.name, by decide, Tryz.func93.trans (congrArg some (by kernel_rfl))⟩
  f11 := ⟨Tryz.f94.name, by decide, Tryz.func94.trans (congrArg some (by kernel_rfl))⟩
  f12 := ⟨Tryz.f95.name, by decide, Tryz.func95.trans (congrArg some (by kernel_rfl))⟩
  f13 := ⟨Tryz.f96.name, by decide, Tryz.func96.trans (congrArg some (by kernel_rfl))⟩
  f14 := ⟨Tryz.f97.name, by decide, Tryz.func97.trans (congrArg some (by kernel_rfl))⟩
  f15 := ⟨Tryz.f98.name, by decide, Tryz.func98.trans (congrArg some (by kernel_rfl))⟩
  f16 := ⟨Tryz.f99.name, by decide, Tryz.func99.trans (congrArg some (by kernel_rfl))⟩
  f17 := ⟨Tryz.f100.name, by decide, Tryz.func100.trans (congrArg some (by kernel_rfl))⟩
  f18 := ⟨Tryz.f101.name, by decide, Tryz.func101.trans (congrArg some (by kernel_rfl))⟩
  f19 := Tryz.func102.trans (congrArg some (by kernel_rfl))
  f20 := Tryz.func103.trans (congrArg some (by kernel_rfl))
  f30 := ⟨Tryz.f104.name, by decide, Tryz.func104.trans (congrArg some (by kernel_rfl))⟩
  f31 := Tryz.func105.trans (congrArg some (by kernel_rfl))
  f32 := Tryz.func106.trans (congrArg some (by kernel_rfl))
  f33 := ⟨Tryz.f107.name, by decide, Tryz.func107.trans (congrArg some (by kernel_rfl))⟩
  f34 := ⟨Tryz.f108.name, by decide, Tryz.func108.trans (congrArg some (by kernel_rfl))⟩
  f35 := ⟨Tryz.f76.name, by decide, Tryz.func76.trans (congrArg some (by kernel_rfl))⟩
  f40 := ⟨Tryz.f109.name, by decide, Tryz.func109.trans (congrArg some (by kernel_rfl))⟩
  t0 := Tryz.underlying0
  a0 := Tryz.isAgg0
  z0 := Tryz.sizeOf0
  v0 := Tryz.zeroValue0
  t3 := Tryz.underlying3
  a3 := Tryz.isAgg3
  z3 := Tryz.sizeOf3
  v3 := Tryz.zeroValue3
  t4 := Tryz.underlying4
  a4 := Tryz.isAgg4
  z4 := Tryz.sizeOf4
  v4 := Tryz.zeroValue4
  t5 := Tryz.underlying5
  a5 := Tryz.isAgg5
  z5 := Tryz.sizeOf5
  v5 := Tryz.zeroValue5
  t9 := Tryz.underlying9
  a9 := Tryz.isAgg9
  z9 := Tryz.sizeOf9
  v9 := Tryz.zeroValue9
  t22 := Tryz.underlying63
  a22 := Tryz.isAgg63
  z22 := Tryz.sizeOf63
  v22 := Tryz.zeroValue63
  t23 := Tryz.underlying63
  a23 := Tryz.isAgg63
  z23 := Tryz.sizeOf63
  v23 := Tryz.zeroValue63
  t25 := Tryz.underlying3
  a25 := Tryz.isAgg3
  z25 := Tryz.sizeOf3
  v25 := Tryz.zeroValue3
  t32 := Tryz.underlying83
  a32 := Tryz.isAgg83
  z32 := Tryz.sizeOf83
  v32 := Tryz.zeroValue83
  t35 := Tryz.underlying97
  a35 := Tryz.isAgg97
  z35 := Tryz.sizeOf97
  v35 := Tryz.zeroValue97
  t36 := Tryz.underlying98
  a36 := Tryz.isAgg98
  z36 := Tryz.sizeOf98
  v36 := Tryz.zeroValue98
  t41 := Tryz.underlying53
  a41 := Tryz.isAgg53
  z41 := Tryz.sizeOf53
  v41 := Tryz.zeroValue53
  t44 := Tryz.underlying105
  a44 := Tryz.isAgg105
  z44 := Tryz.sizeOf105
  v44 := Tryz.zeroValue105
  t46 := Tryz.underlying107
  a46 := Tryz.isAgg107
  z46 := Tryz.sizeOf107
  v46 := Tryz.zeroValue107
  t53 := Tryz.underlying108
  a53 := Tryz.isAgg108
  z53 := Tryz.sizeOf108
  v53 := Tryz.zeroValue108
  t57 := Tryz.underlying112
  a57 := Tryz.isAgg112
  z57 := Tryz.sizeOf112
  v57 := Tryz.zeroValue112
  t63 := Tryz.underlying114
  a63 := Tryz.isAgg114
  z63 := Tryz.sizeOf114
  v63 := Tryz.zeroValue114
  t64 := Tryz.underlying115
  a64 := Tryz.isAgg115
  z64 := Tryz.sizeOf115
  v64 := Tryz.zeroValue115 }
end Go.Proofs.YtmmnfkggfnokjaaGreat
namespace Go.Proofs.YtmmnfkggfnokjaaGreat
open Go.Shelf
def Tryz.compI_ren : Go.Shelf.Ren := ⟨fun | 43 => 79 | n => n, fun | 22 => 63 | 23 => 3 | 3 => 3 | 4 => 4 | 0 => 0 | n => n, fun | n => n⟩
theorem Tryz.compI : Go.Proofs.SlLaysE.n43 Tryz.prog Tryz.compI_ren := {
  mixed := by kernel_rfl
  f43 := ⟨Tryz.f79.name, by decide, Tryz.func79.trans (congrArg some (by kernel_rfl))⟩
  t0 := Tryz.underlying0
  a0 := Tryz.isAgg0
  z0 := Tryz.sizeOf0
  v0 := Tryz.zeroValue0
  t3 := Tryz.underlying3
  a3 := Tryz.isAgg3
  z3 := Tryz.sizeOf3
  v3 := Tryz.zeroValue3
  t4 := Tryz.underlying4
  a4 := Tryz.isAgg4
  z4 := Tryz.sizeOf4
  v4 := Tryz.zeroValue4
  t22 := Tryz.underlying63
  a22 := Tryz.isAgg63
  z22 := Tryz.sizeOf63
  v22 := Tryz.zeroValue63
  a23 := Tryz.isAgg3
  z23 := Tryz.sizeOf3 }
end Go.Proofs.YtmmnfkggfnokjaaGreat
namespace Go.Proofs.YtmmnfkggfnokjaaGreat
open Go.RowKit Go.Shelf Go.Lib
open Go.Sort (grow putRow Holds)

def sortI (xs : List Int) : List Int := xs.mergeSort fun x y => decide (x ≤ y)
theorem sortI_length (xs : List Int) : (sortI xs).length = xs.length := List.length_mergeSort xs
theorem putRow_grown (w : World) (n g off : Nat) (d : Array Int) : w.grownBy (putRow (Value.int .i64) (Go.Sort.ahead w n) g off d) (some g) := by
  refine ⟨rfl, rfl, rfl, by simp [Go.Sort.ahead], fun k hk hne => ?_⟩
  have : k ≠ g := fun e => hne (by rw [e])
  simp [putRow, Go.Sort.mapBlock, Go.Sort.ahead, Array.getElem?_modify, Ne.symm this]
theorem grow_below (w : World) (os : Array Obj) : Below w.heap.size w (grow w os) :=
  ⟨rfl, rfl, rfl, by simp [grow], fun k hk => by simp [grow, Array.getElem?_append, hk]⟩
/-- a row of numbers of the call's own, at the head of its block -/
structure OwnI (B : Nat) (w : World) (v : Value) (xs : List Int) : Prop where
  ex : (v = .slice none 0 0 ∧ xs = []) ∨ ∃ g cap, v = .slice (some ⟨g, 0, none⟩) xs.length cap ∧ B ≤ g ∧ g < w.heap.size ∧ xs.length ≤ cap ∧ cap ≤ 9223372036854775807 ∧ Holds (Value.int .i64) w g 0 xs.toArray
  fit : ∀ n ∈ xs, -9223372036854775808 ≤ n ∧ n ≤ 9223372036854775807
theorem OwnI.row {B : Nat} {w : World} {v : Value} {xs : List Int} (h : OwnI B w v xs) : ∃ a cap, v = .slice a xs.length cap ∧ NewRow B w a cap xs := by
  rcases h.ex with ⟨rfl, rfl⟩ | ⟨g, cap, rfl, hB, _, h1, h2, h3⟩
  · exact ⟨none, 0, rfl, NewRow.empty _ _ _ _ (by omega) (fun _ => rfl)⟩
  · refine ⟨_, cap, rfl, ⟨h1, h2, (fun e => by cases e), fun i x hi => ⟨g, 0, rfl, ?_⟩⟩⟩
    obtain ⟨hl, hx⟩ := List.getElem?_eq_some_iff.1 hi
    have h4 := (h3 i (by simpa using hl)).1
    have h5 := h.fit x (by rw [← hx]; exact List.getElem_mem hl)
    refine ⟨?_, h5.1, h5.2⟩
    show (under B w).cell? ⟨g, 0 + i * 1, none⟩ = _
    rw [Nat.mul_one]
    refine under_of hB ?_
    rw [h4]
    simp [hl, hx]
theorem AccInv.ownI {B : Nat} {w : World} {v : Value} {xs : List Int} (h : AccInv B 3 xs v w) : OwnI B w v xs := by
  obtain ⟨a, cap, rfl, hr⟩ := h.row
  have hf : ∀ n ∈ xs, -9223372036854775808 ≤ n ∧ n ≤ 9223372036854775807 := by
    intro n hn
    obtain ⟨i, hi, rfl⟩ := List.getElem_of_mem hn
    rcases hr.cases with rfl | ⟨b, off, rfl, _, hat⟩
    · simp at hi
    · obtain ⟨_, h1, h2⟩ := int_at hat (Below.refl _ _) hi
      exact ⟨h1, h2⟩
  refine ⟨?_, hf⟩
  obtain ⟨vs, hown, hc⟩ := h.ex
  rcases hown.2 with ⟨e, hn⟩ | ⟨g, cap2, cur, e, hb, hg, hn, hm, hsz, ht⟩
  · obtain rfl : xs = [] := List.eq_nil_of_length_eq_zero hn
    exact .inl ⟨e, rfl⟩
  · refine .inr ⟨g, cap2, e, hb, (Array.getElem?_eq_some_iff.1 hg).1, hn, by unfold maxLen at hm; omega, fun j hj => ?_⟩
    injection e with e1 _ e2
    subst e1; subst e2
    have hj' : j < xs.length := by simpa using hj
    obtain ⟨b, off, e3, _, hat⟩ := hr.cases.resolve_left (fun e => by simp [e] at hj')
    cases e3
    obtain ⟨d0, _, _⟩ := int_at hat (Below.refl _ _) hj'
    refine ⟨by rw [d0]; simp [hj'], ?_⟩
    simp [World.frozen?, hg]

set_option maxHeartbeats 1000000 in
theorem sort_any (B : Nat) (w : World) (v : Value) (xs : List Int) (h : OwnI B w v xs) (hl : xs.length ≤ 1000000) :
    Calls Tryz.prog 88 #[v] w fun e w' => e = .returned (.tuple #[]) ∧ OwnI B w' v (sortI xs) ∧ (B ≤ w.heap.size → Below B w w') := by
  rcases h.ex with ⟨rfl, rfl⟩ | ⟨g, cap, rfl, hB, hg, h1, h2, h3⟩
  · exact (AnyM.slices_Sort_int_none Tryz.sortI none 0 w).mono fun e w' ⟨he, hw⟩ => ⟨he, by subst hw; exact ⟨.inl ⟨rfl, by simp [sortI]⟩, by simp [sortI]⟩, by subst hw; intro _; exact Below.refl _ _⟩
  · refine (AnyM.slices_Sort_int Tryz.sortI g 0 cap xs w h3 hg (by omega)).mono ?_
    rintro e w' ⟨he, n, os, hw⟩
    have hlen := sortI_length xs
    have hH : Holds (Value.int .i64) (putRow (Value.int .i64) (Go.Sort.ahead w n) g 0 (sortI xs).toArray) g 0 (sortI xs).toArray :=
      Go.Sort.holds_putRow _ (Go.Sort.ahead w n) g 0 xs.toArray (sortI xs).toArray (fun j hj => h3 j hj) (by simp [hlen])
    have hgr := putRow_grown w n g 0 (sortI xs).toArray
    have hw2 : w' = grow (putRow (Value.int .i64) (Go.Sort.ahead w n) g 0 (sortI xs).toArray) os := hw
    have hbg := grow_below (putRow (Value.int .i64) (Go.Sort.ahead w n) g 0 (sortI xs).toArray) os
    have hsz : (putRow (Value.int .i64) (Go.Sort.ahead w n) g 0 (sortI xs).toArray).heap.size = w.heap.size := by simp [Go.Sort.ahead]
    rw [← hw2] at hbg
    refine ⟨he, ⟨.inr ⟨g, cap, by rw [hlen], hB, by have := hbg.size; omega, by rw [hlen]; exact h1, h2, fun j hj => ?_⟩, fun n hn => h.fit n ((List.mergeSort_perm xs _).mem_iff.1 hn)⟩, fun hBw => ?_⟩
    · obtain ⟨q1, q2⟩ := hH j hj
      exact ⟨(hbg.cell (p := ⟨g, 0 + j, none⟩) (by rw [hsz]; exact hg)).trans q1, (hbg.frozen (p := ⟨g, 0 + j, none⟩) (by rw [hsz]; exact hg)).trans q2⟩
    · exact ((Below.refl B w).grown hgr hBw (fun k hk => by cases hk; exact hB)).trans (hbg.mono (by rw [hsz]; exact hBw))

set_option maxHeartbeats 1000000 in
theorem sorted_any (Bs : Nat) (w0 w : World) (a : Option Addr) (cap : Nat) (xs : List Int) (hx : Row w0 a cap xs) (hl : xs.length ≤ 1000000) (hw : Below w0.heap.size w0 w) (hBs : w.cell? ⟨Bs, 0, none⟩ = some (.slice a xs.length cap)) :
    Calls Tryz.prog 80 #[.func (.func 89) #[] #[.pointer (some ⟨Bs, 0, none⟩)]] w fun e w' => ∃ v, e = .returned v ∧ OwnI w.heap.size w' v (sortI xs) ∧ Below w.heap.size w w' := by
  have hcol : Calls Tryz.prog 87 #[.func (.func 89) #[] #[.pointer (some ⟨Bs, 0, none⟩)]] w fun e w' => ∃ v, e = .returned v ∧ AccInv w.heap.size 3 xs v w' ∧ Below w.heap.size w w' := by
    have happ : Calls Tryz.prog 90 #[.slice none 0 0, .func (.func 89) #[] #[.pointer (some ⟨Bs, 0, none⟩)]] w fun e w' => ∃ v, e = .returned v ∧ AccInv w.heap.size 3 xs v w' ∧ Below w.heap.size w w' :=
      (callsIn_wide (n := 3)).1 (appendseq_in _ 3 trivial trivial rfl (Nat.le_refl _) Bs w0 w a cap xs hx hl hw hBs)
    go_enter Tryz.func87, Tryz.ntmps87
    go_wp2_with (go_at_call 90; refine happ.mono ?_; rintro e w1 ⟨v, rfl, ha, hb⟩)
    go_ret
    exact ⟨v, rfl, ha, hb⟩
  go_enter Tryz.func80, Tryz.ntmps80
  go_wp2_with fail
  refine hcol.mono ?_; rintro e w1 ⟨v, rfl, ha, hb⟩
  go_wp2_with fail
  refine (sort_any w.heap.size w1 v xs ha.ownI hl).mono ?_; rintro e w2 ⟨rfl, ho, hb2⟩
  go_wp2_with fail
  go_ret
  exact ⟨v, rfl, ho, hb.trans (hb2 hb.size)⟩
/-- rising, each once -/
def riseI (xs : List Int) : List Int := compactUpTo (sortI xs).toArray (sortI xs).length
theorem compact_sub (d : Array Int) (m : Nat) (hm : m ≤ d.size) : ∀ n ∈ compactUpTo d m, n ∈ d.toList := by
  intro n hn
  unfold compactUpTo at hn
  obtain ⟨i, hi, rfl⟩ := List.mem_map.1 hn
  have h1 := List.mem_range.1 (List.mem_filter.1 hi).1
  rw [getElem!_pos d i (by omega)]
  simp
theorem compact_le (d : Array Int) (m : Nat) : (compactUpTo d m).length ≤ m := by
  unfold compactUpTo
  rw [List.length_map]
  exact Nat.le_trans (List.length_filter_le _ _) (by simp)
set_option maxHeartbeats 1000000 in
theorem compact_any (B : Nat) (w : World) (v : Value) (xs : List Int) (h : OwnI B w v xs) (hl : xs.length ≤ 1000000) (hB : B ≤ w.heap.size) :
    Calls Tryz.prog 79 #[v] w fun e w' => ∃ v', e = .returned v' ∧ OwnI B w' v' (compactUpTo xs.toArray xs.length) ∧ Below B w w' := by
  rcases h.ex with ⟨rfl, rfl⟩ | ⟨g, cap, rfl, hBg, hg, h1, h2, h3⟩
  · go_enter Tryz.func79, Tryz.ntmps79
    go_wp2_with fail
    go_ret
    exact ⟨_, rfl, ⟨.inl ⟨rfl, rfl⟩, by simp [compactUpTo]⟩, Below.refl _ _⟩
  · have hC := AnyE.slices_Compact Tryz.compI (Value.int .i64) (fun _ => rfl) (EqlAt.intD _ _ .i64) (NeqAt.intD _ _ .i64) 0 (fun w => by kernel_rfl) g 0 cap xs.toArray w h3 (by simp; omega) (by simpa using h1)
    have hcl := compact_le xs.toArray xs.length
    refine Calls.mono (show Calls Tryz.prog 79 #[.slice (some ⟨g, 0, none⟩) xs.toArray.size cap] w _ from hC) ?_
    rintro e w' ⟨he, q, hw⟩
    have hgr := putRow_grown w q g 0 (compactUpTo xs.toArray xs.length ++ List.replicate (xs.length - (compactUpTo xs.toArray xs.length).length) 0).toArray
    have hw2 : w' = putRow (Value.int .i64) (Go.Sort.ahead w q) g 0 (compactUpTo xs.toArray xs.length ++ List.replicate (xs.length - (compactUpTo xs.toArray xs.length).length) 0).toArray := by simpa using hw
    rw [← hw2] at hgr
    have hH : Holds (Value.int .i64) w' g 0 (compactUpTo xs.toArray xs.length ++ List.replicate (xs.length - (compactUpTo xs.toArray xs.length).length) 0).toArray := by
      rw [hw2]
      exact Go.Sort.holds_putRow _ (Go.Sort.ahead w q) g 0 xs.toArray _ (fun j hj => h3 j hj) (by simp; omega)
    refine ⟨_, by simpa using he, ⟨.inr ⟨g, cap, rfl, hBg, Nat.lt_of_lt_of_le hg hgr.size, by omega, h2, fun j hj => ?_⟩, fun n hn => h.fit n (by simpa using compact_sub xs.toArray xs.length (by simp) n hn)⟩, (Below.refl B w).grown hgr hB (fun k hk => by cases hk; exact hBg)⟩
    have hj' : j < (compactUpTo xs.toArray xs.length).length := by simpa using hj
    have h5 := hH j (by simp; omega)
    refine ⟨h5.1.trans ?_, h5.2⟩
    congr 2
    simp [hj', getElem!_pos]
    rw [List.getElem?_append_left hj', List.getElem?_eq_getElem hj']; rfl
end Go.Proofs.YtmmnfkggfnokjaaGreat
namespace Go.Proofs.YtmmnfkggfnokjaaGreat
open Go.RowKit

/-- all blocks that were there, but some, are as they were -/
structure Fr (us : List Nat) (w w' : World) : Prop where
  os : w'.os = w.os
  tape : w'.tape = w.tape
  output : w'.output = w.output
  size : w.heap.size ≤ w'.heap.size
  block : ∀ k, k < w.heap.size → k ∉ us → w'.heap[k]? = w.heap[k]?
section
variable {us : List Nat} {w w' w'' : World}
theorem Fr.refl (us : List Nat) (w : World) : Fr us w w := ⟨rfl, rfl, rfl, Nat.le_refl _, fun _ _ _ => rfl⟩
theorem Fr.trans (h : Fr us w w') (k : Fr us w' w'') : Fr us w w'' :=
  ⟨k.os.trans h.os, k.tape.trans h.tape, k.output.trans h.output, Nat.le_trans h.size k.size, fun i hi hn => (k.block i (Nat.lt_of_lt_of_le hi h.size) hn).trans (h.block i hi hn)⟩
theorem Fr.of (h : Below w.heap.size w w') : Fr us w w' := ⟨h.os, h.tape, h.output, h.size, fun k hk _ => h.block k hk⟩
theorem Fr.alloc (h : Fr us w w') (o : Obj) : Fr us w (w'.alloc o) := h.trans (Fr.of ((Below.refl _ _).new o))
theorem Fr.drew (h : Fr us w w') : Fr us w w'.drew := h.trans (Fr.of (Below.refl _ _).drew)
theorem Fr.set (h : Fr us w w') {g k : Nat} (hg : g ∈ us) (v : Value) : Fr us w (w'.setCell ⟨g, k, none⟩ v) :=
  h.trans ⟨rfl, rfl, rfl, by simp [World.setCell], fun i _ hn => Below.heap_setCell _ _ _ _ (fun e => hn (by rw [show i = g from e]; exact hg))⟩
theorem Fr.sub {vs : List Nat} (h : Fr us w w') (hs : ∀ k ∈ us, k ∈ vs) : Fr vs w w' := ⟨h.os, h.tape, h.output, h.size, fun k hk hn => h.block k hk fun e => hn (hs k e)⟩
/-- what lies below all of them is as it was -/
theorem Fr.below (h : Fr us w w') {B : Nat} (hB : B ≤ w.heap.size) (hu : ∀ k ∈ us, B ≤ k) : Below B w w' :=
  ⟨h.os, h.tape, h.output, h.size, fun k hk => h.block k (by omega) fun e => by have := hu k e; omega⟩
/-- blocks that are newer than the first world don't count -/
theorem Fr.fresh {vs : List Nat} (h : Fr (vs ++ us) w w') (hv : ∀ k ∈ vs, w.heap.size ≤ k) : Fr us w w' :=
  ⟨h.os, h.tape, h.output, h.size, fun k hk hn => h.block k hk fun e => by
    rcases List.mem_append.1 e with e | e
    · have := hv k e; omega
    · exact hn e⟩
end
/-- the world without some blocks -/
def veil (us : List Nat) (w : World) : World := { w with heap := w.heap.mapIdx fun i o => if i ∈ us then .cells #[] 0 else o }
theorem veil_heap {us : List Nat} {w : World} {b : Nat} (h : b ∉ us) : (veil us w).heap[b]? = w.heap[b]? := by
  unfold veil
  rw [Array.getElem?_mapIdx]
  cases hw : w.heap[b]? with
  | none => rfl
  | some o => simp [h]
theorem veil_cell {us : List Nat} {w : World} {b o : Nat} {v : Value} (h : (veil us w).cell? ⟨b, o, none⟩ = some v) : b ∉ us ∧ w.cell? ⟨b, o, none⟩ = some v := by
  by_cases hb : b ∈ us
  · exfalso
    unfold veil at h
    simp only [World.cell?, Array.getElem?_mapIdx] at h
    cases hw : w.heap[b]? with
    | none => rw [hw] at h; simp at h
    | some o => rw [hw] at h; simp [hb] at h
  · refine ⟨hb, ?_⟩
    rwa [World.cell?, veil_heap hb] at h
theorem veil_of {us : List Nat} {w : World} {b o : Nat} {v : Value} (hb : b ∉ us) (h : w.cell? ⟨b, o, none⟩ = some v) : (veil us w).cell? ⟨b, o, none⟩ = some v := by
  rwa [World.cell?, veil_heap hb]
theorem veil_keeps (us : List Nat) (w : World) : Keeps (veil us w) w := fun _ _ _ h => (veil_cell h).2
theorem Fr.keeps {us : List Nat} {w w' : World} (h : Fr us w w') : Keeps (veil us w) (veil us w') := by
  intro b o v hc
  obtain ⟨hb, hc'⟩ := veil_cell hc
  exact veil_of hb ((World.cell?_of_block (w := w) (a := ⟨b, o, none⟩) (h.block b (cell_lt hc') hb)).trans hc')
/-- what is elder than all of them is read without them -/
theorem veil_fresh {w0 w : World} {us : List Nat} (h : Keeps w0 w) (hu : ∀ k ∈ us, w0.heap.size ≤ k) : Keeps w0 (veil us w) := fun b o v hc => by
  have hl := cell_lt hc
  exact veil_of (fun e => by have := hu b e; omega) (h _ _ _ hc)
theorem veil_mono {us vs : List Nat} (w : World) (h : ∀ k ∈ vs, k ∈ us) : Keeps (veil us w) (veil vs w) := fun b o v hc => by
  obtain ⟨hb, hc'⟩ := veil_cell hc
  exact veil_of (fun e => hb (h b e)) hc'

/-- a block of numbers -/
def RowU (w : World) (u : Nat) (U : List Int) : Prop := w.heap[u]? = some (.cells (U.map (Value.int .i64)).toArray 3 (0, 0))
section
variable {us : List Nat} {w w' : World} {u : Nat} {U : List Int}
theorem RowU.lt (h : RowU w u U) : u < w.heap.size := by
  unfold RowU at h
  exact (Array.getElem?_eq_some_iff.1 h).1
theorem RowU.read (h : RowU w u U) {k : Nat} (hk : k < U.length) : w.cell? ⟨u, k, none⟩ = some (.int .i64 U[k]) := by
  rw [cell_of_row w u k _ _ _ h]; simp [hk]
theorem RowU.free (h : RowU w u U) (k : Nat) : w.frozen? ⟨u, k, none⟩ = false := by
  unfold RowU at h
  simp [World.frozen?, h]
theorem RowU.set (h : RowU w u U) (k : Nat) (v : Int) : RowU (w.setCell ⟨u, k, none⟩ (.int .i64 v)) u (U.set k v) := by
  unfold RowU at *
  have hl := (Array.getElem?_eq_some_iff.1 h).1
  simp only [World.setCell, Array.getElem?_modify, if_true, h, Option.map_some]
  simp
theorem RowU.fr (h : RowU w u U) (hf : Fr us w w') (hu : u ∉ us) : RowU w' u U := (hf.block u h.lt hu).trans h
theorem RowU.below (h : RowU w u U) (hb : Below w.heap.size w w') : RowU w' u U := (hb.block u h.lt).trans h
theorem RowU.alloc (h : RowU w u U) (o : Obj) : RowU (w.alloc o) u U := h.below ((Below.refl _ _).new o)
theorem RowU.drew (h : RowU w u U) : RowU w.drew u U := h
theorem RowU.setOther (h : RowU w u U) {g k : Nat} (hg : g ≠ u) (v : Value) : RowU (w.setCell ⟨g, k, none⟩ v) u U := (Below.heap_setCell w ⟨g, k, none⟩ v u (Ne.symm hg)).trans h
end

/-- the places of two terms and their classes, but for what changes -/
structure Cls (z : World) (C u s m : Nat) (l : List Cel) (E : List Int) : Prop where
  cells : ∃ a cap, z.cell? ⟨C, 0, none⟩ = some (.slice a l.length cap) ∧ Row z a cap l
  behind : ∃ a cap, z.cell? ⟨C, 1, none⟩ = some (.slice a E.length cap) ∧ Row z a cap E
  first : z.cell? ⟨C, 2, none⟩ = some (.map (some m))
  up : ∃ cap, l.length ≤ cap ∧ cap ≤ 9223372036854775807 ∧ z.cell? ⟨C, 3, none⟩ = some (.slice (some ⟨u, 0, none⟩) l.length cap)
  size : ∃ cap, l.length ≤ cap ∧ cap ≤ 9223372036854775807 ∧ z.cell? ⟨C, 4, none⟩ = some (.slice (some ⟨s, 0, none⟩) l.length cap)
  us : u ≠ s
theorem Cls.keeps {z z' : World} {C u s m : Nat} {l : List Cel} {E : List Int} (h : Cls z C u s m l E) (hk : Keeps z z') : Cls z' C u s m l E := by
  obtain ⟨⟨a, ca, h0, hr⟩, ⟨b, cb, h1, hr1⟩, h2, ⟨c, hc1, hc2, h3⟩, ⟨d, hd1, hd2, h4⟩, h5⟩ := h
  exact ⟨⟨a, ca, hk _ _ _ h0, hr.keeps hk⟩, ⟨b, cb, hk _ _ _ h1, hr1.keeps hk⟩, hk _ _ _ h2, ⟨c, hc1, hc2, hk _ _ _ h3⟩, ⟨d, hd1, hd2, hk _ _ _ h4⟩, h5⟩

/-! ### the forest of the places -/
/-- r: the place that stands for the class; d: falls on the way there -/
structure Roots (n : Nat) (U : List Int) (r d : Nat → Nat) : Prop where
  len : U.length = n
  up : ∀ x, x < n → ∃ y : Nat, U[x]? = some (y : Int) ∧ y < n ∧ r y = r x ∧ (y ≠ x → d y < d x) ∧ (y = x → r x = x)
  lt : ∀ x, x < n → r x < n
  top : ∀ x, x < n → U[r x]? = some (r x : Int)
section
variable {n : Nat} {U : List Int} {r d : Nat → Nat}
theorem Roots.halve (h : Roots n U r d) {x y z : Nat} (hx : x < n) (hy : U[x]? = some (y : Int)) (hne : y ≠ x) (hz : U[y]? = some (z : Int)) : Roots n (U.set x (z : Int)) r d := by
  obtain ⟨y', e1, hy1, hy2, hy3, _⟩ := h.up x hx
  rw [hy] at e1
  obtain rfl : y = y' := by injection e1 with e1; omega
  obtain ⟨z', e2, hz1, hz2, hz3, _⟩ := h.up y hy1
  rw [hz] at e2
  obtain rfl : z = z' := by injection e2 with e2; omega
  have hdy := hy3 hne
  have hdz : d z < d x := by
    by_cases e : z = y
    · rw [e]; exact hdy
    · have := hz3 e; omega
  have hxl : x < U.length := by rw [h.len]; exact hx
  refine ⟨by rw [List.length_set]; exact h.len, fun q hq => ?_, h.lt, fun q hq => ?_⟩
  · by_cases e : x = q
    · subst e
      refine ⟨z, by rw [List.getElem?_set_self hxl], hz1, hz2.trans hy2, fun _ => hdz, fun e => ?_⟩
      rw [e] at hdz; omega
    · rw [List.getElem?_set_ne e]; exact h.up q hq
  · by_cases e : x = r q
    · exfalso
      have h1 := h.top q hq
      rw [← e, hy] at h1
      injection h1 with h1
      omega
    · rw [List.getElem?_set_ne e]; exact h.top q hq
end
end Go.Proofs.YtmmnfkggfnokjaaGreat
namespace Go.Proofs.YtmmnfkggfnokjaaGreat
open Go.RowKit

theorem Cls.up_at {w : World} {C u s m : Nat} {l : List Cel} {E : List Int} {us : List Nat} (h : Cls (veil us w) C u s m l E) :
    ∃ cap, l.length ≤ cap ∧ cap ≤ 9223372036854775807 ∧ w.cell? ⟨C, 3, none⟩ = some (.slice (some ⟨u, 0, none⟩) l.length cap) :=
  let ⟨cap, h1, h2, h3⟩ := h.up; ⟨cap, h1, h2, (veil_cell h3).2⟩

end Go.Proofs.YtmmnfkggfnokjaaGreat
namespace Go.Proofs.YtmmnfkggfnokjaaGreat
open Go.RowKit

set_option maxHeartbeats 400000 in
theorem uarguments_any (w : World) (c : Cel) :
    Calls Tryz.prog 86 #[.agg #[.int .i64 c.k, .string c.s, .int .i64 c.n]] w fun e w' => e = .returned (.int .i64 (arI c)) ∧ Below w.heap.size w w' := by
  have hb := ((Below.refl w.heap.size w).new (.cells #[.int .i64 c.k, .string c.s, .int .i64 c.n] 42))
  by_cases h : c.k = 3
  · have t1 : (c.k != 3) = false := by simp [h]
    have HE : Hid (c.n = arI c) := by unfold arI; rw [if_pos h]; rfl
    clear h
    go_enter Tryz.func86, Tryz.ntmps86
    go_wp2
    go_ret
    exact ⟨ret_int HE.out, hb⟩
  · have t1 : (c.k != 3) = true := by simp [h]
    have HE : Hid (0 = arI c) := by unfold arI; rw [if_neg h]; rfl
    clear h
    go_enter Tryz.func86, Tryz.ntmps86
    go_wp2
    go_ret
    exact ⟨ret_int HE.out, hb⟩
/-- does a cell give way to another one? -/
def yieldsB (c t : Cel) : Bool := decide (c.k = 1) && (!decide (t.k = 1) || decide (t.n < c.n))
/-! ### rows of right terms: each place begins one -/
theorem sk_good : ∀ (l : List Cel) (m : Nat) (r : List Cel), sk m l = some r → ∀ i, i + r.length < l.length → ∃ q, sk 1 (l.drop i) = some q
  | [], m, r, _, i, hi => by simp at hi
  | c :: l, 0, r, h, i, hi => by
    simp [sk] at h; subst h; omega
  | c :: l, m + 1, r, h, i, hi => by
    simp only [sk] at h
    split at h
    · next hc =>
      cases i with
      | zero =>
        rw [Nat.add_comm, sk_add] at h
        cases h2 : sk (ar c) l with
        | none => rw [h2] at h; simp at h
        | some q => exact ⟨q, by simp [sk, hc, h2]⟩
      | succ i => exact sk_good l _ r h i (by simp at hi; omega)
    · cases h
end Go.Proofs.YtmmnfkggfnokjaaGreat
namespace Go.Proofs.YtmmnfkggfnokjaaGreat
open Go.RowKit

theorem made_ints (n : Nat) : madeCells (Value.int .i64 0).cells n = Array.replicate n (Value.int .i64 0) := by
  unfold madeCells
  simp only [Value.cells]
  apply Array.ext
  · simp
  · intro i h1 h2
    simp [Nat.mod_one]
/-- make of a slice of numbers -/
theorem wpList_make_ints {P : Program} (w : World) {ops : Array Oper} {rest : List Oper} {o : Oper} {a : Act} {Q : Exit → Act → World → Prop}
    (hg : o.guard = none) (l c : Operand) (t : TypeId) (hop : o.op = Op.makeSlice t l c)
    (e : TypeId) (h1 : P.underlying t = some (.slice e)) (h2 : (P.info? e).map (fun i => (i.zero, i.size, i.bytes)) = some (some (.int .i64 0), 1, 8))
    (n : Nat) (hl : a.eval l = .int .i64 n) (hc : a.eval c = .int .i64 n) (hn : n ≤ 1000000)
    (hK : wpList P ops Q rest (a.put o.dst (.slice (some ⟨w.heap.size, 0, none⟩) n n)) (w.alloc (.cells (Array.replicate n (Value.int .i64 0)) e))) :
    wpList P ops Q (o :: rest) a w := by
  obtain ⟨i, hi, hz0, hz1, hz2⟩ := info_parts h2
  refine wpList_plain hg fun K hK' => ?_
  have hrun := run_make (P := P) w t e i _ h1 hi hz0 .i64 .i64 n n (by omega) (Int.le_refl _) (by rw [hz2]; omega) (by omega)
  rw [hz1, Nat.mul_one, Int.toNat_natCast, made_ints] at hrun
  unfold Oper.wp
  simp [execOp, hop, hl, hc, hrun, Result.andThen]
  exact hK' _ _ hK
theorem RowU.made (w : World) (n : Nat) : RowU (w.alloc (.cells (Array.replicate n (Value.int .i64 0)) 3)) w.heap.size (List.replicate n 0) := by
  unfold RowU
  rw [heap_alloc_new]
  simp

def Good (l : List Cel) : Prop := ∀ i, i < l.length → ∃ q, sk 1 (l.drop i) = some q
def endsL (l : List Cel) : List Int := (List.range l.length).map (endI l)
theorem endsL_length (l : List Cel) : (endsL l).length = l.length := by simp [endsL]
theorem endsL_get {l : List Cel} {i : Nat} (h : i < (endsL l).length) : (endsL l)[i] = endI l i := by simp [endsL]
theorem end_range {l : List Cel} (hG : Good l) {i : Nat} (hi : i < l.length) : (i : Int) + 1 ≤ endI l i ∧ endI l i ≤ l.length := by
  obtain ⟨q, hq⟩ := hG i hi
  obtain ⟨h1, _⟩ := sk_at (Nat.le_of_lt hi) hq
  have h2 := sk_pos (m := 0) hq
  rw [List.length_drop] at h2
  unfold endI; rw [hq]
  show _ ≤ (l.length : Int) - (q.length : Int) ∧ (l.length : Int) - (q.length : Int) ≤ _
  omega
theorem good_cell {l : List Cel} (hG : Good l) {i : Nat} (hi : i < l.length) : cellOk l[i] = true ∧ ∃ q, sk (ar l[i]) (l.drop (i + 1)) = some q ∧ endI l i = (l.length : Int) - q.length := by
  obtain ⟨q, hq⟩ := hG i hi
  have h1 := sk_step 0 l i hi
  rw [Nat.zero_add] at h1
  rw [hq] at h1
  by_cases hc : cellOk l[i] = true
  · rw [if_pos hc, Nat.zero_add] at h1
    exact ⟨hc, q, h1.symm, by unfold endI; rw [hq]⟩
  · rw [if_neg hc] at h1; cases h1
/-- behind the first j arguments of the cell at i -/
theorem good_after {l : List Cel} (hG : Good l) {i : Nat} (hi : i < l.length) {j : Nat} (hj : j ≤ ar l[i]) : (i : Int) + 1 ≤ afterI l (i + 1) j ∧ afterI l (i + 1) j ≤ l.length ∧ (j < ar l[i] → afterI l (i + 1) j < l.length) := by
  obtain ⟨_, q, hq, _⟩ := good_cell hG hi
  rw [show ar l[i] = j + (ar l[i] - j) by omega, sk_add] at hq
  cases h : sk j (l.drop (i + 1)) with
  | none => rw [h] at hq; simp at hq
  | some r =>
    rw [h] at hq
    simp only [Option.bind_some] at hq
    obtain ⟨h1, _⟩ := sk_at (by omega) h
    unfold afterI
    rw [h]
    refine ⟨by show _ ≤ (l.length : Int) - (r.length : Int); omega, by show (l.length : Int) - (r.length : Int) ≤ _; omega, fun hlt => ?_⟩
    show (l.length : Int) - (r.length : Int) < _
    have hm : ar l[i] - j = (ar l[i] - j - 1) + 1 := by omega
    rw [hm] at hq
    have := sk_pos hq
    omega
theorem good_end {l : List Cel} (hG : Good l) {i : Nat} (hi : i < l.length) : endI l i = afterI l (i + 1) (ar l[i]) := by
  obtain ⟨_, q, hq, he⟩ := good_cell hG hi
  rw [he]; unfold afterI; rw [hq]
theorem good_next {l : List Cel} (hG : Good l) {i : Nat} (hi : i < l.length) {j : Nat} (hj : j < ar l[i]) : endI l (afterI l (i + 1) j).toNat = afterI l (i + 1) (j + 1) := by
  have h1 := afterI_succ (xs := l) (i := i + 1) (j := j) (by omega)
  have h2 := (good_after hG hi (Nat.le_of_lt hj)).1
  unfold passI at h1
  rw [if_pos (by omega)] at h1
  exact h1
/-- reckoned from the end down to i -/
def EU (l : List Cel) (i : Nat) : List Int := List.replicate i 0 ++ (endsL l).drop i
theorem EU_length {l : List Cel} {i : Nat} (h : i ≤ l.length) : (EU l i).length = l.length := by
  unfold EU; rw [List.length_append, List.length_replicate, List.length_drop, endsL_length]; omega
theorem EU_set {l : List Cel} {i : Nat} (h : i < l.length) : (EU l (i + 1)).set i (endI l i) = EU l i := by
  unfold EU
  have h1 : i < (endsL l).length := by rw [endsL_length]; exact h
  rw [List.drop_eq_getElem_cons h1, endsL_get h1, List.replicate_succ', List.append_assoc, List.set_append_right _ _ (by simp)]
  simp
theorem EU_get {l : List Cel} {i j : Nat} (hi : i ≤ j) (hj : j < l.length) (h : j < (EU l i).length) : (EU l i)[j] = endI l j := by
  unfold EU at h ⊢
  rw [List.getElem_append_right (by simpa using hi)]
  simp only [List.length_replicate, List.getElem_drop]
  rw [endsL_get]
  congr 1; omega
theorem EU_top (l : List Cel) : EU l l.length = List.replicate l.length 0 := by
  unfold EU; rw [List.drop_of_length_le (by rw [endsL_length]; exact Nat.le_refl _), List.append_nil]
theorem EU_zero (l : List Cel) : EU l 0 = endsL l := by unfold EU; simp

set_option maxHeartbeats 1600000 in
theorem ends_any (a : Option Addr) (cap : Nat) (w : World) (l : List Cel) (hr : Row w a cap l) (hG : Good l) (hl : l.length ≤ 1000000) :
    Calls Tryz.prog 78 #[.slice a l.length cap] w fun e w' => ∃ g, e = .returned (.slice (some ⟨g, 0, none⟩) l.length l.length) ∧ w.heap.size ≤ g ∧ RowU w' g (endsL l) ∧ Below w.heap.size w w' := by
  have hm := hr.max
  have hle := hr.le
  have HG := mkHid hG
  clear hG
  have hb0 := (Below.refl w.heap.size w).new (.cells (Array.replicate l.length (Value.int .i64 0)) 3)
  have hu0 : RowU (w.alloc (.cells (Array.replicate l.length (Value.int .i64 0)) 3)) w.heap.size (EU l l.length) := by
    rw [EU_top]; exact RowU.made w _
  have HU0 := mkHid hu0
  clear hu0
  go_enter Tryz.func78, Tryz.ntmps78
  go_wp2_with (refine wpList_make_ints _ rfl _ _ 63 rfl 3 Tryz.underlying63 Tryz.infoInt l.length (by rfl) (by rfl) hl ?_)
  go_loopw [4, 5] (fun v nx wr => ∃ i : Nat, i ≤ l.length ∧ v = .int .i64 ((i : Int) - 1) ∧ Hid (RowU wr w.heap.size (EU l i)) ∧ Below w.heap.size w wr) (fun v nx wr => (intOf v + 1).toNat)
  case atStart => exact ⟨l.length, Nat.le_refl _, by go_num, HU0, hb0⟩
  case round =>
    obtain ⟨i, hi, rfl, HU, hbl⟩ := hrel
    by_cases h0 : i = 0
    · subst h0
      have HE : Hid (RowU wr w.heap.size (endsL l)) := by rw [Hid, ← EU_zero]; exact HU.out
      go_wp2
      go_ret
      exact ⟨w.heap.size, rfl, Nat.le_refl _, HE.out, hbl⟩
    · obtain ⟨p, rfl⟩ : ∃ p, i = p + 1 := ⟨i - 1, by omega⟩
      have hlt : p < l.length := by omega
      have hp0 : (0 : Int) ≤ (p : Int) := by omega
      have hp1 : (p : Int) < (l.length : Int) := by omega
      rw [show ((p + 1 : Nat) : Int) - 1 = (p : Int) by omega]
      obtain ⟨b, off, rfl, hb, hat⟩ := hr.cases.resolve_left (fun e => by simp [e] at hlt)
      obtain ⟨c0, c1, c2, hf⟩ := cel_at hat hbl hlt
      obtain ⟨hcok, _⟩ := good_cell HG.out hlt
      have HA := mkHid (arI_ar hcok)
      have har6 := ar_le _ hcok
      clear hcok
      go_wp2_with (go_at_call 86; refine (uarguments_any _ l[p]).mono ?_; rintro e w2 ⟨rfl, hb2⟩; rw [HA.out])
      have hbl2 := hbl.then hb2
      have HU2 := mkHid (HU.out.below hb2)
      clear c0 c1 c2
      go_loopw [5, 23] (fun nx j wz => ∃ k : Nat, k ≤ ar l[p] ∧ j = .int .i64 k ∧ nx = .int .i64 (afterI l (p + 1) k) ∧ Below w2.heap.size w2 wz) (fun nx j wz => ar l[p] - (intOf j).toNat)
      case atStart => exact ⟨0, Nat.zero_le _, rfl, by rw [afterI_zero (by omega)]; go_num, Below.refl _ _⟩
      case round =>
        obtain ⟨k, hk, rfl, rfl, hbz⟩ := hrel
        obtain ⟨q1, q2, q3⟩ := good_after HG.out hlt hk
        by_cases hlk : k < ar l[p]
        · have q4 := q3 hlk
          obtain ⟨n, hn⟩ : ∃ n : Nat, afterI l (p + 1) k = (n : Int) := ⟨(afterI l (p + 1) k).toNat, by omega⟩
          have HN : Hid ((endI l n : Int) = afterI l (p + 1) (k + 1)) := by
            rw [Hid, ← good_next HG.out hlt hlk, hn]; rfl
          rw [hn] at q1 q2 q4 ⊢
          have hnl : n < (EU l (p + 1)).length := by rw [EU_length (by omega)]; omega
          have d0 := ((HU2.out.below hbz)).read hnl
          rw [EU_get (by omega) (by omega) hnl] at d0
          obtain ⟨e1, e2⟩ := end_range HG.out (i := n) (by omega)
          clear hn q3
          go_wp2
          go_round
          case rel => exact ⟨k + 1, by omega, by go_num, by rw [HN.out], hbz⟩
          case measure => simp [intOf]; omega
        · have HN : Hid (afterI l (p + 1) k = endI l p) := by
            rw [Hid, good_end HG.out hlt, show k = ar l[p] by omega]
          obtain ⟨e1, e2⟩ := end_range HG.out hlt
          have HUz := mkHid (HU2.out.below hbz)
          have HUs : Hid (RowU (wr.setCell ⟨w.heap.size, p, none⟩ (.int .i64 (endI l p))) w.heap.size (EU l p)) := by
            rw [Hid, ← EU_set hlt]; exact HUz.out.set p _
          have hbs := (hbl2.then hbz).setCell (p := ⟨w.heap.size, p, none⟩) (Nat.le_refl _) (.int .i64 (endI l p))
          have hpl : p < (EU l (p + 1)).length := by rw [EU_length (by omega)]; omega
          have d0 := HUz.out.read hpl
          have d1 := HUz.out.free p
          rw [HN.out] at q1 q2 q3 ⊢
          clear q3
          generalize (EU l (p + 1))[p] = old at d0
          go_wp2
          go_round
          case rel => exact ⟨p, by omega, by go_num, HUs, hbs⟩
          case measure => simp [intOf]
end Go.Proofs.YtmmnfkggfnokjaaGreat
namespace Go.Proofs.YtmmnfkggfnokjaaGreat
open Go.RowKit

/-- how a value reads that is held as it stands -/
def heldElem (v : Value) : Option (DataW Value × List MemPlace) := some (.held v, [])
/-- block b of w is a map from int to values of at most n entries -/
structure MapV (P : Program) (k : TypeId) (w : World) (b n : Nat) (f : Int → Option Value) : Prop where
  ex : ∃ D : DataW Value, w.ownsMap P k heldElem b n D ∧ ∀ i, (Lit.int .i64 i).wf = true → Go.Maps.has D (.int .i64 i) = (f i).isSome ∧ ∀ z, D.atKey (.int .i64 i) (.held z) = .held ((f i).getD z)
section
variable {P : Program} {k e t : TypeId} {w w' : World} {b n : Nat} {f : Int → Option Value}
theorem MapV.made (P : Program) (k : TypeId) (w : World) : MapV P k (w.alloc (.map #[] 0)) w.heap.size 0 (fun _ => none) :=
  ⟨.map [], World.ownsMap_made w P k _, fun _ _ => ⟨rfl, fun _ => rfl⟩⟩
theorem MapV.lt (h : MapV P k w b n f) : b < w.heap.size := let ⟨_, h, _⟩ := h.ex; h.lt
theorem MapV.kept {row : Option Nat} (h : MapV P k w b n f) (hg : w.grownBy w' row) (hne : some b ≠ row) : MapV P k w' b n f :=
  let ⟨D, h, hf⟩ := h.ex; ⟨D, h.kept hg hne, hf⟩
theorem MapV.below (h : MapV P k w b n f) (hb : Below w.heap.size w w') : MapV P k w' b n f :=
  h.kept (row := none) ⟨hb.os, hb.tape, hb.output, hb.size, fun k hk _ => hb.block k hk⟩ (by simp)
theorem MapV.alloc (h : MapV P k w b n f) (o : Obj) : MapV P k (w.alloc o) b n f := let ⟨D, h, hf⟩ := h.ex; ⟨D, h.alloc o, hf⟩
theorem MapV.mono {m : Nat} (h : MapV P k w b n f) (hm : n ≤ m) : MapV P k w b m f := let ⟨D, h, hf⟩ := h.ex; ⟨D, h.mono hm, hf⟩
theorem MapV.put_at {D : DataW Value} (hD : Go.Maps.IsMap D) (hf : ∀ i, (Lit.int .i64 i).wf = true → Go.Maps.has D (.int .i64 i) = (f i).isSome ∧ ∀ z, D.atKey (.int .i64 i) (.held z) = .held ((f i).getD z)) (i : Int) (x : Value) :
    ∀ j, (Lit.int .i64 j).wf = true → Go.Maps.has (D.put (.int .i64 i) (.held x)) (.int .i64 j) = (if j = i then some x else f j).isSome ∧ ∀ z, (D.put (.int .i64 i) (.held x)).atKey (.int .i64 j) (.held z) = .held ((if j = i then some x else f j).getD z) := by
  intro j hj
  by_cases e : j = i
  · subst e
    rw [if_pos rfl]
    exact ⟨Go.Maps.has_put_same hD (by simp [WideAt.IsKeyLit]) _, fun z => Go.Maps.atKey_put_same hD (by simp [WideAt.IsKeyLit]) _ _⟩
  · rw [if_neg e]
    obtain ⟨h1, h2⟩ := hf j hj
    exact ⟨by rw [← h1]; exact Go.Maps.has_put_other (by simp; exact e) _, fun z => by rw [← h2 z]; exact Go.Maps.atKey_put_other (by simp; exact e) _ _⟩
theorem MapV.run_ok (h : MapV P k w b n f) (hk : P.underlying k = some (.int .i64)) (ht : P.underlying t = some (.map k e)) {z : Value} (hz : (zeroValue e).run P w = .ok z w)
    {i : Int} (hi : (Lit.int .i64 i).wf = true) : (Instr.lookup t (.map (some b)) (.int .i64 i) true).run P w = .ok (.tuple #[(f i).getD z, .bool (f i).isSome]) w := by
  obtain ⟨D, h, hf⟩ := h.ex
  obtain ⟨v, ps, hrun, hv⟩ := h.look_ok (Go.Maps.int_keyed hk) ht hz (zd := .held z) (zp := []) rfl (Go.Maps.keyOf_int_mk hk hi)
  rw [(hf i hi).1] at hrun
  rw [(hf i hi).2 z] at hv
  unfold heldElem at hv
  simp at hv
  rw [hrun, hv.1]
theorem MapV.run_look (h : MapV P k w b n f) (hk : P.underlying k = some (.int .i64)) (ht : P.underlying t = some (.map k e)) {z : Value} (hz : (zeroValue e).run P w = .ok z w)
    {i : Int} (hi : (Lit.int .i64 i).wf = true) : (Instr.lookup t (.map (some b)) (.int .i64 i) false).run P w = .ok ((f i).getD z) w := by
  obtain ⟨D, h, hf⟩ := h.ex
  obtain ⟨v, ps, hrun, hv⟩ := h.lookup (Go.Maps.int_keyed hk) ht hz (zd := .held z) (zp := []) rfl (Go.Maps.keyOf_int_mk hk hi)
  rw [(hf i hi).2 z] at hv
  unfold heldElem at hv
  simp at hv
  rw [hrun, hv.1]
theorem MapV.wpl_ok {ops : Array Oper} {rest : List Oper} {o : Oper} {a : Act} {Q : Exit → Act → World → Prop}
    (hg : o.guard = none) (m x : Operand) (hop : o.op = Op.lookup t m x true)
    (hk : P.underlying k = some (.int .i64)) (ht : P.underlying t = some (.map k e)) {z : Value} (hz : (zeroValue e).run P w = .ok z w)
    (hm : a.eval m = .map (some b)) (h : MapV P k w b n f) (i : Int) (hx : a.eval x = .int .i64 i) (hi : (Lit.int .i64 i).wf = true)
    (hK : wpList P ops Q rest (a.put o.dst (.tuple #[(f i).getD z, .bool (f i).isSome])) w) :
    wpList P ops Q (o :: rest) a w := by
  refine wpList_plain hg fun K' hK' => ?_
  unfold Oper.wp
  simp only [execOp, hop, hm, hx, Sem.run_bind, h.run_ok hk ht hz hi, Result.andThen_ok, Sem.run_pure]
  exact hK' _ _ hK
theorem MapV.wpl_look {ops : Array Oper} {rest : List Oper} {o : Oper} {a : Act} {Q : Exit → Act → World → Prop}
    (hg : o.guard = none) (m x : Operand) (hop : o.op = Op.lookup t m x false)
    (hk : P.underlying k = some (.int .i64)) (ht : P.underlying t = some (.map k e)) {z : Value} (hz : (zeroValue e).run P w = .ok z w)
    (hm : a.eval m = .map (some b)) (h : MapV P k w b n f) (i : Int) (hx : a.eval x = .int .i64 i) (hi : (Lit.int .i64 i).wf = true)
    (hK : wpList P ops Q rest (a.put o.dst ((f i).getD z)) w) :
    wpList P ops Q (o :: rest) a w := by
  refine wpList_plain hg fun K' hK' => ?_
  unfold Oper.wp
  simp only [execOp, hop, hm, hx, Sem.run_bind, h.run_look hk ht hz hi, Result.andThen_ok, Sem.run_pure]
  exact hK' _ _ hK
theorem MapV.wpl_update {ops : Array Oper} {rest : List Oper} {o : Oper} {a : Act} {Q : Exit → Act → World → Prop}
    (hg : o.guard = none) (m x y : Operand) (hop : o.op = Op.mapUpdate t m x y)
    (hk : P.underlying k = some (.int .i64)) (ht : P.underlying t = some (.map k e))
    (hm : a.eval m = .map (some b)) (h : MapV P k w b n f) (hn : n < 9223372036854775807) (i : Int) (hx : a.eval x = .int .i64 i) (hi : (Lit.int .i64 i).wf = true) (z : Value) (hy : a.eval y = z)
    (hK : ∀ w', MapV P k w' b (n + 1) (fun j => if j = i then some z else f j) → w.grownBy w' (some b) → wpList P ops Q rest (a.put o.dst undef) w') :
    wpList P ops Q (o :: rest) a w := by
  obtain ⟨D, h, hf⟩ := h.ex
  refine wpList_mapUpdate_own w hg m x y t hop k e (Go.Maps.int_keyed hk) ht _ b n D hm h (by unfold maxLen; omega) _ _ _ hx hy (Go.Maps.keyOf_int_mk hk hi) (.held z) [] rfl ?_
  intro w' h' hg'
  exact hK w' ⟨_, h', MapV.put_at h.isMap hf i z⟩ hg'
end
end Go.Proofs.YtmmnfkggfnokjaaGreat
namespace Go.Proofs.YtmmnfkggfnokjaaGreat
open Go.RowKit

theorem Tryz.zeroCells2 (w : World) : (zeroValue 23).run Tryz.prog w = .ok (.slice none 0 0) w := by kernel_rfl
theorem right_sk2 {xs : List Cel} (h : rightB xs = true) : sk 1 xs = some [] := by
  obtain ⟨c, l, rfl, hc, hs, hl⟩ := right_sk h
  have : sk 1 (c :: l) = sk (0 + ar c) l := by simp [sk, hc]
  rw [this, Nat.zero_add]; exact hs
/-! ### what each variable of one term stands for in another one -/
def updF (f : Int → Option (List Cel)) (n : Int) (t : List Cel) : Int → Option (List Cel) := fun i => if i = n then some t else f i
def imgGo : List Cel → List Cel → (Int → Option (List Cel)) → Option (Int → Option (List Cel))
  | [], _, f => some f
  | c :: p, t, f =>
    if c.k = 1 then
      match sk 1 t with
      | none => none
      | some r =>
        if (f c.n).all (fun q => decide (q = t.take (t.length - r.length))) then imgGo p r (updF f c.n (t.take (t.length - r.length))) else none
    else match t with
      | [] => none
      | d :: t' => if c = d then imgGo p t' f else none
/-- the map that images fills -/
structure MapTB (w0 w : World) (m n : Nat) (f : Int → Option (List Cel)) : Prop where
  ex : ∃ (g : Int → Option Value), MapV Tryz.prog 3 w m n g ∧ ∀ i, match f i with
    | none => g i = none
    | some t => ∃ a cap, g i = some (.slice a t.length cap) ∧ Row w0 a cap t
section
variable {w0 w w' : World} {m n : Nat} {f : Int → Option (List Cel)}
theorem MapTB.below (h : MapTB w0 w m n f) (hb : Below w.heap.size w w') : MapTB w0 w' m n f := let ⟨g, h1, h2⟩ := h.ex; ⟨g, h1.below hb, h2⟩
theorem MapTB.look (h : MapTB w0 w m n f) {i : Int} (hi : (Lit.int .i64 i).wf = true) :
    ∃ v, (Instr.lookup 73 (.map (some m)) (.int .i64 i) true).run Tryz.prog w = .ok (.tuple #[v, .bool (f i).isSome]) w ∧ ∀ q, f i = some q → ∃ a cap, v = .slice a q.length cap ∧ Row w0 a cap q := by
  obtain ⟨g, h1, h2⟩ := h.ex
  have h3 := h2 i
  have hr := h1.run_ok (t := 73) (e := 23) Tryz.underlying3 Tryz.underlying73 (Tryz.zeroCells2 w) hi
  cases hf : f i with
  | none =>
    rw [hf] at h3
    rw [h3] at hr
    exact ⟨_, hr, fun q e => by cases e⟩
  | some q =>
    rw [hf] at h3
    obtain ⟨a, cap, e, hrow⟩ := h3
    rw [e] at hr
    exact ⟨_, hr, fun q' e' => by cases e'; exact ⟨a, cap, rfl, hrow⟩⟩
theorem MapTB.upd {g : Int → Option Value} {i : Int} {t : List Cel} {a : Option Addr} {cap : Nat} (h : ∀ i, match f i with
    | none => g i = none
    | some t => ∃ a cap, g i = some (.slice a t.length cap) ∧ Row w0 a cap t) (hr : Row w0 a cap t) (h1 : MapV Tryz.prog 3 w' m n (fun j => if j = i then some (.slice a t.length cap) else g j)) : MapTB w0 w' m n (updF f i t) :=
  ⟨_, h1, fun j => by
    unfold updF
    by_cases e : j = i
    · rw [if_pos e, if_pos e]; exact ⟨a, cap, rfl, hr⟩
    · rw [if_neg e, if_neg e]; exact h j⟩
end
/-- both have as many terms left -/
def Left (p t : List Cel) : Prop := ∃ m, sk m p = some [] ∧ sk m t = some []
theorem left_right {p t : List Cel} (hp : rightB p = true) (ht : rightB t = true) : Left p t := ⟨1, right_sk2 hp, right_sk2 ht⟩
theorem left_var {c : Cel} {p t : List Cel} (h : Left (c :: p) t) (h1 : c.k = 1) : ∃ r, sk 1 t = some r ∧ Left p r := by
  obtain ⟨m, h2, h3⟩ := h
  cases m with
  | zero => simp [sk] at h2
  | succ m =>
    simp only [sk] at h2
    split at h2
    · have : ar c = 0 := by unfold ar; rw [if_neg (by omega)]
      rw [this, Nat.add_zero] at h2
      rw [Nat.add_comm, sk_add] at h3
      cases h4 : sk 1 t with
      | none => rw [h4] at h3; simp at h3
      | some r => rw [h4] at h3; exact ⟨r, rfl, m, h2, h3⟩
    · cases h2
theorem left_cons {c : Cel} {p t : List Cel} (h : Left (c :: p) t) : ∃ d r, t = d :: r ∧ (c = d → Left p r) := by
  obtain ⟨m, h2, h3⟩ := h
  cases m with
  | zero => simp [sk] at h2
  | succ m =>
    cases t with
    | nil => simp [sk] at h3
    | cons d r =>
      refine ⟨d, r, rfl, fun e => ?_⟩
      subst e
      simp only [sk] at h2 h3
      split at h2
      · next hc => rw [if_pos hc] at h3; exact ⟨_, h2, h3⟩
      · cases h2
end Go.Proofs.YtmmnfkggfnokjaaGreat
namespace Go.Proofs.YtmmnfkggfnokjaaGreat
open Go.RowKit

theorem right_good {t : List Cel} (h : rightB t = true) : Good t := fun i hi => sk_good t 1 [] (right_sk2 h) i (by simpa using hi)

theorem same_lit2 {w : World} {a a' : Option Addr} {cap cap' m : Nat} {xs ys : List Cel} {b : Bool} (hm : m = ys.length) (hx : Row w a cap xs) (hy : Row w a' cap' ys) (hb : decide (xs = ys) = b) :
    Calls Tryz.prog 42 #[.slice a xs.length cap, .slice a' m cap'] w fun e w' => e = .returned (.bool b) ∧ Below w.heap.size w w' := by
  subst hm; subst hb; exact same_any a cap a' cap' w xs ys hx hy
theorem RowU.grown {w w' : World} {u : Nat} {U : List Int} {row : Option Nat} (h : RowU w u U) (hg : w.grownBy w' row) (hne : some u ≠ row) : RowU w' u U := (hg.block u h.lt hne).trans h

set_option maxHeartbeats 3200000 in
set_option maxRecDepth 100000 in
theorem images_any (a : Option Addr) (cap : Nat) (a' : Option Addr) (cap' : Nat) (w : World) (p t : List Cel) (hp : Row w a cap p) (ht : Row w a' cap' t) (rp : rightB p = true) (rt : rightB t = true) :
    Calls Tryz.prog 66 #[.slice a p.length cap, .slice a' t.length cap'] w fun e w' => Below w.heap.size w w' ∧ ((imgGo p t (fun _ => none) = none ∧ e = .returned (.tuple #[.map none, .bool false])) ∨ ∃ f m n, imgGo p t (fun _ => none) = some f ∧ e = .returned (.tuple #[.map (some m), .bool true]) ∧ MapTB w w' m n f) := by
  have hm := hp.max
  have hle := hp.le
  have hm2 := ht.max
  have hle2 := ht.le
  have hpl : p.length ≤ 200 := (right_sk rp).elim fun c h => h.elim fun l h => by obtain ⟨rfl, _, _, h⟩ := h; exact h
  have htl : t.length ≤ 200 := (right_sk rt).elim fun c h => h.elim fun l h => by obtain ⟨rfl, _, _, h⟩ := h; exact h
  have HL0 := mkHid (left_right rp rt)
  have HG := mkHid (right_good rt)
  have hmm := @run_makeMap Tryz.prog
  have hm0 : MapTB w (w.alloc (.map #[] 0)) w.heap.size 0 (fun _ => none) := ⟨_, MapV.made Tryz.prog 3 w, fun _ => rfl⟩
  have hb0 := (Below.refl w.heap.size w).new (.map #[] 0)
  clear rp rt
  generalize hI : imgGo p t (fun _ => none) = I
  have HI0 : Hid (I = imgGo (p.drop 0) (t.drop 0) (fun _ => none)) := hI.symm
  clear hI
  go_enter Tryz.func66, Tryz.ntmps66
  go_wp2_with fail
  refine (ends_any a' cap' _ t (ht.below hb0) HG.out (by omega)).mono ?_; rintro e w1 ⟨g, rfl, hg, hE, hb1⟩
  have HE := mkHid hE
  clear hE
  replace hm0 := hm0.below hb1
  replace hb0 := hb0.then hb1
  have hgl := HE.out.lt
  simp only [World.size_alloc] at hg
  go_wp2_with fail
  go_loopw [8, 10, 11, 12, 13, 19] (fun at_ c part met is i wr => ∃ (k j n : Nat) (f : Int → Option (List Cel)), k ≤ p.length ∧ j ≤ t.length ∧ n ≤ k ∧ i = .int .i64 k ∧ at_ = .int .i64 j ∧ MapTB w wr w.heap.size n f ∧ Hid (RowU wr g (endsL t)) ∧ Below w.heap.size w wr ∧ Hid (Left (p.drop k) (t.drop j)) ∧ Hid (I = imgGo (p.drop k) (t.drop j) f)) (fun at_ c part met is i wr => p.length - (intOf i).toNat)
  case atStart => exact ⟨0, 0, 0, _, Nat.zero_le _, Nat.zero_le _, Nat.zero_le _, rfl, rfl, hm0, HE, hb0, HL0, HI0⟩
  case round =>
    clear hm0 hb0
    obtain ⟨k, j, n, f, hk, hj, hn, rfl, rfl, hmap, HU, hbl, HL, HI⟩ := hrel
    by_cases hlt : k < p.length
    · have hdp : p.drop k = p[k] :: p.drop (k + 1) := List.drop_eq_getElem_cons hlt
      have HL1 : Left (p[k] :: p.drop (k + 1)) (t.drop j) := by rw [← hdp]; exact HL.out
      have HI1 : I = imgGo (p[k] :: p.drop (k + 1)) (t.drop j) f := by rw [← hdp]; exact HI.out
      clear hdp HI
      obtain ⟨b, off, rfl, hb, hat⟩ := hp.cases.resolve_left (fun e => by simp [e] at hlt)
      obtain ⟨c0, c1, c2, hf⟩ := cel_at hat hbl hlt
      have hbx := hbl.new (.cells #[.int .i64 p[k].k, .string p[k].s, .int .i64 p[k].n] 42)
      have hmx := hmap.below ((Below.refl _ _).new (.cells #[.int .i64 p[k].k, .string p[k].s, .int .i64 p[k].n] 42))
      have HU1 := mkHid (HU.out.alloc (.cells #[.int .i64 p[k].k, .string p[k].s, .int .i64 p[k].n] 42))
      by_cases h1 : p[k].k = 1
      · have t1 : (p[k].k == 1) = true := by simp [h1]
        obtain ⟨r, hr, HL2⟩ := left_var HL1 h1
        have hjl : j < t.length := by
          rcases Nat.lt_or_ge j t.length with h | h
          · exact h
          · rw [List.drop_of_length_le h] at hr; simp [sk] at hr
        have hj0 : (0 : Int) ≤ (j : Int) := by omega
        have hj1 : (j : Int) < (t.length : Int) := by omega
        obtain ⟨hr1, hr2⟩ := sk_at (Nat.le_of_lt hjl) hr
        have hrp := sk_pos (m := 0) hr
        rw [List.length_drop] at hrp
        have hend : endI t j = ((t.length - r.length : Nat) : Int) := by unfold endI; rw [hr]; simp; omega
        obtain ⟨q, hq⟩ : ∃ q, q = t.length - r.length := ⟨_, rfl⟩
        have hjq : j < q := by omega
        have hql : q ≤ t.length := by omega
        rw [← hq] at hend hr2
        have hpart : (t.drop j).take ((t.drop j).length - r.length) = (t.drop j).take (q - j) := by
          congr 1; rw [List.length_drop]; omega
        have HI2 : I = if (f p[k].n).all (fun z => decide (z = (t.drop j).take (q - j))) then imgGo (p.drop (k + 1)) r (updF f p[k].n ((t.drop j).take (q - j))) else none := by
          rw [HI1]; simp only [imgGo]; rw [if_pos h1, hr]; simp only [hpart]
        rw [← hr2] at HL2 HI2
        obtain ⟨b', off', rfl, hb', hat'⟩ := ht.cases.resolve_left (fun e => by simp [e] at hjl)
        have hpr : Row w (some ⟨b', off' + j * 3, none⟩) (cap' - j) ((t.drop j).take (q - j)) := ht.slice (i := j) (j := q) (by omega) (by omega)
        have hpn : ((t.drop j).take (q - j)).length = q - j := by simp; omega
        have d0 : (wr.alloc (.cells #[.int .i64 p[k].k, .string p[k].s, .int .i64 p[k].n] 42)).cell? ⟨g, j, none⟩ = some (.int .i64 q) := by
          have h := HU1.out.read (k := j) (by rw [endsL_length]; exact hjl)
          rwa [endsL_get, hend] at h
        have hwf : (Lit.int .i64 p[k].n).wf = true := wf64 hf.n1 hf.n2
        obtain ⟨v, hrun, hv⟩ := hmx.look hwf
        obtain ⟨G, hG1, hG2⟩ := hmx.ex
        have e2 : (wr.alloc (.cells #[.int .i64 p[k].k, .string p[k].s, .int .i64 p[k].n] 42)).cell? ⟨wr.heap.size, 2, none⟩ = some (.int .i64 p[k].n) := World.cell?_alloc_at _ _ _ 2 rfl
        have HLz := mkHid HL2
        have HIz := mkHid HI2
        have HPN := mkHid hpn
        have HEN := mkHid hend
        have HPR := mkHid hpr
        have HV := mkHid hv
        have HGG := mkHid hG2
        clear HI1 HL1 HI2 HL2 hpart hr hr1 hr2 hrp hend h1 hq hpn hpr hv hG2
        cases hfn : (f p[k].n).isSome with
        | false =>
          rw [hfn] at hrun
          have HIn : Hid (I = imgGo (p.drop (k + 1)) (t.drop q) (updF f p[k].n ((t.drop j).take (q - j)))) := by
            rw [Hid, HIz.out, if_pos]
            cases hz : f p[k].n with
            | none => rfl
            | some z => rw [hz] at hfn; cases hfn
          clear hfn
          go_wp2_with (at_mapUpdate; refine hG1.wpl_update rfl _ _ _ rfl Tryz.underlying3 Tryz.underlying73 rfl (by omega) p[k].n rfl hwf _ rfl ?_; intro w3 hG3 hg3; have HU3 := mkHid (HU1.out.grown hg3 (fun e => by cases e; omega)); have d3 : w3.cell? ⟨g, j, none⟩ = some (.int .i64 q) := (by have h := HU3.out.read (k := j) (by rw [endsL_length]; exact hjl); rwa [endsL_get, HEN.out] at h); have hb3 := hbx.trans ((Below.refl w.heap.size _).grown hg3 hbx.size (fun j hj => by cases hj; exact Nat.le_refl _)))
          go_round
          case rel => exact ⟨k + 1, q, n + 1, _, by omega, by omega, by omega, by go_num, by go_num, MapTB.upd HGG.out HPR.out (by rw [HPN.out]; exact hG3), HU3, hb3, HLz, HIn⟩
          case measure => simp [intOf]; omega
        | true =>
          rw [hfn] at hrun
          obtain ⟨z, hz⟩ := Option.isSome_iff_exists.1 hfn
          obtain ⟨az, capz, rfl, hzr⟩ := HV.out z hz
          by_cases he : z = (t.drop j).take (q - j)
          · have HIn : Hid (I = imgGo (p.drop (k + 1)) (t.drop q) (updF f p[k].n ((t.drop j).take (q - j)))) := by
              rw [Hid, HIz.out, if_pos]
              rw [hz]; simp [he]
            have HD : Hid (decide (z = (t.drop j).take (q - j)) = true) := decide_eq_true he
            have hbx1 := hbx
            clear hfn hz he
            go_wp2_with (first
              | (go_at_call 42; refine (same_lit2 HPN.out.symm (hzr.below hbx) (HPR.out.below hbx) HD.out).mono ?_; rintro e w2 ⟨rfl, hb2⟩; have e3 := keep e2 hb2; have HU2 := mkHid (HU1.out.below hb2); have hmx2 := hmx.below hb2; obtain ⟨G2, hG12, hG22⟩ := hmx2.ex; have hbx2 := hbx.then hb2; clear e2)
              | (at_mapUpdate; refine hG12.wpl_update rfl _ _ _ rfl Tryz.underlying3 Tryz.underlying73 rfl (by omega) p[k].n rfl hwf _ rfl ?_; intro w3 hG3 hg3; have HU3 := mkHid (HU2.out.grown hg3 (fun e => by cases e; omega)); have d3 : w3.cell? ⟨g, j, none⟩ = some (.int .i64 q) := (by have h := HU3.out.read (k := j) (by rw [endsL_length]; exact hjl); rwa [endsL_get, HEN.out] at h); have hb3 := hbx2.trans ((Below.refl w.heap.size _).grown hg3 hbx2.size (fun j hj => by cases hj; exact Nat.le_refl _))))
            go_round
            case rel => exact ⟨k + 1, q, n + 1, _, by omega, by omega, by omega, by go_num, by go_num, MapTB.upd hG22 HPR.out (by rw [HPN.out]; exact hG3), HU3, hb3, HLz, HIn⟩
            case measure => simp [intOf]; omega
          · have HIn : Hid (I = none) := by
              rw [Hid, HIz.out, if_neg]
              rw [hz]; simp [he]
            have HD : Hid (decide (z = (t.drop j).take (q - j)) = false) := decide_eq_false he
            clear hfn hz he
            go_wp2_with (go_at_call 42; refine (same_lit2 HPN.out.symm (hzr.below hbx) (HPR.out.below hbx) HD.out).mono ?_; rintro e w2 ⟨rfl, hb2⟩)
            go_ret2
            exact ⟨hbx.then hb2, .inl ⟨HIn.out, rfl⟩⟩
      · have t1 : (p[k].k == 1) = false := by simp [h1]
        obtain ⟨d, r, hd, hL⟩ := left_cons HL1
        have hjl : j < t.length := by
          rcases Nat.lt_or_ge j t.length with h | h
          · exact h
          · rw [List.drop_of_length_le h] at hd; cases hd
        have hdt : t.drop j = t[j] :: t.drop (j + 1) := List.drop_eq_getElem_cons hjl
        rw [hdt] at hd HI1
        obtain ⟨rfl, rfl⟩ := List.cons.inj hd
        have hj0 : (0 : Int) ≤ (j : Int) := by omega
        have hj1 : (j : Int) < (t.length : Int) := by omega
        obtain ⟨b', off', rfl, hb', hat'⟩ := ht.cases.resolve_left (fun e => by simp [e] at hjl)
        obtain ⟨d0, d1, d2, hf2⟩ := cel_at hat' hbx hjl
        have e0 : (wr.alloc (.cells #[.int .i64 p[k].k, .string p[k].s, .int .i64 p[k].n] 42)).cell? ⟨wr.heap.size, 0, none⟩ = some (.int .i64 p[k].k) := World.cell?_alloc_at _ _ _ 0 rfl
        have e1 : (wr.alloc (.cells #[.int .i64 p[k].k, .string p[k].s, .int .i64 p[k].n] 42)).cell? ⟨wr.heap.size, 1, none⟩ = some (.string p[k].s) := World.cell?_alloc_at _ _ _ 1 rfl
        have e2 : (wr.alloc (.cells #[.int .i64 p[k].k, .string p[k].s, .int .i64 p[k].n] 42)).cell? ⟨wr.heap.size, 2, none⟩ = some (.int .i64 p[k].n) := World.cell?_alloc_at _ _ _ 2 rfl
        have HI2 : I = if p[k] = t[j] then imgGo (p.drop (k + 1)) (t.drop (j + 1)) f else none := by
          rw [HI1]; simp only [imgGo]; rw [if_neg h1]
        clear HI1 HL1 hd hdt h1
        by_cases he : p[k] = t[j]
        · have HLz := mkHid (hL he)
          have HIz : Hid (I = imgGo (p.drop (k + 1)) (t.drop (j + 1)) f) := by rw [Hid, HI2, if_pos he]
          have hdc : decide (p[k] = t[j]) = true := decide_eq_true he
          have hne := fun w => run_neq_cel p[k] t[j] w
          rw [hdc] at hne
          clear he hdc HI2 hL
          go_wp2
          go_quiet (fail)
          go_wp2
          go_round
          case rel => exact ⟨k + 1, j + 1, n, f, by omega, by omega, by omega, by go_num, by go_num, hmx.below ⟨rfl, rfl, rfl, Nat.le_refl _, fun _ _ => rfl⟩, HU1, ⟨hbx.os, hbx.tape, hbx.output, hbx.size, hbx.block⟩, HLz, HIz⟩
          case measure => simp [intOf]; omega
        · have HIz : Hid (I = none) := by rw [Hid, HI2, if_neg he]
          have hdc : decide (p[k] = t[j]) = false := decide_eq_false he
          have hne := fun w => run_neq_cel p[k] t[j] w
          rw [hdc] at hne
          clear he hdc HI2 hL
          go_wp2
          go_quiet (fail)
          go_wp2
          go_ret2
          exact ⟨⟨hbx.os, hbx.tape, hbx.output, hbx.size, hbx.block⟩, .inl ⟨HIz.out, rfl⟩⟩
    · have hd : p.drop k = [] := List.drop_of_length_le (by omega)
      have HF : Hid (I = some f) := by rw [Hid, HI.out, hd]; rfl
      clear hd HI HL
      go_wp2
      go_ret2
      exact ⟨hbl, .inr ⟨f, _, n, HF.out, rfl, hmap⟩⟩
end Go.Proofs.YtmmnfkggfnokjaaGreat
namespace Go.Proofs.YtmmnfkggfnokjaaGreat
open Go.RowKit

/-- what stands for a variable -/
structure Bnd where
  v : Int
  t : List Cel
  deriving DecidableEq
structure BndE (w : World) (b o : Nat) (x : Bnd) : Prop where
  ex : ∃ a cap, w.cell? ⟨b, o, none⟩ = some (.int .i64 x.v) ∧ w.cell? ⟨b, o + 1, none⟩ = some (.slice a x.t.length cap) ∧ Row w a cap x.t
  lo : -9223372036854775808 ≤ x.v
  hi : x.v ≤ 9223372036854775807
instance : RepC Bnd where
  sz := 2
  E := BndE
  mono h hb := let ⟨a, cap, h0, h1, hr⟩ := h.ex; ⟨⟨a, cap, hb _ _ _ h0, hb _ _ _ h1, hr.keeps hb⟩, h.lo, h.hi⟩
  lt h := let ⟨_, _, h0, _⟩ := h.ex; cell_lt h0
  C w cs x := (∃ a cap, cs = [.int .i64 x.v, .slice a x.t.length cap] ∧ Row w a cap x.t) ∧ -9223372036854775808 ≤ x.v ∧ x.v ≤ 9223372036854775807
  len := by rintro w cs x ⟨⟨a, cap, rfl, _⟩, _⟩; rfl
  one := by rintro w cs x ⟨⟨a, cap, rfl, _⟩, _⟩ u hu; simp at hu; rcases hu with rfl | rfl <;> rfl
  cmono := by rintro w w' cs x ⟨⟨a, cap, rfl, h⟩, h2⟩ hk; exact ⟨⟨a, cap, rfl, h.keeps hk⟩, h2⟩
  toE := by
    rintro w cs x b o ⟨⟨a, cap, rfl, h⟩, h2, h3⟩ hat
    exact ⟨⟨a, cap, hat 0 _ rfl, hat 1 _ rfl, h⟩, h2, h3⟩
  ofE := by
    rintro w x b o ⟨⟨a, cap, h0, h1, h⟩, h2, h3⟩
    refine ⟨_, ⟨⟨a, cap, rfl, h⟩, h2, h3⟩, fun j u hj => ?_⟩
    match j with
    | 0 => simp at hj; subst hj; exact h0
    | 1 => simp at hj; subst hj; exact h1
    | j + 2 => simp at hj
  pos := by decide
theorem bnd_at {w wr : World} {b off : Nat} {xs : List Bnd} (hat : ∀ i (hi : i < xs.length), Rep.E w b (off + i * Rep.sz Bnd) xs[i]) (hb : Below w.heap.size w wr) {k : Nat} (hk : k < xs.length) :
    ∃ a cap, wr.cell? ⟨b, off + k * 2, none⟩ = some (.int .i64 xs[k].v) ∧ wr.cell? ⟨b, off + k * 2 + 1, none⟩ = some (.slice a xs[k].t.length cap) ∧ Row wr a cap xs[k].t ∧ -9223372036854775808 ≤ xs[k].v ∧ xs[k].v ≤ 9223372036854775807 := by
  have h : BndE w b (off + k * 2) xs[k] := hat k hk
  obtain ⟨a, cap, h0, h1, hr⟩ := h.ex
  exact ⟨a, cap, keep h0 hb, keep h1 hb, hr.below hb, h.lo, h.hi⟩

/-! ### plain mathematics -/
def varC (n : Int) : Cel := ⟨1, ⟨#[]⟩, n⟩
/-- the program's own word: just its own variable -/
def ownB (b : Bnd) : Bool := decide (b.t = [varC b.v])
/-- the document's -/
def ownR (v : Int) : List Cel → Bool
  | [c] => c.k == 1 && c.n == v
  | _ => false
def placeB (s : List Bnd) (n : Int) : Int := match s.findIdx? (fun b => decide (b.v = n)) with
  | some i => i
  | none => -1
def look (s : List Bnd) (n : Int) : Option (List Cel) := (s.find? fun b => decide (b.v = n)).map Bnd.t
/-- right from a least variable on -/
def rightG : Int → List Bnd → Bool
  | _, [] => true
  | m, b :: s => decide (m ≤ b.v) && decide (b.v ≤ 999) && rightB b.t && !ownB b && rightG (b.v + 1) s
def rightS (s : List Bnd) : Bool := rightG 0 s
def fewB (s : List Bnd) : Bool := s.all (fun b => decide (b.t.length ≤ 300)) && decide (s.length ≤ 30)
def idemB (s : List Bnd) : Bool := s.all fun b => b.t.all fun c => !(c.k == 1 && (look s c.n).isSome)

theorem cellOk_var {c : Cel} (h : cellOk c = true) (h1 : c.k = 1) : c = varC c.n := by
  obtain ⟨k, s, n⟩ := c
  dsimp only at h1
  subst h1
  simp [cellOk] at h
  have : s = ⟨#[]⟩ := (toList_inj s ⟨#[]⟩).1 (by rw [h.1.1]; simp)
  rw [this]; rfl

/-! scans -/
section
variable {α : Type} {xs : List α} {p : α → Bool} {k : Nat}
theorem scan_next (h : (xs.take k).all p = true) (hk : k < xs.length) (hp : p xs[k] = true) : (xs.take (k + 1)).all p = true := by
  rw [List.take_succ_eq_append_getElem hk, List.all_append, h]; simp [hp]
theorem scan_bad (hk : k < xs.length) (hp : p xs[k] = false) : xs.all p = false := by
  rw [List.all_eq_false]; exact ⟨xs[k], List.getElem_mem hk, by simp [hp]⟩
theorem scan_end (h : (xs.take k).all p = true) (hk : xs.length ≤ k) : xs.all p = true := by
  rwa [List.take_of_length_le hk] at h
theorem find_none {n : Int} {s : List Bnd} (h : (s.take k).all (fun b => !decide (b.v = n)) = true) (hk : s.length ≤ k) : placeB s n = -1 := by
  have h := scan_end h hk
  have : s.findIdx? (fun b => decide (b.v = n)) = none := by
    rw [List.findIdx?_eq_none_iff]
    intro x hx
    have := List.all_eq_true.1 h x hx
    simpa using this
  unfold placeB; rw [this]
theorem find_at {n : Int} {s : List Bnd} (h : (s.take k).all (fun b => !decide (b.v = n)) = true) (hk : k < s.length) (he : s[k].v = n) : placeB s n = k := by
  have : s.findIdx? (fun b => decide (b.v = n)) = some k := by
    rw [List.findIdx?_eq_some_iff_getElem]
    refine ⟨hk, by simpa using he, fun j hj => ?_⟩
    have := List.all_eq_true.1 h s[j] (by rw [List.mem_take_iff_getElem]; exact ⟨j, by omega, rfl⟩)
    simpa using this
  unfold placeB; rw [this]
end
theorem place_look (s : List Bnd) (n : Int) : (placeB s n = -1 ∧ look s n = none ∧ ∀ b ∈ s, b.v ≠ n) ∨ ∃ (i : Nat) (h : i < s.length), placeB s n = i ∧ s[i].v = n ∧ look s n = some s[i].t := by
  cases h : s.findIdx? (fun b => decide (b.v = n)) with
  | none =>
    left
    rw [List.findIdx?_eq_none_iff] at h
    refine ⟨by unfold placeB; rw [List.findIdx?_eq_none_iff.2 h], ?_, fun b hb e => by have := h b hb; simp [e] at this⟩
    unfold look
    rw [List.find?_eq_none.2 (fun x hx => by simpa using h x hx)]; rfl
  | some i =>
    right
    have h' := h
    rw [List.findIdx?_eq_some_iff_getElem] at h'
    obtain ⟨hi, h1, h2⟩ := h'
    refine ⟨i, hi, by unfold placeB; rw [h], by simpa using h1, ?_⟩
    unfold look
    have hf : s.find? (fun b => decide (b.v = n)) = some s[i] := List.find?_eq_some_iff_getElem.2 ⟨h1, i, hi, rfl, fun j hj => by simpa using h2 j hj⟩
    rw [hf]; rfl
theorem ownR_own {b : Bnd} (h : rightB b.t = true) : ownR b.v b.t = ownB b := by
  unfold ownR ownB
  split
  · rename_i c e
    rw [e] at h ⊢
    have hc := right_cells h c (by simp)
    by_cases h1 : c.k = 1
    · by_cases h2 : c.n = b.v
      · have := cellOk_var hc h1
        rw [h2] at this
        rw [this]; simp [varC]
      · have : ¬ c = varC b.v := fun e => h2 (by rw [e]; rfl)
        simp [h1, h2, this]
    · have : ¬ c = varC b.v := fun e => h1 (by rw [e]; rfl)
      simp [h1, this]
  · rename_i hne
    symm
    rw [decide_eq_false_iff_not]
    intro e
    exact hne _ e
/-- the document's way of asking, place by place -/
def okAt (s : List Bnd) (i : Nat) (b : Bnd) : Bool := decide (0 ≤ b.v) && decide (b.v ≤ 999) && (match i with | 0 => true | j + 1 => match s[j]? with | some c => decide (c.v < b.v) | none => true) && rightB b.t && !ownR b.v b.t
theorem rightG_bad {m : Int} {s : List Bnd} {k : Nat} (hk : k < s.length) (h : rightB s[k].t = false ∨ ownB s[k] = true ∨ 999 < s[k].v) : rightG m s = false := by
  induction s generalizing m k with
  | nil => simp at hk
  | cons b s ih =>
    cases k with
    | zero =>
      simp at h
      unfold rightG
      rcases h with h | h | h
      · simp [h]
      · simp [h]
      · simp [show ¬ b.v ≤ 999 by omega]
    | succ k =>
      simp at h hk
      have := ih (m := b.v + 1) hk h
      unfold rightG; simp [this]
theorem rightG_split {m : Int} {s : List Bnd} {k : Nat} (hk : k < s.length) (h : rightG m s = true) : rightG s[k].v (s.drop k) = true ∧ m ≤ s[k].v := by
  induction s generalizing m k with
  | nil => simp at hk
  | cons b s ih =>
    cases k with
    | zero =>
      unfold rightG at h
      simp at h
      refine ⟨?_, by simp; omega⟩
      rw [List.drop_zero]
      unfold rightG
      simp [h]
    | succ k =>
      unfold rightG at h
      simp at h hk
      obtain ⟨h1, h2⟩ := ih hk h.2
      refine ⟨by simpa using h1, by simp; omega⟩

/-- the least variable that may stand at a place -/
def mOf (xs : List Bnd) : Nat → Int
  | 0 => 0
  | j + 1 => match xs[j]? with
    | some c => c.v + 1
    | none => 0
theorem mOf_succ {xs : List Bnd} {k : Nat} (hk : k < xs.length) : mOf xs (k + 1) = xs[k].v + 1 := by
  simp [mOf, List.getElem?_eq_getElem hk]
theorem rightG_step {xs : List Bnd} {k : Nat} (hk : k < xs.length) (h : rightS xs = rightG (mOf xs k) (xs.drop k)) :
    rightS xs = (decide (mOf xs k ≤ xs[k].v) && decide (xs[k].v ≤ 999) && rightB xs[k].t && !ownB xs[k] && rightG (mOf xs (k + 1)) (xs.drop (k + 1))) := by
  rw [h, List.drop_eq_getElem_cons hk, mOf_succ hk]; rfl
theorem right_l1 {xs : List Bnd} {k : Nat} (hk : k < xs.length) (h : rightS xs = rightG (mOf xs k) (xs.drop k)) (e : ¬ mOf xs k ≤ xs[k].v ∨ ¬ xs[k].v ≤ 999 ∨ rightB xs[k].t = false ∨ ownB xs[k] = true) : rightS xs = false := by
  rw [rightG_step hk h]
  rcases e with e | e | e | e <;> simp [e]
theorem right_l2 {xs : List Bnd} {k : Nat} (hk : k < xs.length) (h : rightS xs = rightG (mOf xs k) (xs.drop k)) (e1 : mOf xs k ≤ xs[k].v) (e2 : xs[k].v ≤ 999) (e3 : rightB xs[k].t = true) (e4 : ownB xs[k] = false) : rightS xs = rightG (mOf xs (k + 1)) (xs.drop (k + 1)) := by
  rw [rightG_step hk h]; simp [e1, e2, e3, e4]
theorem right_l3 {xs : List Bnd} {k : Nat} (hk : xs.length ≤ k) (h : rightS xs = rightG (mOf xs k) (xs.drop k)) : rightS xs = true := by
  rw [h, List.drop_eq_nil_of_le hk]; rfl
end Go.Proofs.YtmmnfkggfnokjaaGreat
namespace Go.Proofs.YtmmnfkggfnokjaaGreat
open Go.RowKit

/-- the bindings of rising variables, but for those that stand for themselves -/
def bindC (F : Int → List Cel) (v : Int) : List Bnd := if (F v).head? = some ⟨1, ⟨#[]⟩, v⟩ then [] else [⟨v, F v⟩]
def bindL (F : Int → List Cel) (R : List Int) : List Bnd := R.flatMap (bindC F)
theorem bind_take {F : Int → List Cel} {R : List Int} {k : Nat} (hk : k < R.length) : bindL F (R.take (k + 1)) = bindL F (R.take k) ++ bindC F R[k] := by
  unfold bindL; rw [List.take_succ_eq_append_getElem hk, List.flatMap_append]; simp
theorem bind_le (F : Int → List Cel) (R : List Int) : (bindL F R).length ≤ R.length := by
  induction R with
  | nil => simp [bindL]
  | cons v R ih =>
    unfold bindL at ih ⊢
    rw [List.flatMap_cons, List.length_append, List.length_cons]
    have : (bindC F v).length ≤ 1 := by unfold bindC; split <;> simp
    omega
theorem riseI_le (xs : List Int) : (riseI xs).length ≤ xs.length := by
  have := compact_le (sortI xs).toArray (sortI xs).length
  rw [sortI_length] at this
  unfold riseI; rw [sortI_length]; exact this

theorem Tryz.infoBind2 : (Tryz.prog.info? 44).map (fun i => (i.zero, i.size, i.bytes)) = some (some (.agg #[.int .i64 0, .slice none 0 0]), 2, 32) := by kernel_rfl

set_option maxHeartbeats 3200000 in
set_option maxRecDepth 100000 in
theorem bindingsM_any (T6 : Nat) (a : Option Addr) (cap : Nat) (w : World) (V R : List Int) (F : Int → List Cel) (hR : riseI V = R) (hV : Row w a cap V) (hl : V.length ≤ 1000)
    (hst : ∀ (W : World) (v : Int), Below w.heap.size w W → v ∈ R → Calls Tryz.prog 69 #[.int .i64 v, .pointer (some ⟨T6, 0, none⟩)] W fun e W' => ∃ a cap, e = .returned (.tuple #[.slice a (F v).length cap, .bool true]) ∧ NewRow W.heap.size W' a cap (F v) ∧ 1 ≤ (F v).length ∧ (F v).length ≤ 1000 ∧ Below W.heap.size W W') :
    Calls Tryz.prog 67 #[.slice a V.length cap, .func (.func 69) #[] #[.pointer (some ⟨T6, 0, none⟩)]] w fun e w' => ∃ a2 cap2, e = .returned (.tuple #[.slice a2 (bindL F R).length cap2, .bool true]) ∧ Row w' a2 cap2 (bindL F R) ∧ Below w.heap.size w w' := by
  have hm := hV.max
  have hle := hV.le
  have HST := mkHid hst
  have hRl := riseI_le V
  rw [hR] at hRl
  have HR := mkHid hR
  clear hR
  clear hst
  go_enter Tryz.func67, Tryz.ntmps67
  go_wp2_with fail
  refine (callsIn_wide (n := 2)).1 (values_in _ 2 trivial rfl a V.length cap w) |>.mono ?_
  rintro e w1 ⟨rfl, rfl⟩
  have hb1 := (Below.refl w.heap.size w).new (.cells #[.slice a V.length cap] 63)
  go_wp2_with fail
  refine (sorted_any w.heap.size w _ a cap V hV (by omega) hb1 (World.cell?_alloc_at _ _ _ 0 rfl)).mono ?_
  rintro e w2 ⟨v2, rfl, ho2, hb2⟩
  have hsl := sortI_length V
  have HO2 := mkHid ho2
  clear ho2
  go_wp2_with fail
  refine (compact_any _ w2 v2 (sortI V) HO2.out (by omega) hb2.size).mono ?_
  rintro e w3 ⟨v3, rfl, ho3, hb3⟩
  have hb := hb1.trans ((hb2.trans hb3).mono (by simp))
  obtain ⟨a3, cap3, rfl, hr3⟩ := ho3.row
  have hr3 := hr3.row
  have hR : Hid (Lib.compactUpTo (sortI V).toArray (sortI V).length = R) := HR.out
  rw [hR.out] at hr3 ⊢
  clear hsl hb1 hb2 hb3 ho3
  have hacc0 := AccInv.nil (α := Bnd) w3.heap.size 44 w3
  go_wp2_with fail
  go_loopw [6, 8, 9, 10, 16] (fun s v t fits i wr => ∃ k : Nat, k ≤ R.length ∧ i = .int .i64 k ∧ AccInv w3.heap.size 44 (bindL F (R.take k)) s wr ∧ Below w3.heap.size w3 wr) (fun s v t fits i wr => R.length - (intOf i).toNat)
  case atStart => exact ⟨0, Nat.zero_le _, rfl, by simpa [bindL] using hacc0, Below.refl _ _⟩
  case round =>
    clear hacc0
    obtain ⟨k, hk, rfl, hacc, hbl⟩ := hrel
    by_cases hlt : k < R.length
    · obtain ⟨b, off, rfl, hb', hat⟩ := hr3.cases.resolve_left (fun e => by simp [e] at hlt)
      obtain ⟨d0, n1, n2⟩ := int_at hat hbl hlt
      have HT := mkHid (bind_take (F := F) hlt)
      have hle2 := bind_le F (R.take k)
      have hlk : (R.take k).length ≤ k := List.length_take_le _ _
      have hmem : Hid (R[k] ∈ R) := List.getElem_mem hlt
      go_wp2_with fail
      refine (HST.out wr R[k] (hb.trans (hbl.mono hb.size)) hmem.out).mono ?_
      rintro e w4 ⟨a4, cap4, rfl, hr4, h41, h42, hb4⟩
      have hbl2 := hbl.then hb4
      have hacc2 := hacc.below hb4
      have hC := hacc.newer (Nat.le_refl _) hr4
      obtain ⟨b4, off4, rfl, _, hat4⟩ := hr4.row.cases.resolve_left (fun e => by simp [e] at h41)
      obtain ⟨e0, e1, e2, hf4⟩ := cel_at hat4 (Below.refl _ _) (k := 0) h41
      simp only [Nat.zero_mul, Nat.add_zero] at e0 e1 e2
      have hh : (F R[k]).head? = some (F R[k])[0] := by
        rw [List.head?_eq_getElem?, List.getElem?_eq_getElem h41]
      by_cases he : (F R[k])[0] = ⟨1, ⟨#[]⟩, R[k]⟩
      · have hdc : decide ((F R[k])[0] = (⟨1, ⟨#[]⟩, R[k]⟩ : Cel)) = true := decide_eq_true he
        have hne := fun w => run_neq_cel (F R[k])[0] ⟨1, ⟨#[]⟩, R[k]⟩ w
        rw [hdc] at hne
        have HB : Hid (bindL F (R.take (k + 1)) = bindL F (R.take k)) := by
          rw [Hid, HT.out]; unfold bindC; rw [hh, he, if_pos rfl, List.append_nil]
        clear hh he hdc
        go_wp2_with fail
        go_round
        case rel => exact ⟨k + 1, by omega, by go_num, hacc2.lit HB.out.symm, hbl2⟩
        case measure => simp [intOf]; omega
      · have hdc : decide ((F R[k])[0] = (⟨1, ⟨#[]⟩, R[k]⟩ : Cel)) = false := decide_eq_false he
        have hne := fun w => run_neq_cel (F R[k])[0] ⟨1, ⟨#[]⟩, R[k]⟩ w
        rw [hdc] at hne
        have HB : Hid (bindL F (R.take (k + 1)) = bindL F (R.take k) ++ [⟨R[k], F R[k]⟩]) := by
          rw [Hid, HT.out]; unfold bindC; rw [hh, if_neg (fun e => he (Option.some.inj e))]
        clear hh he hdc
        go_wp2_with (at_builtin; refine wpList_acc (α := Bnd) rfl _ _ 40 rfl w3.heap.size 44 32 _ Tryz.underlying40 Tryz.infoBind2 rfl (by decide) _ (bindL F (R.take k)) hacc2 (by rfl) _ #[.int .i64 R[k], .slice (some ⟨b4, off4, none⟩) (F R[k]).length cap4] ⟨R[k], F R[k]⟩ ⟨⟨_, cap4, rfl, hC⟩, n1, n2⟩ (by rfl) (by omega) hbl2.size ?_; intro v' w5 hacc3 hb5)
        go_round
        case rel => exact ⟨k + 1, by omega, by go_num, hacc3.lit HB.out.symm, hbl2.trans hb5⟩
        case measure => simp [intOf]; omega
    · have HL : Hid (R.take k = R) := List.take_of_length_le (by omega)
      obtain ⟨a5, cap5, rfl, hrow⟩ := hacc.row
      rw [HL.out] at hrow ⊢
      clear hacc
      go_wp2_with fail
      go_ret2
      exact ⟨a5, cap5, rfl, hrow, hb.trans (hbl.mono hb.size)⟩
end Go.Proofs.YtmmnfkggfnokjaaGreat
