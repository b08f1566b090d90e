import Derived.Test.YtinfefmoiimomaaDoorCalm
namespace Go.Proofs.YtinfefmoiimomaaDoor
open Go.RowKit

/-- where the new row lies: where the old one lay, or in a new block -/
theorem run_append_where {P : Program} (w : World) (B : Nat) (t ty e : TypeId) (i : TypeInfo) (z : Value) (size bytes : Nat) (ht : P.underlying t = some (.slice e)) (hi : P.info? e = some i) (hz : i.zero = some z)
    (hsize : i.size = size) (hby : i.bytes = bytes) (hzs : z.cells.size = size) (hsz : 0 < size)
    (v : Value) (n : Nat) (xs : List Value) (hown : w.ownsRow B e size v n xs)
    (a : Addr) (m c : Nat) (news : List Value) (hl : news.length = m * size) (hnews : ∀ j u, news[j]? = some u → w.cell? (a.add j) = some u) (h1 : ∀ u ∈ news, u.oneCell' = true)
    (h63 : n + m ≤ maxLen) (hbytes : (n + m) * bytes ≤ 140737488355328) (hbase : B ≤ w.heap.size) :
    ∃ v' w', (Builtin.append_ #[t, t] ty #[v, .slice (some a) m c]).run P w = .ok v' w' ∧ w'.ownsRow B e size v' (n + m) (xs ++ news) ∧ w.grownBy w' v.ownBlock ∧
      (v'.ownBlock = v.ownBlock ∨ v'.ownBlock = some w.heap.size) := by
  obtain ⟨v', w', hr, h2, h3, h4⟩ := run_append_own (P := P) w B t ty e i z size bytes ht hi hz hsize hby hzs hsz v n xs hown a m c news hl hnews h1 h63 hbytes hbase
  refine ⟨v', w', hr, h2, h3, ?_⟩
  have h63' : n + m ≤ 9223372036854775807 := by unfold maxLen at h63; omega
  rcases hown.2 with ⟨rfl, rfl⟩ | ⟨g, cap, cur, rfl, hb, hg, hn, hm, hs, htk⟩
  · by_cases hm : m = 0
    · left
      rw [(h4.2 ⟨rfl, hm⟩)]
    · right
      have hr2 := run_append_nil (P := P) w t ty e i z ht hi hz a m c news (by rw [hsize]; exact hl) hnews (by omega) (by omega) (by rw [hby]; rw [Nat.zero_add] at hbytes; omega)
      rw [hr] at hr2
      injection hr2 with e1 e2
      rw [e1]; rfl
  · by_cases hroom : n + m ≤ cap
    · left
      have hr2 := run_append_room (P := P) w t ty e i ht hi g n cap cur hg a m c news (by rw [hsize]; exact hl) hnews h1 hroom (by
        rw [hsize, hl, hs, ← Nat.add_mul]; exact Nat.mul_le_mul_right _ hroom)
      rw [hr] at hr2
      injection hr2 with e1 e2
      rw [e1]; rfl
    · right
      have hr2 := run_append_grow (P := P) w t ty e i z ht hi hz ⟨g, 0, none⟩ n cap xs (by rw [hsize]; exact hown.1) (hown.cells (g := g) rfl) a m c news (by rw [hsize]; exact hl) hnews (by omega) (by omega) (by
        rw [hby]; exact growslice_fits (by omega) hbytes)
      rw [hr] at hr2
      injection hr2 with e1 e2
      rw [e1]; rfl

/-- what was read beside the old row is read beside the new one -/
theorem hide_next {w w' : World} {r r' : Option Nat} (hg : w.grownBy w' r) (h : r' = r ∨ r' = some w.heap.size) : Keeps (hide r w) (hide r' w') := by
  rcases h with rfl | rfl
  · exact grown_keeps hg
  · intro b o v hc
    have hl := cell_lt (hide_keeps r w b o v hc)
    have h1 := grown_keeps hg b o v hc
    exact hide_of_ne (by omega) (hide_keeps r w' b o v h1)

theorem wpList_app2 {P : Program} {w : World} {ops : Array Oper} {rest : List Oper} {o : Oper} {a : Act} {Q : Exit → Act → World → Prop} (hgd : o.guard = none) (s x : Operand) (t : TypeId)
    (ho : o.op = .call { callee := .builtin .append, args := #[s, x], argTypes := #[t, t] })
    (B e size bytes : Nat) (z : Value) (ht : P.underlying t = some (.slice e)) (hinfo : (P.info? e).map (fun i => (i.zero, i.size, i.bytes)) = some (some z, size, bytes))
    (hzs : z.cells.size = size) (hsz : 0 < size) (hby : bytes ≤ 1000)
    (v : Value) (n : Nat) (xs : List Value) (hs : a.eval s = v) (hown : w.ownsRow B e size v n xs)
    (sa : Addr) (m c : Nat) (news : List Value) (hx : a.eval x = .slice (some sa) m c) (hsrc : Src w size (some sa) m c news)
    (hmax : n + m ≤ 1000000000) (hB : B ≤ w.heap.size)
    (h : ∀ v' w', w'.ownsRow B e size v' (n + m) (xs ++ news) → w.grownBy w' v.ownBlock → Below B w w' → Keeps (hide v.ownBlock w) (hide v'.ownBlock w') → wpList P ops Q rest (a.put o.dst v') w') : wpList P ops Q (o :: rest) a w := by
  obtain ⟨i, hi, hz0, hz1, hz2⟩ := info_parts hinfo
  have hb : (n + m) * bytes ≤ 140737488355328 := Nat.le_trans (Nat.mul_le_mul hmax hby) (by decide)
  refine wpList_plain hgd fun K hK => ?_
  obtain ⟨v', w', hr, h2, h3, h4⟩ := run_append_where (P := P) w B t o.type e i z size bytes ht hi hz0 hz1 hz2 hzs hsz v n xs hown sa m c news hsrc.len (hsrc.cells sa rfl) hsrc.one (by unfold maxLen; omega) hb hB
  unfold Oper.wp execOp
  simp only [ho, resolve, invoke, builtin, Sem.run_bind, Sem.run_pure, Result.andThen_ok, List.map_toArray, List.map_cons, List.map_nil, hs, hx, hr]
  exact hK _ _ (h v' w' h2 h3 (grown_below h3 hown hB) (hide_next h3 h4))

/-- values of slices, each of which reads as a list -/
structure SlRows {α : Type} [Rep α] (w : World) (vs : List Value) (ps : List (List α)) : Prop where
  len : vs.length = ps.length
  row : ∀ (i : Nat) (v : Value) (p : List α), vs[i]? = some v → ps[i]? = some p → ∃ a cap, v = Value.slice a p.length cap ∧ Row w a cap p
section
variable {α : Type} [Rep α]
theorem SlRows.nil (w : World) : SlRows w [] ([] : List (List α)) := ⟨rfl, fun i v p h => by simp at h⟩
theorem SlRows.keeps {w w' : World} {vs : List Value} {ps : List (List α)} (h : SlRows w vs ps) (hk : Keeps w w') : SlRows w' vs ps :=
  ⟨h.len, fun i v p hv hp => let ⟨a, cap, e, hr⟩ := h.row i v p hv hp; ⟨a, cap, e, hr.keeps hk⟩⟩
theorem SlRows.snoc {w : World} {vs : List Value} {ps : List (List α)} (h : SlRows w vs ps) {a : Option Addr} {cap : Nat} {p : List α} (hr : Row w a cap p) : SlRows w (vs ++ [.slice a p.length cap]) (ps ++ [p]) := by
  refine ⟨by simp [h.len], fun i v q hv hq => ?_⟩
  by_cases hi : i < vs.length
  · rw [List.getElem?_append_left hi] at hv
    rw [List.getElem?_append_left (by rw [← h.len]; exact hi)] at hq
    exact h.row i v q hv hq
  · rw [List.getElem?_append_right (by omega)] at hv
    rw [List.getElem?_append_right (by rw [← h.len]; omega), ← h.len] at hq
    by_cases h0 : i - vs.length = 0
    · rw [h0] at hv hq
      simp at hv hq
      subst hv; subst hq
      exact ⟨a, cap, rfl, hr⟩
    · rw [List.getElem?_eq_none (by simp; omega)] at hv; cases hv
theorem SlRows.one {w : World} {vs : List Value} {ps : List (List α)} (h : SlRows w vs ps) : ∀ u ∈ vs, u.oneCell' = true := by
  intro u hu
  obtain ⟨i, hi, rfl⟩ := List.getElem_of_mem hu
  obtain ⟨a, cap, e, _⟩ := h.row i vs[i] (ps[i]'(by rw [← h.len]; exact hi)) (List.getElem?_eq_getElem hi) (List.getElem?_eq_getElem _)
  rw [e]; rfl
theorem own_rowL {w : World} {B e : Nat} {v : Value} {vs : List Value} {ps : List (List α)} (h : w.ownsRow B e 1 v ps.length vs) (hs : SlRows w vs ps) : ∃ a cap, v = .slice a ps.length cap ∧ Row w a cap ps := by
  rcases h.2 with ⟨rfl, hn⟩ | ⟨g, cap, cur, rfl, hb, hg, hn, hm, hsz, ht⟩
  · obtain rfl : ps = [] := List.eq_nil_of_length_eq_zero hn
    exact ⟨none, 0, rfl, Row.empty _ _ _ (by omega) (fun _ => rfl)⟩
  · refine ⟨_, cap, rfl, ⟨hn, by unfold maxLen at hm; omega, (fun e => by cases e), fun i x hi => ⟨g, 0, rfl, ?_⟩⟩⟩
    show ListE w g (0 + i * 1) x
    rw [Nat.zero_add, Nat.mul_one]
    have hl : i < ps.length := (List.getElem?_eq_some_iff.1 hi).1
    have hl' : i < vs.length := by rw [hs.len]; exact hl
    obtain ⟨a, cap, e, hr⟩ := hs.row i vs[i] x (List.getElem?_eq_getElem hl') hi
    exact ⟨a, cap, own_cells h i _ (by rw [List.getElem?_eq_getElem hl', e]), hr⟩
end
theorem below_grown {w w' : World} (hb : Below w.heap.size w w') (r : Option Nat) : w.grownBy w' r := ⟨hb.os, hb.tape, hb.output, hb.size, fun k hk _ => hb.block k hk⟩
theorem below_hide {w w' : World} (hb : Below w.heap.size w w') (r : Option Nat) : Keeps (hide r w) (hide r w') := grown_keeps (below_grown hb r)
theorem alloc_hide (w : World) (o : Obj) (r : Option Nat) : Keeps (hide r w) (hide r (w.alloc o)) := grown_keeps (World.grownBy_alloc w o r)
theorem own_hide {w : World} {B e size : Nat} {v : Value} {n : Nat} {xs : List Value} {r : Option Nat} (h : w.ownsRow B e size v n xs) (hr : ∀ g, r = some g → g < B) : (hide r w).ownsRow B e size v n xs := by
  cases r with
  | none => exact h
  | some g0 =>
    refine ⟨h.1, ?_⟩
    rcases h.2 with h | ⟨g, cap, cur, rfl, hb, hg, rest⟩
    · exact .inl h
    · have := hr g0 rfl
      exact .inr ⟨g, cap, cur, rfl, hb, by rw [hide_heap _ _ _ (by omega)]; exact hg, rest⟩
/-- a part of a row -/
theorem Row.slice {α : Type} [Rep α] {w : World} {b off cap : Nat} {xs : List α} (h : Row w (some ⟨b, off, none⟩) cap xs) {i j : Nat} (hij : i ≤ j) (hj : j ≤ xs.length) :
    Row w (some ⟨b, off + i * Rep.sz α, none⟩) (cap - i) ((xs.drop i).take (j - i)) := by
  refine ⟨?_, by have := h.max; omega, (fun e => by cases e), fun k x hk => ?_⟩
  · have := h.le; simp; omega
  · have hl : k < ((xs.drop i).take (j - i)).length := (List.getElem?_eq_some_iff.1 hk).1
    have hk2 : k < j - i := by simp at hl; omega
    rw [List.getElem?_take_of_lt hk2, List.getElem?_drop] at hk
    obtain ⟨b', off', e, hE⟩ := h.at_ (i + k) x hk
    simp at e
    obtain ⟨rfl, rfl⟩ := e
    refine ⟨b, off + i * Rep.sz α, rfl, ?_⟩
    rw [Nat.add_assoc, ← Nat.add_mul]; exact hE
end Go.Proofs.YtinfefmoiimomaaDoor
