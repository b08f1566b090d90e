import Derived.Test.YtmmnfkggfnokjaaZt1
import Derived.Laws.EntriesVeiled
import Derived.Maps.OwnOps
import Derived.Maps.OwnSet
import Derived.WalkLawsBesides
import Derived.Maps.OwnIn
namespace Go.Proofs.Ytmmnfkggfnokjaa
open Go.RowKit
/-- where the new row lies: where the old one lay, or in a new block -/
theorem run_append_where {P : Program} (w : World) (B : Nat) (t ty e : TypeId) (i : TypeInfo) (z : Value) (size bytes : Nat) (ht : P.underlying t = some (.slice e)) (hi : P.info? e = some i) (hz : i.zero = some z)
    (hsize : i.size = size) (hby : i.bytes = bytes) (hzs : z.cells.size = size) (hsz : 0 < size)
    (v : Value) (n : Nat) (xs : List Value) (hown : w.ownsRow B e size v n xs)
    (a : Addr) (m c : Nat) (news : List Value) (hl : news.length = m * size) (hnews : ∀ j u, news[j]? = some u → w.cell? (a.add j) = some u) (h1 : ∀ u ∈ news, u.oneCell' = true)
    (h63 : n + m ≤ maxLen) (hbytes : (n + m) * bytes ≤ 140737488355328) (hbase : B ≤ w.heap.size) :
    ∃ v' w', (Builtin.append_ #[t, t] ty #[v, .slice (some a) m c]).run P w = .ok v' w' ∧ w'.ownsRow B e size v' (n + m) (xs ++ news) ∧ w.grownBy w' v.ownBlock ∧
      (v'.ownBlock = v.ownBlock ∨ v'.ownBlock = some w.heap.size) := by
  obtain ⟨v', w', hr, h2, h3, h4⟩ := run_append_own (P := P) w B t ty e i z size bytes ht hi hz hsize hby hzs hsz v n xs hown a m c news hl hnews h1 h63 hbytes hbase
  refine ⟨v', w', hr, h2, h3, ?_⟩
  have h63' : n + m ≤ 9223372036854775807 := by unfold maxLen at h63; omega
  rcases hown.2 with ⟨rfl, rfl⟩ | ⟨g, cap, cur, rfl, hb, hg, hn, hm, hs, htk⟩
  · by_cases hm : m = 0
    · left
      rw [(h4.2 ⟨rfl, hm⟩)]
    · right
      have hr2 := run_append_nil (P := P) w t ty e i z ht hi hz a m c news (by rw [hsize]; exact hl) hnews (by omega) (by omega) (by rw [hby]; rw [Nat.zero_add] at hbytes; omega)
      rw [hr] at hr2
      injection hr2 with e1 e2
      rw [e1]; rfl
  · by_cases hroom : n + m ≤ cap
    · left
      have hr2 := run_append_room (P := P) w t ty e i ht hi g n cap cur hg a m c news (by rw [hsize]; exact hl) hnews h1 hroom (by
        rw [hsize, hl, hs, ← Nat.add_mul]; exact Nat.mul_le_mul_right _ hroom)
      rw [hr] at hr2
      injection hr2 with e1 e2
      rw [e1]; rfl
    · right
      have hr2 := run_append_grow (P := P) w t ty e i z ht hi hz ⟨g, 0, none⟩ n cap xs (by rw [hsize]; exact hown.1) (hown.cells (g := g) rfl) a m c news (by rw [hsize]; exact hl) hnews (by omega) (by omega) (by
        rw [hby]; exact growslice_fits (by omega) hbytes)
      rw [hr] at hr2
      injection hr2 with e1 e2
      rw [e1]; rfl
/-- what was read beside the old row is read beside the new one -/
theorem hide_next {w w' : World} {r r' : Option Nat} (hg : w.grownBy w' r) (h : r' = r ∨ r' = some w.heap.size) : Keeps (hide r w) (hide r' w') := by
  rcases h with rfl | rfl
  · exact grown_keeps hg
  · intro b o v hc
    have hl := cell_lt (hide_keeps r w b o v hc)
    have h1 := grown_keeps hg b o v hc
    exact hide_of_ne (by omega) (hide_keeps r w' b o v h1)
theorem wpList_app2 {P : Program} {w : World} {ops : Array Oper} {rest : List Oper} {o : Oper} {a : Act} {Q : Exit → Act → World → Prop} (hgd : o.guard = none) (s x : Operand) (t : TypeId)
    (ho : o.op = .call { callee := .builtin .append, args := #[s, x], argTypes := #[t, t] })
    (B e size bytes : Nat) (z : Value) (ht : P.underlying t = some (.slice e)) (hinfo : (P.info? e).map (fun i => (i.zero, i.size, i.bytes)) = some (some z, size, bytes))
    (hzs : z.cells.size = size) (hsz : 0 < size) (hby : bytes ≤ 1000)
    (v : Value) (n : Nat) (xs : List Value) (hs : a.eval s = v) (hown : w.ownsRow B e size v n xs)
    (sa : Addr) (m c : Nat) (news : List Value) (hx : a.eval x = .slice (some sa) m c) (hsrc : Src w size (some sa) m c news)
    (hmax : n + m ≤ 1000000000) (hB : B ≤ w.heap.size)
    (h : ∀ v' w', w'.ownsRow B e size v' (n + m) (xs ++ news) → w.grownBy w' v.ownBlock → Below B w w' → Keeps (hide v.ownBlock w) (hide v'.ownBlock w') → wpList P ops Q rest (a.put o.dst v') w') : wpList P ops Q (o :: rest) a w := by
  obtain ⟨i, hi, hz0, hz1, hz2⟩ := info_parts hinfo
  have hb : (n + m) * bytes ≤ 140737488355328 := Nat.le_trans (Nat.mul_le_mul hmax hby) (by decide)
  refine wpList_plain hgd fun K hK => ?_
  obtain ⟨v', w', hr, h2, h3, h4⟩ := run_append_where (P := P) w B t o.type e i z size bytes ht hi hz0 hz1 hz2 hzs hsz v n xs hown sa m c news hsrc.len (hsrc.cells sa rfl) hsrc.one (by unfold maxLen; omega) hb hB
  unfold Oper.wp execOp
  simp only [ho, resolve, invoke, builtin, Sem.run_bind, Sem.run_pure, Result.andThen_ok, List.map_toArray, List.map_cons, List.map_nil, hs, hx, hr]
  exact hK _ _ (h v' w' h2 h3 (grown_below h3 hown hB) (hide_next h3 h4))
/-- values of slices, each of which reads as a list -/
structure SlRows {α : Type} [Rep α] (w : World) (vs : List Value) (ps : List (List α)) : Prop where
  len : vs.length = ps.length
  row : ∀ (i : Nat) (v : Value) (p : List α), vs[i]? = some v → ps[i]? = some p → ∃ a cap, v = Value.slice a p.length cap ∧ Row w a cap p
section
variable {α : Type} [Rep α]
theorem SlRows.nil (w : World) : SlRows w [] ([] : List (List α)) := ⟨rfl, fun i v p h => by simp at h⟩
theorem SlRows.keeps {w w' : World} {vs : List Value} {ps : List (List α)} (h : SlRows w vs ps) (hk : Keeps w w') : SlRows w' vs ps :=
  ⟨h.len, fun i v p hv hp => let ⟨a, cap, e, hr⟩ := h.row i v p hv hp; ⟨a, cap, e, hr.keeps hk⟩⟩
theorem SlRows.snoc {w : World} {vs : List Value} {ps : List (List α)} (h : SlRows w vs ps) {a : Option Addr} {cap : Nat} {p : List α} (hr : Row w a cap p) : SlRows w (vs ++ [.slice a p.length cap]) (ps ++ [p]) := by
  refine ⟨by simp [h.len], fun i v q hv hq => ?_⟩
  by_cases hi : i < vs.length
  · rw [List.getElem?_append_left hi] at hv
    rw [List.getElem?_append_left (by rw [← h.len]; exact hi)] at hq
    exact h.row i v q hv hq
  · rw [List.getElem?_append_right (by omega)] at hv
    rw [List.getElem?_append_right (by rw [← h.len]; omega), ← h.len] at hq
    by_cases h0 : i - vs.length = 0
    · rw [h0] at hv hq
      simp at hv hq
      subst hv; subst hq
      exact ⟨a, cap, rfl, hr⟩
    · rw [List.getElem?_eq_none (by simp; omega)] at hv; cases hv
theorem SlRows.one {w : World} {vs : List Value} {ps : List (List α)} (h : SlRows w vs ps) : ∀ u ∈ vs, u.oneCell' = true := by
  intro u hu
  obtain ⟨i, hi, rfl⟩ := List.getElem_of_mem hu
  obtain ⟨a, cap, e, _⟩ := h.row i vs[i] (ps[i]'(by rw [← h.len]; exact hi)) (List.getElem?_eq_getElem hi) (List.getElem?_eq_getElem _)
  rw [e]; rfl
theorem own_rowL {w : World} {B e : Nat} {v : Value} {vs : List Value} {ps : List (List α)} (h : w.ownsRow B e 1 v ps.length vs) (hs : SlRows w vs ps) : ∃ a cap, v = .slice a ps.length cap ∧ Row w a cap ps := by
  rcases h.2 with ⟨rfl, hn⟩ | ⟨g, cap, cur, rfl, hb, hg, hn, hm, hsz, ht⟩
  · obtain rfl : ps = [] := List.eq_nil_of_length_eq_zero hn
    exact ⟨none, 0, rfl, Row.empty _ _ _ (by omega) (fun _ => rfl)⟩
  · refine ⟨_, cap, rfl, ⟨hn, by unfold maxLen at hm; omega, (fun e => by cases e), fun i x hi => ⟨g, 0, rfl, ?_⟩⟩⟩
    show ListE w g (0 + i * 1) x
    rw [Nat.zero_add, Nat.mul_one]
    have hl : i < ps.length := (List.getElem?_eq_some_iff.1 hi).1
    have hl' : i < vs.length := by rw [hs.len]; exact hl
    obtain ⟨a, cap, e, hr⟩ := hs.row i vs[i] x (List.getElem?_eq_getElem hl') hi
    exact ⟨a, cap, own_cells h i _ (by rw [List.getElem?_eq_getElem hl', e]), hr⟩
end
theorem below_grown {w w' : World} (hb : Below w.heap.size w w') (r : Option Nat) : w.grownBy w' r := ⟨hb.os, hb.tape, hb.output, hb.size, fun k hk _ => hb.block k hk⟩
theorem below_hide {w w' : World} (hb : Below w.heap.size w w') (r : Option Nat) : Keeps (hide r w) (hide r w') := grown_keeps (below_grown hb r)
theorem alloc_hide (w : World) (o : Obj) (r : Option Nat) : Keeps (hide r w) (hide r (w.alloc o)) := grown_keeps (World.grownBy_alloc w o r)
theorem own_hide {w : World} {B e size : Nat} {v : Value} {n : Nat} {xs : List Value} {r : Option Nat} (h : w.ownsRow B e size v n xs) (hr : ∀ g, r = some g → g < B) : (hide r w).ownsRow B e size v n xs := by
  cases r with
  | none => exact h
  | some g0 =>
    refine ⟨h.1, ?_⟩
    rcases h.2 with h | ⟨g, cap, cur, rfl, hb, hg, rest⟩
    · exact .inl h
    · have := hr g0 rfl
      exact .inr ⟨g, cap, cur, rfl, hb, by rw [hide_heap _ _ _ (by omega)]; exact hg, rest⟩
/-- a part of a row -/
theorem Row.slice {α : Type} [Rep α] {w : World} {b off cap : Nat} {xs : List α} (h : Row w (some ⟨b, off, none⟩) cap xs) {i j : Nat} (hij : i ≤ j) (hj : j ≤ xs.length) :
    Row w (some ⟨b, off + i * Rep.sz α, none⟩) (cap - i) ((xs.drop i).take (j - i)) := by
  refine ⟨?_, by have := h.max; omega, (fun e => by cases e), fun k x hk => ?_⟩
  · have := h.le; simp; omega
  · have hl : k < ((xs.drop i).take (j - i)).length := (List.getElem?_eq_some_iff.1 hk).1
    have hk2 : k < j - i := by simp at hl; omega
    rw [List.getElem?_take_of_lt hk2, List.getElem?_drop] at hk
    obtain ⟨b', off', e, hE⟩ := h.at_ (i + k) x hk
    simp at e
    obtain ⟨rfl, rfl⟩ := e
    refine ⟨b, off + i * Rep.sz α, rfl, ?_⟩
    rw [Nat.add_assoc, ← Nat.add_mul]; exact hE
end Go.Proofs.Ytmmnfkggfnokjaa
namespace Go.Proofs.Ytmmnfkggfnokjaa
open Go.RowKit
/-- data of a kind, whose cells are told by a list of values -/
class RepC (α : Type) extends Rep α where
  C : World → List Value → α → Prop
  len : ∀ {w : World} {cs : List Value} {x : α}, C w cs x → cs.length = Rep.sz α
  one : ∀ {w : World} {cs : List Value} {x : α}, C w cs x → ∀ u ∈ cs, u.oneCell' = true
  cmono : ∀ {w w' : World} {cs : List Value} {x : α}, C w cs x → Keeps w w' → C w' cs x
  toE : ∀ {w : World} {cs : List Value} {x : α} {b o : Nat}, C w cs x → (∀ j u, cs[j]? = some u → w.cell? ⟨b, o + j, none⟩ = some u) → Rep.E w b o x
  ofE : ∀ {w : World} {x : α} {b o : Nat}, Rep.E w b o x → ∃ cs, C w cs x ∧ ∀ j u, cs[j]? = some u → w.cell? ⟨b, o + j, none⟩ = some u
  pos : 0 < sz

/-- values that read as a list, element by element -/
inductive CRows {α : Type} [RepC α] (w : World) : List Value → List α → Prop where
  | nil : CRows w [] []
  | cons {cs : List Value} {x : α} {vs : List Value} {xs : List α} : RepC.C w cs x → CRows w vs xs → CRows w (cs ++ vs) (x :: xs)
section
variable {α : Type} [RepC α]
theorem CRows.len {w : World} {vs : List Value} {xs : List α} (h : CRows w vs xs) : vs.length = xs.length * Rep.sz α := by
  induction h with
  | nil => simp
  | cons hc _ ih => rw [List.length_append, RepC.len hc, ih, List.length_cons, Nat.succ_mul, Nat.add_comm]
theorem CRows.one {w : World} {vs : List Value} {xs : List α} (h : CRows w vs xs) : ∀ u ∈ vs, u.oneCell' = true := by
  induction h with
  | nil => intro u hu; simp at hu
  | cons hc _ ih =>
    intro u hu
    rcases List.mem_append.1 hu with hu | hu
    · exact RepC.one hc u hu
    · exact ih u hu
theorem CRows.keeps {w w' : World} {vs : List Value} {xs : List α} (h : CRows w vs xs) (hk : Keeps w w') : CRows w' vs xs := by
  induction h with
  | nil => exact .nil
  | cons hc _ ih => exact .cons (RepC.cmono hc hk) ih
theorem CRows.append {w : World} {vs us : List Value} {xs ys : List α} (h : CRows w vs xs) (k : CRows w us ys) : CRows w (vs ++ us) (xs ++ ys) := by
  induction h with
  | nil => exact k
  | cons hc _ ih => rw [List.append_assoc]; exact .cons hc ih
theorem CRows.single {w : World} {cs : List Value} {x : α} (h : RepC.C w cs x) : CRows w cs [x] := by
  have := CRows.cons h (CRows.nil (w := w) (α := α))
  rwa [List.append_nil] at this
theorem CRows.snoc {w : World} {vs cs : List Value} {xs : List α} {x : α} (h : CRows w vs xs) (k : RepC.C w cs x) : CRows w (vs ++ cs) (xs ++ [x]) := h.append (CRows.single k)
/-- at a block -/
theorem CRows.at_ {w : World} {vs : List Value} {xs : List α} (h : CRows w vs xs) : ∀ {b o : Nat}, (∀ j u, vs[j]? = some u → w.cell? ⟨b, o + j, none⟩ = some u) → ∀ i x, xs[i]? = some x → Rep.E w b (o + i * Rep.sz α) x := by
  induction h with
  | nil => intro b o _ i x hi; simp at hi
  | @cons cs x vs xs hc _ ih =>
    intro b o hat i y hi
    cases i with
    | zero =>
      simp at hi
      subst hi
      rw [Nat.zero_mul, Nat.add_zero]
      refine RepC.toE hc fun j u hj => hat j u ?_
      rw [List.getElem?_append_left (List.getElem?_eq_some_iff.1 hj).1]; exact hj
    | succ i =>
      rw [List.getElem?_cons_succ] at hi
      have := ih (b := b) (o := o + Rep.sz α) (fun j u hj => by
        have := hat (Rep.sz α + j) u (by rw [List.getElem?_append_right (by rw [RepC.len hc]; omega), RepC.len hc, Nat.add_sub_cancel_left]; exact hj)
        rwa [← Nat.add_assoc] at this) i y hi
      rwa [show o + (i + 1) * Rep.sz α = o + Rep.sz α + i * Rep.sz α by rw [Nat.succ_mul]; omega]
/-- a row of the call's own reads as a row -/
theorem own_rowG {w : World} {B e : Nat} {v : Value} {vs : List Value} {xs : List α} (h : w.ownsRow B e (Rep.sz α) v xs.length vs) (hs : CRows w vs xs) : ∃ a cap, v = .slice a xs.length cap ∧ Row w a cap xs := by
  rcases h.2 with ⟨rfl, hn⟩ | ⟨g, cap, cur, rfl, hb, hg, hn, hm, hsz, ht⟩
  · obtain rfl : xs = [] := List.eq_nil_of_length_eq_zero hn
    exact ⟨none, 0, rfl, Row.empty _ _ _ (by omega) (fun _ => rfl)⟩
  · refine ⟨_, cap, rfl, ⟨hn, by unfold maxLen at hm; omega, (fun e => by cases e), fun i x hi => ⟨g, 0, rfl, ?_⟩⟩⟩
    exact hs.at_ (fun j u hj => by rw [Nat.zero_add]; exact own_cells h j u hj) i x hi
/-- the cells of a row -/
theorem crows_of {w : World} {b : Nat} : ∀ (xs : List α) (o : Nat), (∀ i x, xs[i]? = some x → Rep.E w b (o + i * Rep.sz α) x) → ∃ vs, CRows w vs xs ∧ ∀ j u, vs[j]? = some u → w.cell? ⟨b, o + j, none⟩ = some u
  | [], _, _ => ⟨[], .nil, fun j u h => by simp at h⟩
  | x :: xs, o, h => by
    have h0 := h 0 x rfl
    rw [Nat.zero_mul, Nat.add_zero] at h0
    obtain ⟨cs, hc, hat⟩ := RepC.ofE h0
    obtain ⟨vs, hv, hvat⟩ := crows_of xs (o + Rep.sz α) (fun i y hi => by
      have := h (i + 1) y (by rw [List.getElem?_cons_succ]; exact hi)
      rwa [show o + (i + 1) * Rep.sz α = o + Rep.sz α + i * Rep.sz α by rw [Nat.succ_mul]; omega] at this)
    refine ⟨cs ++ vs, .cons hc hv, fun j u hj => ?_⟩
    by_cases hl : j < cs.length
    · rw [List.getElem?_append_left hl] at hj
      exact hat j u hj
    · rw [List.getElem?_append_right (by omega)] at hj
      have := hvat _ u hj
      rw [RepC.len hc] at this
      rwa [show o + Rep.sz α + (j - Rep.sz α) = o + j by have := RepC.len hc; omega] at this
/-- an element that was laid in a new block, as the source of an append -/
theorem CRows.takeL {w : World} {vs : List Value} {xs : List α} (h : CRows w vs xs) (k : Nat) : CRows w (vs.take (k * Rep.sz α)) (xs.take k) := by
  induction h generalizing k with
  | nil => simp; exact .nil
  | @cons cs x vs xs hc _ ih =>
    cases k with
    | zero => simp; exact .nil
    | succ k =>
      rw [List.take_succ_cons, List.take_append, RepC.len hc, List.take_of_length_le (by rw [RepC.len hc, Nat.succ_mul]; omega), show (k + 1) * Rep.sz α - Rep.sz α = k * Rep.sz α by rw [Nat.succ_mul]; omega]
      exact .cons hc (ih k)
end
instance {α : Type} [Rep α] : RepC (List α) where
  C w cs xs := ∃ a cap, cs = [.slice a xs.length cap] ∧ Row w a cap xs
  len := by rintro w cs xs ⟨a, cap, rfl, _⟩; rfl
  one := by rintro w cs xs ⟨a, cap, rfl, _⟩ u hu; simp at hu; subst hu; rfl
  cmono := by rintro w w' cs xs ⟨a, cap, rfl, h⟩ hk; exact ⟨a, cap, rfl, h.keeps hk⟩
  toE := by
    rintro w cs xs b o ⟨a, cap, rfl, h⟩ hat
    exact ⟨a, cap, hat 0 _ rfl, h⟩
  ofE := by
    rintro w xs b o ⟨a, cap, hc, h⟩
    refine ⟨_, ⟨a, cap, rfl, h⟩, fun j u hj => ?_⟩
    cases j with
    | zero => simp at hj; subst hj; exact hc
    | succ j => simp at hj
  pos := Nat.one_pos
instance : RepC Cel where
  C _ cs c := cs = [.int .i64 c.k, .string c.s, .int .i64 c.n] ∧ c.fit
  len := by rintro w cs c ⟨rfl, _⟩; rfl
  one := by rintro w cs c ⟨rfl, _⟩ u hu; simp at hu; rcases hu with rfl | rfl | rfl <;> rfl
  cmono := by rintro w w' cs c h _; exact h
  toE := by
    rintro w cs c b o ⟨rfl, hf⟩ hat
    exact ⟨hat 0 _ rfl, hat 1 _ rfl, hat 2 _ rfl, hf⟩
  ofE := by
    rintro w c b o ⟨h0, h1, h2, hf⟩
    refine ⟨_, ⟨rfl, hf⟩, fun j u hj => ?_⟩
    match j with
    | 0 => simp at hj; subst hj; exact h0
    | 1 => simp at hj; subst hj; exact h1
    | 2 => simp at hj; subst hj; exact h2
    | j + 3 => simp at hj
  pos := by decide
instance : RepC Int where
  C _ cs n := cs = [.int .i64 n] ∧ -9223372036854775808 ≤ n ∧ n ≤ 9223372036854775807
  len := by rintro w cs c ⟨rfl, _⟩; rfl
  one := by rintro w cs c ⟨rfl, _⟩ u hu; simp at hu; subst hu; rfl
  cmono := by rintro w w' cs c h _; exact h
  toE := by
    rintro w cs c b o ⟨rfl, h1, h2⟩ hat
    exact ⟨hat 0 _ rfl, h1, h2⟩
  ofE := by
    rintro w c b o ⟨h0, h1, h2⟩
    refine ⟨_, ⟨rfl, h1, h2⟩, fun j u hj => ?_⟩
    cases j with
    | zero => simp at hj; subst hj; exact h0
    | succ j => simp at hj
  pos := by decide
section
variable {α : Type} [RepC α]
/-- a slice literal, laid in a new block -/
theorem row_new (w : World) (cs : Array Value) (T : TypeId × Nat) {xs : List α} (h : CRows (w.alloc (.cells cs T.1)) cs.toList xs) (hl : xs.length ≤ 9223372036854775807) :
    Row (w.alloc (.cells cs T.1)) (some ⟨w.heap.size, 0, none⟩) xs.length xs :=
  ⟨Nat.le_refl _, hl, (fun e => by cases e), fun i x hi => ⟨w.heap.size, 0, rfl, h.at_ (fun j u hj => by
    rw [Nat.zero_add, World.cell?_alloc_at _ _ _ _ rfl]; simpa using hj) i x hi⟩⟩
theorem Row.lit {w : World} {a : Option Addr} {cap : Nat} {xs ys : List α} (h : Row w a cap xs) (e : xs = ys) : Row w a cap ys := e ▸ h
end
/-- the world without all blocks below B -/
def under (B : Nat) (w : World) : World := { w with heap := w.heap.mapIdx fun i o => if i < B then .cells #[] 0 else o }
theorem under_heap {B : Nat} {w : World} {b : Nat} (h : B ≤ b) : (under B w).heap[b]? = w.heap[b]? := by
  unfold under
  rw [Array.getElem?_mapIdx]
  cases hw : w.heap[b]? with
  | none => rfl
  | some o => simp; intro; omega
theorem under_cell {B : Nat} {w : World} {b o : Nat} {v : Value} (h : (under B w).cell? ⟨b, o, none⟩ = some v) : B ≤ b ∧ w.cell? ⟨b, o, none⟩ = some v := by
  by_cases hb : B ≤ b
  · refine ⟨hb, ?_⟩
    rwa [World.cell?, under_heap hb] at h
  · exfalso
    unfold under at h
    simp only [World.cell?, Array.getElem?_mapIdx] at h
    cases hw : w.heap[b]? with
    | none => rw [hw] at h; simp at h
    | some o => rw [hw] at h; simp [show b < B by omega] at h
theorem under_of {B : Nat} {w : World} {b o : Nat} {v : Value} (hb : B ≤ b) (h : w.cell? ⟨b, o, none⟩ = some v) : (under B w).cell? ⟨b, o, none⟩ = some v := by
  rwa [World.cell?, under_heap hb]
theorem under_keeps (B : Nat) (w : World) : Keeps (under B w) w := fun _ _ _ h => (under_cell h).2
theorem under_mono {B B' : Nat} (h : B' ≤ B) (w : World) : Keeps (under B w) (under B' w) := fun _ _ _ hc => under_of (Nat.le_trans h (under_cell hc).1) (under_cell hc).2
theorem under_hide {B : Nat} (w : World) {r : Option Nat} (hr : ∀ g, r = some g → g < B) : Keeps (under B w) (hide r w) := by
  intro b o v hc
  obtain ⟨h1, h2⟩ := under_cell hc
  cases r with
  | none => exact h2
  | some g => exact hide_of_ne (by have := hr g rfl; omega) h2
theorem under_grown {B : Nat} {w w' : World} {r : Option Nat} (hg : w.grownBy w' r) (hr : ∀ g, r = some g → g < B) : Keeps (under B w) (under B w') := by
  intro b o v hc
  obtain ⟨h1, h2⟩ := under_cell hc
  refine under_of h1 ?_
  exact (World.cell?_of_block (w := w) (a := ⟨b, o, none⟩) (hg.block b (cell_lt h2) (fun e => by have := hr b e.symm; omega))).trans h2
theorem under_below {B : Nat} {w w' : World} (hb : Below w.heap.size w w') : Keeps (under B w) (under B w') := under_grown (below_grown hb none) (fun g e => by cases e)
theorem under_own {w : World} {B e size : Nat} {v : Value} {n : Nat} {xs : List Value} (h : w.ownsRow B e size v n xs) : (under B w).ownsRow B e size v n xs := by
  refine ⟨h.1, ?_⟩
  rcases h.2 with h | ⟨g, cap, cur, rfl, hb, hg, rest⟩
  · exact .inl h
  · exact .inr ⟨g, cap, cur, rfl, hb, by rw [under_heap hb]; exact hg, rest⟩
/-- a slice that lies in no block below B -/
def NewRow {α : Type} [Rep α] (B : Nat) (w : World) (a : Option Addr) (cap : Nat) (xs : List α) : Prop := Row (under B w) a cap xs
section
variable {α : Type} [Rep α] {B : Nat} {w w' : World} {a : Option Addr} {cap : Nat} {xs : List α}
theorem NewRow.row (h : NewRow B w a cap xs) : Row w a cap xs := Row.keeps h (under_keeps B w)
theorem NewRow.hide (h : NewRow B w a cap xs) {r : Option Nat} (hr : ∀ g, r = some g → g < B) : Row (hide r w) a cap xs := Row.keeps h (under_hide w hr)
theorem NewRow.below (h : NewRow B w a cap xs) (hb : Below w.heap.size w w') : NewRow B w' a cap xs := Row.keeps h (under_below hb)
theorem NewRow.grown (h : NewRow B w a cap xs) {r : Option Nat} (hg : w.grownBy w' r) (hr : ∀ g, r = some g → g < B) : NewRow B w' a cap xs := Row.keeps h (under_grown hg hr)
theorem NewRow.mono {B' : Nat} (h : NewRow B w a cap xs) (hb : B' ≤ B) : NewRow B' w a cap xs := Row.keeps h (under_mono hb w)
theorem NewRow.empty (B : Nat) (w : World) (a : Option Addr) (cap : Nat) (h : cap ≤ 9223372036854775807) (hn : a = none → cap = 0) : NewRow B w a cap ([] : List α) := Row.empty _ _ _ h hn
theorem NewRow.lit {ys : List α} (h : NewRow B w a cap xs) (e : xs = ys) : NewRow B w a cap ys := e ▸ h
end
theorem own_newG {α : Type} [RepC α] {w : World} {B e : Nat} {v : Value} {vs : List Value} {xs : List α} (h : w.ownsRow B e (Rep.sz α) v xs.length vs) (hs : CRows (under B w) vs xs) :
    ∃ a cap, v = .slice a xs.length cap ∧ NewRow B w a cap xs := own_rowG (under_own h) hs
end Go.Proofs.Ytmmnfkggfnokjaa
namespace Go.Proofs.Ytmmnfkggfnokjaa
open Go.RowKit
theorem own_belowA {w w' : World} {B e size : Nat} {v : Value} {n : Nat} {xs : List Value} (h : w.ownsRow B e size v n xs) (hb : Below w.heap.size w w') : w'.ownsRow B e size v n xs :=
  h.kept (row := none) ⟨hb.os, hb.tape, hb.output, hb.size, fun k hk _ => hb.block k hk⟩ (by cases hv : v.ownBlock <;> simp)
/-- a row of the call's own that is appended to -/
structure AccInv {α : Type} [RepC α] (B e : Nat) (acc : List α) (v : Value) (w : World) : Prop where
  ex : ∃ vs, w.ownsRow B e (Rep.sz α) v acc.length vs ∧ CRows (hide v.ownBlock w) vs acc
section
variable {α : Type} [RepC α] {B e : Nat} {acc : List α} {v : Value} {w w' : World}
theorem AccInv.nil (B e : Nat) (w : World) : AccInv B e ([] : List α) (.slice none 0 0) w := ⟨[], World.ownsRow_nil _ _ _ _, .nil⟩
theorem AccInv.made {T : Nat} (w : World) (hB : B ≤ w.heap.size) (he : e = T) : AccInv B e ([] : List α) (.slice (some ⟨w.heap.size, 0, none⟩) 0 0) (w.alloc (.cells #[] T)) :=
  ⟨[], by subst he; simpa using World.ownsRow_made (base := B) (e := e) (size := Rep.sz α) w #[] 0 hB (by unfold maxLen; omega) (by simp), .nil⟩
theorem AccInv.below (h : AccInv B e acc v w) (hb : Below w.heap.size w w') : AccInv B e acc v w' :=
  let ⟨vs, ho, hc⟩ := h.ex
  ⟨vs, own_belowA ho hb, hc.keeps (below_hide hb _)⟩
theorem AccInv.lt (h : AccInv B e acc v w) : ∀ g, v.ownBlock = some g → B ≤ g ∧ g < w.heap.size := let ⟨_, ho, _⟩ := h.ex; fun g hg => ho.lt g hg
theorem AccInv.row (h : AccInv B e acc v w) : ∃ a cap, v = .slice a acc.length cap ∧ Row w a cap acc :=
  let ⟨_, ho, hc⟩ := h.ex; own_rowG ho (hc.keeps (hide_keeps _ _))
theorem AccInv.lit {acc' : List α} (h : AccInv B e acc v w) (e1 : acc = acc') : AccInv B e acc' v w := e1 ▸ h
/-- what was there when the call began is read beside the row -/
theorem AccInv.fresh {w0 : World} (h : AccInv w0.heap.size e acc v w) (hb : Below w0.heap.size w0 w) : Keeps w0 (hide v.ownBlock w) := by
  obtain ⟨_, ho, _⟩ := h.ex
  cases hv : v.ownBlock with
  | none => exact Keeps.of hb
  | some g => exact fresh_keeps (Keeps.of hb) (ho.lt g hv).1
/-- a slice that is newer than the row is read beside it -/
theorem AccInv.newer {β : Type} [Rep β] {B2 : Nat} {w2 : World} {a : Option Addr} {cap : Nat} {ys : List β} (h : AccInv B e acc v w) (hB : w.heap.size ≤ B2) (hr : NewRow B2 w2 a cap ys) : Row (hide v.ownBlock w2) a cap ys :=
  hr.hide fun g hg => Nat.lt_of_lt_of_le (h.lt g hg).2 hB
end
/-- append of one element, laid just ahead of it -/
theorem wpList_acc {α : Type} [RepC α] {P : Program} {w : World} {ops : Array Oper} {rest : List Oper} {o : Oper} {a : Act} {Q : Exit → Act → World → Prop} (hgd : o.guard = none) (s x : Operand) (t : TypeId)
    (ho : o.op = .call { callee := .builtin .append, args := #[s, x], argTypes := #[t, t] })
    (B e bytes : Nat) (z : Value) (ht : P.underlying t = some (.slice e)) (hinfo : (P.info? e).map (fun i => (i.zero, i.size, i.bytes)) = some (some z, Rep.sz α, bytes))
    (hzs : z.cells.size = Rep.sz α) (hby : bytes ≤ 1000)
    (v : Value) (acc : List α) (hacc : AccInv B e acc v w) (hs : a.eval s = v) (T : Nat) (cs : Array Value) (y : α) (hcs : RepC.C (hide v.ownBlock w) cs.toList y)
    (hx : a.eval x = .slice (some ⟨w.heap.size, 0, none⟩) 1 1)
    (hmax : acc.length + 1 ≤ 1000000000) (hB : B ≤ w.heap.size)
    (h : ∀ v' w', AccInv B e (acc ++ [y]) v' w' → Below B w w' → wpList P ops Q rest (a.put o.dst v') w') : wpList P ops Q (o :: rest) a (w.alloc (.cells cs T)) := by
  obtain ⟨vs, hown, hc⟩ := hacc.ex
  refine wpList_app2 hgd s x t ho B e (Rep.sz α) bytes z ht hinfo hzs RepC.pos hby v acc.length vs hs (hown.alloc _) ⟨w.heap.size, 0, none⟩ 1 1 cs.toList hx (src_new w cs T (Rep.sz α) (by have := RepC.len hcs; simpa using this) (fun u hu => RepC.one hcs u hu)) hmax (Nat.le_trans hB (by simp)) ?_
  intro v' w' h1 _ h3 h4
  refine h v' w' ⟨vs ++ cs.toList, by rw [List.length_append]; exact h1, ?_⟩ (((Below.refl B w).alloc hB _).trans h3)
  exact ((hc.keeps (alloc_hide w _ _)).keeps h4).snoc (RepC.cmono (RepC.cmono hcs (alloc_hide w _ _)) h4)
theorem Row.srcK {α : Type} [RepC α] {w w' : World} {a : Option Addr} {cap : Nat} {xs : List α} (h : Row w a cap xs) (hk : Keeps w w') : ∃ vs, CRows w vs xs ∧ Src w' (Rep.sz α) a xs.length cap vs := by
  rcases h.cases with rfl | ⟨b, off, rfl, _, hat⟩
  · refine ⟨[], .nil, ⟨by simp, fun e => ⟨rfl, h.nil e⟩, fun ad _ j u hj => by simp at hj, fun u hu => by simp at hu⟩⟩
  · obtain ⟨vs, hv, hvat⟩ := crows_of (w := w) (b := b) xs off (fun i x hi => by
      obtain ⟨hl, rfl⟩ := List.getElem?_eq_some_iff.1 hi
      exact hat i hl)
    refine ⟨vs, hv, ⟨hv.len, (fun e => by cases e), ?_, hv.one⟩⟩
    intro ad e j u hj
    simp at e
    subst e
    have ha : (Addr.mk b off none).add j = ⟨b, off + j, none⟩ := by unfold Addr.add; split <;> simp_all
    rw [ha]
    exact hk _ _ _ (hvat j u hj)
end Go.Proofs.Ytmmnfkggfnokjaa
namespace Go.Proofs.Ytmmnfkggfnokjaa
open Go.RowKit
set_option maxHeartbeats 400000 in
theorem refname_any (s : ByteArray) (w : World) (hs : s.size ≤ 9223372036854775807) :
    Calls Try.prog 201 #[.string s] w fun e w' => e = .returned (.bool (nameOk s)) ∧ w = w' := by
  go_enter Try.func201, Try.ntmps201
  go_wp2
  go_loop [3] (fun i => ∃ k : Nat, k ≤ s.size ∧ i = .int .i64 k ∧ Hid ((s.data.toList.take k).all okByte = true)) (fun i => s.size - (intOf i).toNat)
  case atStart => exact ⟨0, Nat.zero_le _, rfl, rfl⟩
  case round =>
    obtain ⟨k, hk, rfl, Hall⟩ := hrel
    by_cases hlt : k < s.size
    · cases hb : okByte s[k] with
      | true =>
        obtain ⟨b1, b2, b3⟩ := okByte_true hb
        have HT : Hid ((s.data.toList.take (k+1)).all okByte = true) := all_snoc s k hlt Hall.out hb
        clear hb Hall
        go_wp2
        go_round
        case rel => exact ⟨k + 1, by omega, by go_num, HT⟩
        case measure => simp [intOf]; omega
      | false =>
        have HF : Hid (nameOk s = false) := all_bad s k hlt hb
        have hc := okByte_false hb
        clear hb Hall
        rcases hc with h | ⟨h1, h2⟩ | ⟨h1, h2, h3⟩
        all_goals
          go_wp2
          go_ret
          exact ⟨ret_bool HF.out.symm, rfl⟩
    · have HT : Hid (nameOk s = (decide (1 ≤ (s.size : Int)) && decide ((s.size : Int) ≤ 12))) := by
        have := Hall.out
        rw [List.take_of_length_le (by simp; omega)] at this
        exact nameOk_of s this
      clear Hall
      go_wp2
      all_goals
        go_ret
        refine ⟨ret_bool ?_, rfl⟩
        rw [HT.out]
        simp
        try omega
set_option maxHeartbeats 400000 in
theorem refcell_any (c : Cel) (w : World) (hf : c.fit) :
    Calls Try.prog 162 #[c.v] w fun e w' => e = .returned (.bool (cellOk c)) ∧ Below w.heap.size w w' := by
  obtain ⟨k, s, n⟩ := c
  obtain ⟨k1, k2, n1, n2, hs⟩ := hf
  dsimp only [Cel.v] at *
  go_enter Try.func162, Try.ntmps162
  go_wp2_with (go_at_call 201; refine (refname_any _ _ (by assumption)).mono ?_; rintro e w' ⟨rfl, rfl⟩)
  all_goals
    go_ret
    refine ⟨ret_bool ?_, (Below.refl _ _).alloc (Nat.le_refl _) _⟩
    simp_all [cellOk]
    try omega

set_option maxHeartbeats 400000 in
theorem refend_any (a : Option Addr) (cap : Nat) (i0 : Nat) (w : World) (xs : List Cel) (hr : Row w a cap xs) (hl : xs.length ≤ 1048576) (h0 : i0 ≤ 1048576) :
    Calls Try.prog 90 #[.slice a xs.length cap, .int .i64 i0] w fun e w' => e = .returned (.int .i64 (endI xs i0)) ∧ Below w.heap.size w w' := by
  rcases hr.cases with rfl | ⟨b, off, rfl, hb, hat⟩
  · have HE : Hid (endI [] i0 = -1) := endI_none (sk_end 0 [] i0 (by simp))
    have hcap := hr.max
    go_enter Try.func90, Try.ntmps90
    go_wp2
    go_loopw [5, 6] (fun o i wr => ∃ k : Nat, i = .int .i64 k ∧ Below w.heap.size w wr) (fun o i wr => 0)
    case atStart => exact ⟨i0, rfl, Below.refl _ _⟩
    case round =>
      obtain ⟨k, rfl, hbl⟩ := hrel
      go_wp2
      go_ret
      exact ⟨ret_int HE.out.symm, hbl⟩
  · go_enter Try.func90, Try.ntmps90
    go_wp2
    go_loopw [5, 6] (fun o i wr => ∃ k m : Nat, k ≤ 1048576 ∧ m ≤ 6 * k ∧ i = .int .i64 k ∧ o = .int .i64 (m + 1) ∧ Below w.heap.size w wr ∧ Hid (sk 1 (xs.drop i0) = sk (m + 1) (xs.drop k))) (fun o i wr => 1048576 - (intOf i).toNat)
    case atStart => exact ⟨i0, 0, h0, Nat.zero_le _, rfl, rfl, Below.refl _ _, rfl⟩
    case round =>
      obtain ⟨k, m, hk, hm, rfl, rfl, hbl, HS⟩ := hrel
      by_cases hlt : k < xs.length
      · obtain ⟨c0, c1, c2, hf⟩ := cel_at hat hbl hlt
        have n1 := hf.n1
        have n2 := hf.n2
        have HA : Hid (cellOk xs[k] = true → (xs[k].k == 3) = true → 0 ≤ xs[k].n ∧ xs[k].n ≤ 6) := cellOk_fun _
        go_wp2_with (go_at_call 162; refine (refcell_any xs[k] _ hf).mono ?_; rintro e w' ⟨rfl, hb1⟩; have d0 := keep c0 hb1; have d2 := keep c2 hb1; clear c0 c1 c2; cases hok : cellOk xs[k])
        · go_ret
          exact ⟨ret_int (end_l1 HS.out hlt hok).symm, hbl.then hb1⟩
        · have h3 : (xs[k].k == 3) = true := by assumption
          have hz : (wrap64 ((m : Int) + xs[k].n) == 0) = true := by assumption
          go_ret
          exact ⟨ret_int (end_l2 hm hk HS.out hlt hok h3 hz).symm, hbl.then hb1⟩
        · have h3 : (xs[k].k == 3) = true := by assumption
          have hz : (wrap64 ((m : Int) + xs[k].n) == 0) = false := by assumption
          obtain ⟨m', e1, e2, e3⟩ := end_l3 hm hk HS.out hlt hok h3 hz
          go_round
          case rel => exact ⟨k + 1, m', by omega, by omega, by go_num, by rw [e1], hbl.then hb1, e3⟩
          case measure => simp [intOf]; omega
        · have h3 : (xs[k].k == 3) = false := by assumption
          have hz : ((m : Int) == 0) = true := by assumption
          go_ret
          exact ⟨ret_int (end_l4 HS.out hlt hok h3 hz).symm, hbl.then hb1⟩
        · have h3 : (xs[k].k == 3) = false := by assumption
          have hz : ((m : Int) == 0) = false := by assumption
          go_round
          case rel => exact ⟨k + 1, m - 1, by omega, by omega, by go_num, by simp at hz; congr 1; omega, hbl.then hb1, end_l5 HS.out hlt hok h3 hz⟩
          case measure => simp [intOf]; omega
      · have HE : Hid (endI xs i0 = -1) := endI_none (by rw [HS.out, sk_end _ _ _ (by omega)])
        go_wp2
        go_ret
        exact ⟨ret_int HE.out.symm, hbl⟩
end Go.Proofs.Ytmmnfkggfnokjaa
namespace Go.Proofs.Ytmmnfkggfnokjaa
open Go.RowKit
set_option maxHeartbeats 400000 in
theorem refright_any (a : Option Addr) (cap : Nat) (w : World) (xs : List Cel) (hr : Row w a cap xs) :
    Calls Try.prog 30 #[.slice a xs.length cap] w fun e w' => e = .returned (.bool (rightB xs)) ∧ Below w.heap.size w w' := by
  by_cases h1 : xs.length < 1
  · have HF := mkHid (rightB_pos h1)
    go_enter Try.func30, Try.ntmps30
    go_wp2
    go_ret
    exact ⟨ret_bool HF.out.symm, Below.refl _ _⟩
  · go_enter Try.func30, Try.ntmps30
    go_wp2_with (go_at_call 90; refine (refend_any a cap 0 _ xs hr (by omega) (by omega)).mono ?_; rintro e w' ⟨rfl, hb1⟩)
    · go_ret
      exact ⟨ret_bool (rightB_le (by assumption)), hb1⟩
    · go_ret
      exact ⟨ret_bool (rightB_gt (by assumption)), Below.refl _ _⟩
set_option maxHeartbeats 400000 in
theorem named_any (s : ByteArray) (w : World) (hs : s.size ≤ 9223372036854775807) :
    Calls Try.prog 221 #[.string s] w fun e w' => e = .returned (.bool (nameOk s)) ∧ Below w.heap.size w w' := by
  by_cases h1 : s.size < 1
  · have HF : Hid (nameOk s = false) := by simp [Hid, nameOk]; intros; omega
    go_enter Try.func221, Try.ntmps221
    go_wp2
    go_ret
    exact ⟨ret_bool HF.out.symm, Below.refl _ _⟩
  by_cases h2 : 12 < s.size
  · have HF : Hid (nameOk s = false) := by simp [Hid, nameOk]; intros; omega
    go_enter Try.func221, Try.ntmps221
    go_wp2
    go_ret
    exact ⟨ret_bool HF.out.symm, Below.refl _ _⟩
  go_enter Try.func221, Try.ntmps221
  go_wp2
  go_loopw [15] (fun i wr => ∃ k : Nat, k ≤ s.size ∧ i = .int .i64 k ∧ Below w.heap.size w wr ∧ Hid ((s.data.toList.take k).all okByte = true)) (fun i wr => s.size - (intOf i).toNat)
  case atStart => exact ⟨0, Nat.zero_le _, rfl, Below.refl _ _, rfl⟩
  case round =>
    obtain ⟨k, hk, rfl, hbl, Hall⟩ := hrel
    by_cases hlt : k < s.size
    · cases hb : okByte s[k] with
      | true =>
        obtain ⟨b1, b2, b3⟩ := okByte_true hb
        have HT : Hid ((s.data.toList.take (k+1)).all okByte = true) := all_snoc s k hlt Hall.out hb
        clear hb Hall
        go_wp2
        go_round
        case rel => exact ⟨k + 1, by omega, by go_num, hbl, HT⟩
        case measure => simp [intOf]; omega
      | false =>
        have HF : Hid (nameOk s = false) := all_bad s k hlt hb
        have hc := okByte_false hb
        clear hb Hall
        rcases hc with h | ⟨h1, h2⟩ | ⟨h1, h2, h3⟩
        all_goals
          go_wp2
          go_ret
          exact ⟨ret_bool HF.out.symm, hbl⟩
    · have HT : Hid (nameOk s = (decide (1 ≤ (s.size : Int)) && decide ((s.size : Int) ≤ 12))) := by
        have := Hall.out
        rw [List.take_of_length_le (by simp; omega)] at this
        exact nameOk_of s this
      clear Hall
      go_wp2
      go_ret
      refine ⟨ret_bool ?_, hbl⟩
      rw [HT.out]
      simp
      omega
set_option maxHeartbeats 400000 in
theorem may_any (c : Cel) (w : World) (hf : c.fit) :
    Calls Try.prog 203 #[c.v] w fun e w' => e = .returned (.bool (cellOk c)) ∧ Below w.heap.size w w' := by
  obtain ⟨k, s, n⟩ := c
  obtain ⟨k1, k2, n1, n2, hs⟩ := hf
  dsimp only [Cel.v] at *
  go_enter Try.func203, Try.ntmps203
  have hb0 : Below w.heap.size w w := Below.refl _ _
  go_wp2_with (go_at_call 221; refine (named_any _ _ (by assumption)).mono ?_; rintro e w' ⟨rfl, hb1⟩; replace hb0 := ((Below.refl w.heap.size w).new _).then hb1)
  all_goals
    go_ret
    refine ⟨ret_bool ?_, (by first | assumption | exact (Below.refl _ _).alloc (Nat.le_refl _) _)⟩
    simp_all [cellOk]
    try omega
set_option maxHeartbeats 400000 in
theorem arguments_any (c : Cel) (w : World) :
    Calls Try.prog 190 #[c.v] w fun e w' => e = .returned (.int .i64 (arI c)) ∧ Below w.heap.size w w' := by
  obtain ⟨k, s, n⟩ := c
  dsimp only [Cel.v] at *
  go_enter Try.func190, Try.ntmps190
  go_wp2
  all_goals
    go_ret
    refine ⟨ret_int ?_, (Below.refl _ _).alloc (Nat.le_refl _) _⟩
    simp_all [arI]
end Go.Proofs.Ytmmnfkggfnokjaa
namespace Go.Proofs.Ytmmnfkggfnokjaa
open Go.RowKit
def placeI (l : List Int) (n : Int) : Int := if n ∈ l then (l.idxOf n : Int) else -1
theorem not_mem_snoc {xs : List Int} {n : Int} {k : Nat} (hlt : k < xs.length) (h : n ∉ xs.take k) (he : ¬ xs[k] = n) : n ∉ xs.take (k + 1) := by
  rw [List.take_succ_eq_append_getElem hlt, List.mem_append]
  simp only [List.mem_singleton]
  rintro (h' | h')
  · exact h h'
  · exact he h'.symm
theorem idxOf_at {xs : List Int} {n : Int} {k : Nat} (hlt : k < xs.length) (h : n ∉ xs.take k) (he : xs[k] = n) : placeI xs n = k := by
  have hm : n ∈ xs := he ▸ List.getElem_mem hlt
  have hs : xs = xs.take k ++ (xs[k] :: xs.drop (k + 1)) := by
    rw [← List.drop_eq_getElem_cons hlt, List.take_append_drop]
  unfold placeI
  rw [if_pos hm, hs, List.idxOf_append, if_neg h, he]
  simp
  omega
set_option maxHeartbeats 400000 in
theorem refplace_any (a : Option Addr) (cap : Nat) (n : Int) (w : World) (xs : List Int) (hx : Row w a cap xs) :
    Calls Try.prog 177 #[.slice a xs.length cap, .int .i64 n] w fun e w' => e = .returned (.int .i64 (placeI xs n)) ∧ Below w.heap.size w w' := by
  have hm := hx.max
  have hm2 := hx.le
  go_enter Try.func177, Try.ntmps177
  go_wp2
  go_loopw [5] (fun i wr => ∃ k : Nat, k ≤ xs.length ∧ i = .int .i64 k ∧ Below w.heap.size w wr ∧ Hid (n ∉ xs.take k)) (fun i wr => xs.length - (intOf i).toNat)
  case atStart => exact ⟨0, Nat.zero_le _, rfl, Below.refl _ _, by simp [Hid]⟩
  case round =>
    obtain ⟨k, hk, rfl, hbl, HS⟩ := hrel
    by_cases hlt : k < xs.length
    · obtain ⟨b, off, rfl, hb, hat⟩ := hx.cases.resolve_left (fun e => by simp [e] at hlt)
      obtain ⟨c0, _, _⟩ := int_at hat hbl hlt
      by_cases he : xs[k] = n
      · have HE : Hid ((k : Int) = (placeI xs n)) := by exact (idxOf_at hlt HS.out he).symm
        have ht : (xs[k] == n) = true := by simp [he]
        clear he HS
        go_wp2
        go_ret
        exact ⟨ret_int HE.out, hbl⟩
      · have ht : (xs[k] == n) = false := by simp [he]
        have HT : Hid (n ∉ xs.take (k + 1)) := not_mem_snoc hlt HS.out he
        clear he HS
        go_wp2
        go_round
        case rel => exact ⟨k + 1, by omega, by go_num, hbl, HT⟩
        case measure => simp [intOf]; omega
    · have HE : Hid (-1 = (placeI xs n)) := by
        have := HS.out
        rw [List.take_of_length_le (by omega)] at this
        simp [Hid, placeI, this]
      clear HS
      go_wp2
      go_ret
      exact ⟨ret_int HE.out, hbl⟩
end Go.Proofs.Ytmmnfkggfnokjaa
namespace Go.Proofs.Ytmmnfkggfnokjaa
open Go.RowKit
theorem Try.infoCell : (Try.prog.info? 79).map (fun i => (i.zero, i.size, i.bytes)) = some (some (.agg #[.int .i64 0, .string ⟨#[]⟩, .int .i64 0]), 3, 32) := by kernel_rfl
set_option maxHeartbeats 400000 in
theorem clone_any (a : Option Addr) (cap : Nat) (w : World) (xs : List Cel) (hx : Row w a cap xs) (hl : xs.length ≤ 1000000) :
    Calls Try.prog 132 #[.slice a xs.length cap] w fun e w' => ∃ v, e = .returned v ∧ w'.ownsRow w.heap.size 79 3 v xs.length (flat xs) ∧ Below w.heap.size w w' := by
  have hsrc := hx.src
  cases a with
  | none =>
    have h0 := (hsrc.nil rfl).1
    obtain rfl : xs = [] := List.eq_nil_of_length_eq_zero h0
    have hc := hx.nil rfl
    subst hc
    have hnil := fun w' : World => Lib.run_eql_slice_nil (P := Try.prog) w' 22 79 none 0 0 0 0 Try.underlying22
    go_enter Try.func132, Try.ntmps132
    go_wp2
    go_ret
    exact ⟨_, rfl, World.ownsRow_nil _ _ _ _, Below.refl _ _⟩
  | some ad =>
    have hnil := fun w' : World => Lib.run_eql_slice_nil (P := Try.prog) w' 22 79 (some ad) xs.length cap 0 0 Try.underlying22
    have hm := World.ownsRow_made (base := w.heap.size) (e := 79) (size := 3) w #[] 0 (Nat.le_refl _) (by unfold maxLen; omega) rfl
    have hb0 := (Below.refl w.heap.size w).new (.cells #[] 79)
    have hs : Src (w.alloc (.cells #[] 79)) 3 (some ad) xs.length cap (flat xs) := (hx.below hb0).src
    go_enter Try.func132, Try.ntmps132
    go_wp2_with (at_builtin; refine wpList_app rfl _ _ 22 rfl w.heap.size 79 3 32 _ Try.underlying22 Try.infoCell rfl (by decide) (by decide) _ 0 [] rfl hm (some ad) xs.length cap (flat xs) rfl hs (by omega) (by simp) ?_; intro v' w' hown _ hb1)
    go_ret
    refine ⟨_, rfl, by simpa using hown, ?_⟩
    exact hb0.trans hb1
theorem clone_any' (n : Nat) (a : Option Addr) (cap : Nat) (w : World) (xs : List Cel) (hn : n = xs.length) (hx : Row w a cap xs) (hl : xs.length ≤ 1000000) :
    Calls Try.prog 132 #[.slice a n cap] w fun e w' => ∃ v, e = .returned v ∧ w'.ownsRow w.heap.size 79 3 v xs.length (flat xs) ∧ Below w.heap.size w w' := by
  subst hn; exact clone_any a cap w xs hx hl
end Go.Proofs.Ytmmnfkggfnokjaa
namespace Go.Proofs.Ytmmnfkggfnokjaa
open Go.RowKit
set_option maxHeartbeats 800000 in
theorem pass_any (xs : List Cel) (a : Option Addr) (cap b1 o1 b2 o2 : Nat) (hl : xs.length ≤ 1000000) (m : Nat) : ∀ (i : Int) (w : World), (0 ≤ i → (xs.length : Int) - i ≤ m) → -9223372036854775808 ≤ i → i ≤ 9000000000000000000 →
    Row w a cap xs → w.cell? ⟨b1, o1, none⟩ = some (.slice a xs.length cap) → w.cell? ⟨b2, o2, none⟩ = some (.func (.func 202) #[] #[.pointer (some ⟨b1, o1, none⟩), .pointer (some ⟨b2, o2, none⟩)]) →
    Calls Try.prog 202 #[.int .i64 i, .pointer (some ⟨b1, o1, none⟩), .pointer (some ⟨b2, o2, none⟩)] w fun e w' => e = .returned (.int .i64 (passI xs i)) ∧ Below w.heap.size w w' := by
  induction m with
  | zero =>
    intro i w hm hlo hhi hr h1 h2
    have HE : Hid (-1 = passI xs i) := by
      unfold Hid passI; split
      · rw [endI_out (by omega)]
      · rfl
    have hc := hr.le
    have hc2 := hr.max
    by_cases hneg : i < 0
    · go_enter Try.func202, Try.ntmps202
      go_wp2_with fail
      go_ret
      exact ⟨ret_int HE.out, Below.refl _ _⟩
    · have hge : (xs.length : Int) ≤ i := by have := hm (by omega); omega
      clear hm
      go_enter Try.func202, Try.ntmps202
      go_wp2_with fail
      go_ret
      exact ⟨ret_int HE.out, Below.refl _ _⟩
  | succ m ih =>
    intro i w hm hlo hhi hr h1 h2
    have hc := hr.le
    have hc2 := hr.max
    by_cases hneg : i < 0
    · have HE : Hid (-1 = passI xs i) := by
        unfold Hid passI; rw [if_neg (by omega)]
      clear hm
      go_enter Try.func202, Try.ntmps202
      go_wp2_with fail
      go_ret
      exact ⟨ret_int HE.out, Below.refl _ _⟩
    by_cases hge : (xs.length : Int) ≤ i
    · have HE : Hid (-1 = passI xs i) := by
        unfold Hid passI; rw [if_pos (by omega), endI_out (by omega)]
      clear hm
      go_enter Try.func202, Try.ntmps202
      go_wp2_with fail
      go_ret
      exact ⟨ret_int HE.out, Below.refl _ _⟩
    obtain ⟨k, rfl⟩ := Int.eq_ofNat_of_zero_le (show 0 ≤ i by omega)
    have hk : k < xs.length := by omega
    have hmm : xs.length - k ≤ m + 1 := by have := hm (by omega); omega
    clear hm
    obtain ⟨b, off, rfl, hb, hat⟩ := hr.cases.resolve_left (fun e => by simp [e] at hk)
    obtain ⟨c0, c1, c2, hf⟩ := cel_at hat (Below.refl _ _) hk
    cases hok : cellOk xs[k] with
    | false =>
      have HE : Hid (-1 = passI xs k) := by
        unfold Hid passI; rw [if_pos (by omega), Int.toNat_natCast, endI_bad hk hok]
      have hok' := mkHid hok
      clear hok
      go_enter Try.func202, Try.ntmps202
      go_wp2_with (go_at_call 203; refine (may_any xs[k] _ hf).mono ?_; rintro e w' ⟨rfl, hb1⟩; rw [hok'.out])
      go_ret
      exact ⟨ret_int HE.out, hb1⟩
    | true =>
      have HE : Hid (afterI xs (k + 1) (ar xs[k]) = passI xs k) := by
        unfold Hid passI; rw [if_pos (by omega), Int.toNat_natCast, endI_ok hk hok]
      have har := ar_le _ hok
      have HA := mkHid (arI_ar hok)
      have hok' := mkHid hok
      clear hok
      go_enter Try.func202, Try.ntmps202
      go_wp2_with (first
        | (go_at_call 203; refine (may_any xs[k] _ hf).mono ?_; rintro e w' ⟨rfl, hb1⟩; rw [hok'.out]; have d0 := keep c0 hb1; have d1 := keep c1 hb1; have d2 := keep c2 hb1; have k1 := keep h1 hb1; have k2 := keep h2 hb1; clear c0 c1 c2 h1 h2)
        | (go_at_call 190; refine (arguments_any xs[k] _).mono ?_; rintro e w2 ⟨rfl, hb2⟩; rw [HA.out]; clear d0 d1 d2))
      have hb12 := hb1.then hb2
      have k1' := keep k1 hb2
      have k2' := keep k2 hb2
      have hr2 := hr.below hb12
      clear k1 k2
      go_loopw [5, 29] (fun x j wr => ∃ j' : Nat, j' ≤ ar xs[k] ∧ j = .int .i64 j' ∧ x = .int .i64 (afterI xs (k + 1) j') ∧ Below w2.heap.size w2 wr) (fun x j wr => ar xs[k] - (intOf j).toNat)
      case atStart => exact ⟨0, Nat.zero_le _, rfl, by rw [afterI_zero (by omega)]; rfl, Below.refl _ _⟩
      case round =>
        obtain ⟨j, hj, rfl, rfl, hbl⟩ := hrel
        have q1 := keep k1' hbl
        have q2 := keep k2' hbl
        have hr3 := hr2.below hbl
        have hrg := afterI_range (xs := xs) (i := k + 1) (j := j) (by omega)
        have HS := mkHid (afterI_succ (xs := xs) (i := k + 1) (j := j) (by omega))
        by_cases hlt : j < ar xs[k]
        · go_wp2_with (go_at_call 202; refine (ih (afterI xs (k + 1) j) _ (by omega) (by omega) (by omega) hr3 q1 q2).mono ?_; rintro e w3 ⟨rfl, hb3⟩; rw [HS.out])
          go_round
          case rel => exact ⟨j + 1, by omega, by go_num, rfl, hbl.then hb3⟩
          case measure => simp [intOf]; omega
        · obtain rfl : j = ar xs[k] := by omega
          go_wp2
          go_ret
          exact ⟨ret_int HE.out, (hb12.then hbl)⟩
set_option maxHeartbeats 400000 in
theorem behind_any (a : Option Addr) (cap : Nat) (i : Int) (w : World) (xs : List Cel) (hr : Row w a cap xs) (hl : xs.length ≤ 1000000) (h1 : -9223372036854775808 ≤ i) (h2 : i ≤ 9000000000000000000) :
    Calls Try.prog 163 #[.slice a xs.length cap, .int .i64 i] w fun e w' => e = .returned (.int .i64 (passI xs i)) ∧ Below w.heap.size w w' := by
  have hmf : ∀ (fn : Fn) (first cap : Array Value) (w : World), (Instr.makeFunc fn first cap).run Try.prog w = .ok (.func fn first cap) w := fun _ _ _ _ => rfl
  have hc := hr.le
  have hc2 := hr.max
  go_enter Try.func163, Try.ntmps163
  go_wp2_with fail
  refine (pass_any xs a cap w.heap.size 0 (w.heap.size + 1) 0 hl xs.length i _ (by omega) h1 h2 ?_ ?_ ?_).mono ?_
  · exact hr.below (((Below.refl _ _).new _).new _)
  · go_simp
  · go_simp
  rintro e w' ⟨rfl, hb1⟩
  go_wp2
  go_ret
  exact ⟨rfl, (((Below.refl _ _).new _).new _).then hb1⟩
theorem passI_zero (xs : List Cel) : passI xs 0 = endI xs 0 := rfl
set_option maxHeartbeats 400000 in
theorem right_any (a : Option Addr) (cap : Nat) (w : World) (xs : List Cel) (hr : Row w a cap xs) :
    Calls Try.prog 92 #[.slice a xs.length cap] w fun e w' => e = .returned (.bool (rightB xs)) ∧ Below w.heap.size w w' := by
  go_enter Try.func92, Try.ntmps92
  go_wp2_with (go_at_call 163; refine (behind_any a cap 0 _ xs hr (by omega) (by omega) (by omega)).mono ?_; rintro e w' ⟨rfl, hb1⟩; rw [passI_zero])
  · go_ret
    exact ⟨ret_bool (rightB_le (by assumption)), hb1⟩
  · go_ret
    exact ⟨ret_bool (rightB_gt (by assumption)), Below.refl _ _⟩
end Go.Proofs.Ytmmnfkggfnokjaa
namespace Go.Proofs.Ytmmnfkggfnokjaa
open Go.RowKit
theorem Try.infoInt : (Try.prog.info? 3).map (fun i => (i.zero, i.size, i.bytes)) = some (some (.int .i64 0), 1, 8) := by kernel_rfl
theorem own_below {w w' : World} {B e size : Nat} {v : Value} {n : Nat} {xs : List Value} (h : w.ownsRow B e size v n xs) (hb : Below w.heap.size w w') : w'.ownsRow B e size v n xs :=
  h.kept (row := none) ⟨hb.os, hb.tape, hb.output, hb.size, fun k hk _ => hb.block k hk⟩ (by cases hv : v.ownBlock <;> simp)
end Go.Proofs.Ytmmnfkggfnokjaa
namespace Go.Proofs.Ytmmnfkggfnokjaa
open Go.RowKit
/-- block b of w is a map from int to bool of at most n entries; what is not there is the zero value -/
def MapIB (P : Program) (k e : TypeId) (w : World) (b n : Nat) (f : Int → Bool) : Prop :=
  ∃ D : DataW Unit, w.ownsMap P k (plainElem P e) b n D ∧ ∀ i, (Lit.int .i64 i).wf = true → D.atKey (.int .i64 i) (.lit (.bool false)) = .lit (.bool (f i))
theorem MapIB.made (P : Program) (k e : TypeId) (w : World) : MapIB P k e (w.alloc (.map #[] 0)) w.heap.size 0 (fun _ => false) :=
  ⟨.map [], World.ownsMap_made w P k _, fun _ _ => rfl⟩
section
variable {P : Program} {k e t : TypeId} {w w' : World} {b n : Nat} {f : Int → Bool}
theorem MapIB.lt (h : MapIB P k e w b n f) : b < w.heap.size := let ⟨_, h, _⟩ := h; h.lt
theorem MapIB.kept {row : Option Nat} (h : MapIB P k e w b n f) (hg : w.grownBy w' row) (hne : some b ≠ row) : MapIB P k e w' b n f :=
  let ⟨D, h, hf⟩ := h; ⟨D, h.kept hg hne, hf⟩
theorem MapIB.below (h : MapIB P k e w b n f) (hb : Below w.heap.size w w') : MapIB P k e w' b n f :=
  h.kept (row := none) ⟨hb.os, hb.tape, hb.output, hb.size, fun k hk _ => hb.block k hk⟩ (by simp)
theorem MapIB.alloc (h : MapIB P k e w b n f) (o : Obj) : MapIB P k e (w.alloc o) b n f := let ⟨D, h, hf⟩ := h; ⟨D, h.alloc o, hf⟩
theorem MapIB.mono (h : MapIB P k e w b n f) : MapIB P k e w b (n + 1) f := let ⟨D, h, hf⟩ := h; ⟨D, h.mono (Nat.le_succ _), hf⟩
theorem MapIB.put_at {D : DataW Unit} (hD : Go.Maps.IsMap D) (hf : ∀ i, (Lit.int .i64 i).wf = true → D.atKey (.int .i64 i) (.lit (.bool false)) = .lit (.bool (f i))) (i : Int) (x : Bool) :
    ∀ j, (Lit.int .i64 j).wf = true → (D.put (.int .i64 i) (.lit (.bool x))).atKey (.int .i64 j) (.lit (.bool false)) = .lit (.bool (if j = i then x else f j)) := by
  intro j hj
  by_cases e : j = i
  · subst e; rw [if_pos rfl]; exact Go.Maps.atKey_put_same hD (by simp [WideAt.IsKeyLit]) _ _
  · rw [if_neg e, ← hf j hj]; exact Go.Maps.atKey_put_other (by simp; exact e) _ _
theorem MapIB.wpl_update {ops : Array Oper} {rest : List Oper} {o : Oper} {a : Act} {Q : Exit → Act → World → Prop}
    (hg : o.guard = none) (m x y : Operand) (hop : o.op = Op.mapUpdate t m x y)
    (hk : P.underlying k = some (.int .i64)) (ht : P.underlying t = some (.map k e)) (he : P.underlying e = some (.bool))
    (hm : a.eval m = .map (some b)) (h : MapIB P k e w b n f) (hn : n < 9223372036854775807) (i : Int) (hx : a.eval x = .int .i64 i) (hi : (Lit.int .i64 i).wf = true) (z : Bool) (hy : a.eval y = .bool z)
    (hK : ∀ w', MapIB P k e w' b (n + 1) (fun j => if j = i then z else f j) → w.grownBy w' (some b) → wpList P ops Q rest (a.put o.dst undef) w') :
    wpList P ops Q (o :: rest) a w := by
  obtain ⟨D, h, hf⟩ := h
  refine wpList_mapUpdate_own w hg m x y t hop k e (Go.Maps.int_keyed hk) ht _ b n D hm h (by unfold maxLen; omega) _ _ _ hx hy (Go.Maps.keyOf_int_mk hk hi) (.lit (.bool z)) [] (plainElem_bool he z) ?_
  intro w' h' hg'
  exact hK w' ⟨_, h', MapIB.put_at h.isMap hf i z⟩ hg'
end
/-- block b of w is a map from int to int of at most n entries; what is not there is the zero value -/
def MapII (P : Program) (k e : TypeId) (w : World) (b n : Nat) (f : Int → Int) : Prop :=
  ∃ D : DataW Unit, w.ownsMap P k (plainElem P e) b n D ∧ ∀ i, (Lit.int .i64 i).wf = true → D.atKey (.int .i64 i) (.lit (.int .i64 0)) = .lit (.int .i64 (f i))
theorem MapII.made (P : Program) (k e : TypeId) (w : World) : MapII P k e (w.alloc (.map #[] 0)) w.heap.size 0 (fun _ => 0) :=
  ⟨.map [], World.ownsMap_made w P k _, fun _ _ => rfl⟩
section
variable {P : Program} {k e t : TypeId} {w w' : World} {b n : Nat} {f : Int → Int}
theorem MapII.lt (h : MapII P k e w b n f) : b < w.heap.size := let ⟨_, h, _⟩ := h; h.lt
theorem MapII.kept {row : Option Nat} (h : MapII P k e w b n f) (hg : w.grownBy w' row) (hne : some b ≠ row) : MapII P k e w' b n f :=
  let ⟨D, h, hf⟩ := h; ⟨D, h.kept hg hne, hf⟩
theorem MapII.below (h : MapII P k e w b n f) (hb : Below w.heap.size w w') : MapII P k e w' b n f :=
  h.kept (row := none) ⟨hb.os, hb.tape, hb.output, hb.size, fun k hk _ => hb.block k hk⟩ (by simp)
theorem MapII.alloc (h : MapII P k e w b n f) (o : Obj) : MapII P k e (w.alloc o) b n f := let ⟨D, h, hf⟩ := h; ⟨D, h.alloc o, hf⟩
theorem MapII.mono (h : MapII P k e w b n f) : MapII P k e w b (n + 1) f := let ⟨D, h, hf⟩ := h; ⟨D, h.mono (Nat.le_succ _), hf⟩
theorem MapII.put_at {D : DataW Unit} (hD : Go.Maps.IsMap D) (hf : ∀ i, (Lit.int .i64 i).wf = true → D.atKey (.int .i64 i) (.lit (.int .i64 0)) = .lit (.int .i64 (f i))) (i : Int) (x : Int) :
    ∀ j, (Lit.int .i64 j).wf = true → (D.put (.int .i64 i) (.lit (.int .i64 x))).atKey (.int .i64 j) (.lit (.int .i64 0)) = .lit (.int .i64 (if j = i then x else f j)) := by
  intro j hj
  by_cases e : j = i
  · subst e; rw [if_pos rfl]; exact Go.Maps.atKey_put_same hD (by simp [WideAt.IsKeyLit]) _ _
  · rw [if_neg e, ← hf j hj]; exact Go.Maps.atKey_put_other (by simp; exact e) _ _
theorem MapII.wpl_update {ops : Array Oper} {rest : List Oper} {o : Oper} {a : Act} {Q : Exit → Act → World → Prop}
    (hg : o.guard = none) (m x y : Operand) (hop : o.op = Op.mapUpdate t m x y)
    (hk : P.underlying k = some (.int .i64)) (ht : P.underlying t = some (.map k e)) (he : P.underlying e = some (.int .i64))
    (hm : a.eval m = .map (some b)) (h : MapII P k e w b n f) (hn : n < 9223372036854775807) (i : Int) (hx : a.eval x = .int .i64 i) (hi : (Lit.int .i64 i).wf = true) (z : Int) (hy : a.eval y = .int .i64 z) (hz : (Lit.int .i64 z).wf = true)
    (hK : ∀ w', MapII P k e w' b (n + 1) (fun j => if j = i then z else f j) → w.grownBy w' (some b) → wpList P ops Q rest (a.put o.dst undef) w') :
    wpList P ops Q (o :: rest) a w := by
  obtain ⟨D, h, hf⟩ := h
  refine wpList_mapUpdate_own w hg m x y t hop k e (Go.Maps.int_keyed hk) ht _ b n D hm h (by unfold maxLen; omega) _ _ _ hx hy (Go.Maps.keyOf_int_mk hk hi) (.lit (.int .i64 z)) [] (plainElem_int he hz) ?_
  intro w' h' hg'
  exact hK w' ⟨_, h', MapII.put_at h.isMap hf i z⟩ hg'
end
end Go.Proofs.Ytmmnfkggfnokjaa
namespace Go.Proofs.Ytmmnfkggfnokjaa
open Go.RowKit
theorem Try.zeroBool (w : World) : (zeroValue 4).run Try.prog w = .ok (.bool false) w := by kernel_rfl
theorem wf64 {n : Int} (h1 : -9223372036854775808 ≤ n) (h2 : n ≤ 9223372036854775807) : (Lit.int .i64 n).wf = true := WalkArith.wf_i64 ⟨h1, h2⟩
end Go.Proofs.Ytmmnfkggfnokjaa
namespace Go.Proofs.Ytmmnfkggfnokjaa
open Go.RowKit
def cmpI (a b : Int) : Int := if a < b then -1 else if b < a then 1 else 0
def cmpS (s t : ByteArray) : Int := if Op.bytesLess s.toList t.toList then -1 else if s = t then 0 else 1
def cellCmp (x y : Cel) : Int := if x.k = y.k then (if x.n = y.n then cmpS x.s y.s else cmpI x.n y.n) else cmpI x.k y.k
def compP : List Cel → List Cel → Int
  | [], [] => 0
  | [], _ :: _ => -1
  | _ :: _, [] => 1
  | x :: xs, y :: ys => if x = y then compP xs ys else cellCmp x y
end Go.Proofs.Ytmmnfkggfnokjaa
namespace Go.Proofs.Ytmmnfkggfnokjaa
open Go.RowKit
/-- a literal -/
structure Lt where
  neg : Bool
  t : List Cel
  deriving DecidableEq
/-- a clause -/
structure Cl where
  h : List Cel
  b : List Lt
  deriving DecidableEq
/-- a predicate -/
structure Pd where
  s : ByteArray
  n : Int
  deriving DecidableEq
/-- a link -/
structure Lk where
  f : Int
  t : Int
  neg : Bool
  deriving DecidableEq
structure LtE (w : World) (b o : Nat) (x : Lt) : Prop where
  ex : ∃ a cap, w.cell? ⟨b, o, none⟩ = some (.bool x.neg) ∧ w.cell? ⟨b, o + 1, none⟩ = some (.slice a x.t.length cap) ∧ Row w a cap x.t
instance instRepCLt : RepC Lt where
  sz := 2
  E := LtE
  mono h hb := let ⟨a, cap, h0, h1, hr⟩ := h.ex; ⟨⟨a, cap, hb _ _ _ h0, hb _ _ _ h1, hr.keeps hb⟩⟩
  lt h := let ⟨_, _, h0, _⟩ := h.ex; cell_lt h0
  C w cs x := ∃ a cap, cs = [.bool x.neg, .slice a x.t.length cap] ∧ Row w a cap x.t
  len := by rintro w cs x ⟨a, cap, rfl, _⟩; rfl
  one := by rintro w cs x ⟨a, cap, rfl, _⟩ u hu; simp at hu; rcases hu with rfl | rfl <;> rfl
  cmono := by rintro w w' cs x ⟨a, cap, rfl, h⟩ hk; exact ⟨a, cap, rfl, h.keeps hk⟩
  toE := by
    rintro w cs x b o ⟨a, cap, rfl, h⟩ hat
    exact ⟨a, cap, hat 0 _ rfl, hat 1 _ rfl, h⟩
  ofE := by
    rintro w x b o ⟨a, cap, h0, h1, h⟩
    refine ⟨_, ⟨a, cap, rfl, h⟩, fun j u hj => ?_⟩
    match j with
    | 0 => simp at hj; subst hj; exact h0
    | 1 => simp at hj; subst hj; exact h1
    | j + 2 => simp at hj
  pos := by decide
structure ClE (w : World) (b o : Nat) (x : Cl) : Prop where
  ex : ∃ a cap a' cap', w.cell? ⟨b, o, none⟩ = some (.slice a x.h.length cap) ∧ w.cell? ⟨b, o + 1, none⟩ = some (.slice a' x.b.length cap') ∧ Row w a cap x.h ∧ Row w a' cap' x.b
instance instRepCCl : RepC Cl where
  sz := 2
  E := ClE
  mono h hb := let ⟨a, cap, a', cap', h0, h1, hr, hr'⟩ := h.ex; ⟨⟨a, cap, a', cap', hb _ _ _ h0, hb _ _ _ h1, hr.keeps hb, hr'.keeps hb⟩⟩
  lt h := let ⟨_, _, _, _, h0, _⟩ := h.ex; cell_lt h0
  C w cs x := ∃ a cap a' cap', cs = [.slice a x.h.length cap, .slice a' x.b.length cap'] ∧ Row w a cap x.h ∧ Row w a' cap' x.b
  len := by rintro w cs x ⟨a, cap, a', cap', rfl, _⟩; rfl
  one := by rintro w cs x ⟨a, cap, a', cap', rfl, _⟩ u hu; simp at hu; rcases hu with rfl | rfl <;> rfl
  cmono := by rintro w w' cs x ⟨a, cap, a', cap', rfl, h, h'⟩ hk; exact ⟨a, cap, a', cap', rfl, h.keeps hk, h'.keeps hk⟩
  toE := by
    rintro w cs x b o ⟨a, cap, a', cap', rfl, h, h'⟩ hat
    exact ⟨a, cap, a', cap', hat 0 _ rfl, hat 1 _ rfl, h, h'⟩
  ofE := by
    rintro w x b o ⟨a, cap, a', cap', h0, h1, h, h'⟩
    refine ⟨_, ⟨a, cap, a', cap', rfl, h, h'⟩, fun j u hj => ?_⟩
    match j with
    | 0 => simp at hj; subst hj; exact h0
    | 1 => simp at hj; subst hj; exact h1
    | j + 2 => simp at hj
  pos := by decide
structure Pd.fit (p : Pd) : Prop where
  s : p.s.size ≤ 9223372036854775807
  n1 : -9223372036854775808 ≤ p.n
  n2 : p.n ≤ 9223372036854775807
structure PdE (w : World) (b o : Nat) (x : Pd) : Prop where
  c0 : w.cell? ⟨b, o, none⟩ = some (.string x.s)
  c1 : w.cell? ⟨b, o + 1, none⟩ = some (.int .i64 x.n)
  fit : x.fit
abbrev Pd.v (p : Pd) : Value := .agg #[.string p.s, .int .i64 p.n]
instance instRepCPd : RepC Pd where
  sz := 2
  E := PdE
  mono h hb := ⟨hb _ _ _ h.c0, hb _ _ _ h.c1, h.fit⟩
  lt h := cell_lt h.c0
  C _ cs x := cs = [.string x.s, .int .i64 x.n] ∧ x.fit
  len := by rintro w cs x ⟨rfl, _⟩; rfl
  one := by rintro w cs x ⟨rfl, _⟩ u hu; simp at hu; rcases hu with rfl | rfl <;> rfl
  cmono := by rintro w w' cs x h _; exact h
  toE := by
    rintro w cs x b o ⟨rfl, h⟩ hat
    exact ⟨hat 0 _ rfl, hat 1 _ rfl, h⟩
  ofE := by
    rintro w x b o ⟨h0, h1, h⟩
    refine ⟨_, ⟨rfl, h⟩, fun j u hj => ?_⟩
    match j with
    | 0 => simp at hj; subst hj; exact h0
    | 1 => simp at hj; subst hj; exact h1
    | j + 2 => simp at hj
  pos := by decide
structure Lk.fit (p : Lk) : Prop where
  f1 : -9223372036854775808 ≤ p.f
  f2 : p.f ≤ 9223372036854775807
  t1 : -9223372036854775808 ≤ p.t
  t2 : p.t ≤ 9223372036854775807
structure LkE (w : World) (b o : Nat) (x : Lk) : Prop where
  c0 : w.cell? ⟨b, o, none⟩ = some (.int .i64 x.f)
  c1 : w.cell? ⟨b, o + 1, none⟩ = some (.int .i64 x.t)
  c2 : w.cell? ⟨b, o + 2, none⟩ = some (.bool x.neg)
  fit : x.fit
abbrev Lk.v (p : Lk) : Value := .agg #[.int .i64 p.f, .int .i64 p.t, .bool p.neg]
instance instRepCLk : RepC Lk where
  sz := 3
  E := LkE
  mono h hb := ⟨hb _ _ _ h.c0, hb _ _ _ h.c1, hb _ _ _ h.c2, h.fit⟩
  lt h := cell_lt h.c0
  C _ cs x := cs = [.int .i64 x.f, .int .i64 x.t, .bool x.neg] ∧ x.fit
  len := by rintro w cs x ⟨rfl, _⟩; rfl
  one := by rintro w cs x ⟨rfl, _⟩ u hu; simp at hu; rcases hu with rfl | rfl | rfl <;> rfl
  cmono := by rintro w w' cs x h _; exact h
  toE := by
    rintro w cs x b o ⟨rfl, h⟩ hat
    exact ⟨hat 0 _ rfl, hat 1 _ rfl, hat 2 _ rfl, h⟩
  ofE := by
    rintro w x b o ⟨h0, h1, h2, h⟩
    refine ⟨_, ⟨rfl, h⟩, fun j u hj => ?_⟩
    match j with
    | 0 => simp at hj; subst hj; exact h0
    | 1 => simp at hj; subst hj; exact h1
    | 2 => simp at hj; subst hj; exact h2
    | j + 3 => simp at hj
  pos := by decide
section
variable {w wr : World} {b off : Nat}
theorem lt_at {xs : List Lt} (hat : ∀ i (hi : i < xs.length), Rep.E w b (off + i * Rep.sz Lt) xs[i]) (hb : Below w.heap.size w wr) {k : Nat} (hk : k < xs.length) :
    ∃ a cap, wr.cell? ⟨b, off + k * 2, none⟩ = some (.bool xs[k].neg) ∧ wr.cell? ⟨b, off + k * 2 + 1, none⟩ = some (.slice a xs[k].t.length cap) ∧ Row wr a cap xs[k].t := by
  have h : LtE w b (off + k * 2) xs[k] := hat k hk
  obtain ⟨a, cap, h0, h1, hr⟩ := h.ex
  exact ⟨a, cap, keep h0 hb, keep h1 hb, hr.below hb⟩
theorem cl_at {xs : List Cl} (hat : ∀ i (hi : i < xs.length), Rep.E w b (off + i * Rep.sz Cl) xs[i]) (hb : Below w.heap.size w wr) {k : Nat} (hk : k < xs.length) :
    ∃ a cap a' cap', wr.cell? ⟨b, off + k * 2, none⟩ = some (.slice a xs[k].h.length cap) ∧ wr.cell? ⟨b, off + k * 2 + 1, none⟩ = some (.slice a' xs[k].b.length cap') ∧ Row wr a cap xs[k].h ∧ Row wr a' cap' xs[k].b := by
  have h : ClE w b (off + k * 2) xs[k] := hat k hk
  obtain ⟨a, cap, a', cap', h0, h1, hr, hr'⟩ := h.ex
  exact ⟨a, cap, a', cap', keep h0 hb, keep h1 hb, hr.below hb, hr'.below hb⟩
end
/-! ### what the document says, plain -/
def isFun : List Cel → Bool
  | c :: _ => decide (c.k = 3)
  | [] => false
def atomB (t : List Cel) : Bool := rightB t && isFun t
def mayB (c : Cl) : Bool := decide (c.b.length ≤ 8) && c.b.all (fun x => atomB x.t) && atomB c.h
def withinB (a b : List Int) : Bool := a.all fun n => decide (n ∈ b)
def safeGo : List Int → List Lt → Option (List Int)
  | bd, [] => some bd
  | bd, x :: l => if x.neg && !withinB (varsL x.t) bd then none else safeGo (bd ++ varsL x.t) l
def safeB (c : Cl) : Bool := mayB c && (match safeGo [] c.b with
  | none => false
  | some bd => withinB (varsL c.h) bd)
def rightP (l : List Cl) : Bool := decide (l.length ≤ 64) && l.all safeB
def predOf : List Cel → Pd
  | c :: _ => ⟨c.s, c.n⟩
  | [] => ⟨⟨#[]⟩, 0⟩
def pdLt (p q : Pd) : Bool := Op.bytesLess p.s.toList q.s.toList || (decide (p.s = q.s) && decide (p.n < q.n))
def putP : List Pd → Pd → List Pd
  | [], p => [p]
  | q :: l, p => if pdLt q p then q :: putP l p else if q = p then p :: l else p :: q :: l
def allP (m : List Cl) : List Pd := m.flatMap fun c => predOf c.h :: c.b.map fun x => predOf x.t
def predsL (m : List Cl) : List Pd := (allP m).foldl putP []
def ofL (m : List Cl) (p : Pd) : List Int := ((List.range m.length).filter fun i => match m[i]? with
  | some c => decide (predOf c.h = p)
  | none => false).map fun (i : Nat) => (i : Int)
def placeP (l : List Pd) (p : Pd) : Int := if p ∈ l then (l.idxOf p : Int) else -1
def hasB (m : List Cl) (p q : Pd) (neg : Bool) : Bool := m.any fun c => decide (predOf c.h = p) && c.b.any fun x => decide (predOf x.t = q) && (x.neg == neg)
def linkAt (m : List Cl) (p : List Pd) (i k : Nat) : List Lk := match p[i]?, p[k]? with
  | some a, some b => (if hasB m a b false then [⟨i, k, false⟩] else []) ++ (if hasB m a b true then [⟨i, k, true⟩] else [])
  | _, _ => []
def linksL (m : List Cl) : List Lk := (List.range (predsL m).length).flatMap fun (i : Nat) => (List.range (predsL m).length).flatMap fun (k : Nat) => linkAt m (predsL m) i k
def negI (b : Bool) : Int := if b then 1 else 0
def raise1 (m : List Int) (out : List Int) (k : Lk) : List Int :=
  if out.getD k.f.toNat 0 < m.getD k.t.toNat 0 + negI k.neg then out.set k.f.toNat (m.getD k.t.toNat 0 + negI k.neg) else out
def raiseL (m : List Int) (l : List Lk) : List Int := l.foldl (raise1 m) m
/-- the document's rounds: none: not yet told -/
def levGo (n : Nat) (k : List Lk) : Nat → List Int → Option (List Int)
  | 0, _ => none
  | g + 1, m => if raiseL m k = m then some m else if (raiseL m k).any (fun x => decide ((n : Int) < x)) then none else levGo n k g (raiseL m k)
def levelsOf (n : Nat) (k : List Lk) : Option (List Int) := levGo n k (n * n + n + 1) (List.replicate n 0)
def levelsL (m : List Cl) : Option (List Int) := levelsOf (predsL m).length (linksL m)
def madeL (l : List Cl) : List Cl := l.filter mayB
def greatB (l : List Cl) : Bool := decide (70 < l.length) || l.any fun c => decide (300 < c.h.length) || decide (10 < c.b.length) || c.b.any fun x => decide (300 < x.t.length)
end Go.Proofs.Ytmmnfkggfnokjaa
namespace Go.Proofs.Ytmmnfkggfnokjaa
open Go.RowKit
/-- how a value reads that is held as it stands -/
def heldElem (v : Value) : Option (DataW Value × List MemPlace) := some (.held v, [])
/-- block b of w is a map from int to values of at most n entries -/
structure MapV (P : Program) (k : TypeId) (w : World) (b n : Nat) (f : Int → Option Value) : Prop where
  ex : ∃ D : DataW Value, w.ownsMap P k heldElem b n D ∧ ∀ i, (Lit.int .i64 i).wf = true → Go.Maps.has D (.int .i64 i) = (f i).isSome ∧ ∀ z, D.atKey (.int .i64 i) (.held z) = .held ((f i).getD z)
section
variable {P : Program} {k e t : TypeId} {w w' : World} {b n : Nat} {f : Int → Option Value}
theorem MapV.made (P : Program) (k : TypeId) (w : World) : MapV P k (w.alloc (.map #[] 0)) w.heap.size 0 (fun _ => none) :=
  ⟨.map [], World.ownsMap_made w P k _, fun _ _ => ⟨rfl, fun _ => rfl⟩⟩
theorem MapV.lt (h : MapV P k w b n f) : b < w.heap.size := let ⟨_, h, _⟩ := h.ex; h.lt
theorem MapV.kept {row : Option Nat} (h : MapV P k w b n f) (hg : w.grownBy w' row) (hne : some b ≠ row) : MapV P k w' b n f :=
  let ⟨D, h, hf⟩ := h.ex; ⟨D, h.kept hg hne, hf⟩
theorem MapV.below (h : MapV P k w b n f) (hb : Below w.heap.size w w') : MapV P k w' b n f :=
  h.kept (row := none) ⟨hb.os, hb.tape, hb.output, hb.size, fun k hk _ => hb.block k hk⟩ (by simp)
theorem MapV.alloc (h : MapV P k w b n f) (o : Obj) : MapV P k (w.alloc o) b n f := let ⟨D, h, hf⟩ := h.ex; ⟨D, h.alloc o, hf⟩
theorem MapV.mono {m : Nat} (h : MapV P k w b n f) (hm : n ≤ m) : MapV P k w b m f := let ⟨D, h, hf⟩ := h.ex; ⟨D, h.mono hm, hf⟩
theorem MapV.put_at {D : DataW Value} (hD : Go.Maps.IsMap D) (hf : ∀ i, (Lit.int .i64 i).wf = true → Go.Maps.has D (.int .i64 i) = (f i).isSome ∧ ∀ z, D.atKey (.int .i64 i) (.held z) = .held ((f i).getD z)) (i : Int) (x : Value) :
    ∀ j, (Lit.int .i64 j).wf = true → Go.Maps.has (D.put (.int .i64 i) (.held x)) (.int .i64 j) = (if j = i then some x else f j).isSome ∧ ∀ z, (D.put (.int .i64 i) (.held x)).atKey (.int .i64 j) (.held z) = .held ((if j = i then some x else f j).getD z) := by
  intro j hj
  by_cases e : j = i
  · subst e
    rw [if_pos rfl]
    exact ⟨Go.Maps.has_put_same hD (by simp [WideAt.IsKeyLit]) _, fun z => Go.Maps.atKey_put_same hD (by simp [WideAt.IsKeyLit]) _ _⟩
  · rw [if_neg e]
    obtain ⟨h1, h2⟩ := hf j hj
    exact ⟨by rw [← h1]; exact Go.Maps.has_put_other (by simp; exact e) _, fun z => by rw [← h2 z]; exact Go.Maps.atKey_put_other (by simp; exact e) _ _⟩
theorem MapV.run_ok (h : MapV P k w b n f) (hk : P.underlying k = some (.int .i64)) (ht : P.underlying t = some (.map k e)) {z : Value} (hz : (zeroValue e).run P w = .ok z w)
    {i : Int} (hi : (Lit.int .i64 i).wf = true) : (Instr.lookup t (.map (some b)) (.int .i64 i) true).run P w = .ok (.tuple #[(f i).getD z, .bool (f i).isSome]) w := by
  obtain ⟨D, h, hf⟩ := h.ex
  obtain ⟨v, ps, hrun, hv⟩ := h.look_ok (Go.Maps.int_keyed hk) ht hz (zd := .held z) (zp := []) rfl (Go.Maps.keyOf_int_mk hk hi)
  rw [(hf i hi).1] at hrun
  rw [(hf i hi).2 z] at hv
  unfold heldElem at hv
  simp at hv
  rw [hrun, hv.1]
theorem MapV.run_look (h : MapV P k w b n f) (hk : P.underlying k = some (.int .i64)) (ht : P.underlying t = some (.map k e)) {z : Value} (hz : (zeroValue e).run P w = .ok z w)
    {i : Int} (hi : (Lit.int .i64 i).wf = true) : (Instr.lookup t (.map (some b)) (.int .i64 i) false).run P w = .ok ((f i).getD z) w := by
  obtain ⟨D, h, hf⟩ := h.ex
  obtain ⟨v, ps, hrun, hv⟩ := h.lookup (Go.Maps.int_keyed hk) ht hz (zd := .held z) (zp := []) rfl (Go.Maps.keyOf_int_mk hk hi)
  rw [(hf i hi).2 z] at hv
  unfold heldElem at hv
  simp at hv
  rw [hrun, hv.1]
theorem MapV.wpl_update {ops : Array Oper} {rest : List Oper} {o : Oper} {a : Act} {Q : Exit → Act → World → Prop}
    (hg : o.guard = none) (m x y : Operand) (hop : o.op = Op.mapUpdate t m x y)
    (hk : P.underlying k = some (.int .i64)) (ht : P.underlying t = some (.map k e))
    (hm : a.eval m = .map (some b)) (h : MapV P k w b n f) (hn : n < 9223372036854775807) (i : Int) (hx : a.eval x = .int .i64 i) (hi : (Lit.int .i64 i).wf = true) (z : Value) (hy : a.eval y = z)
    (hK : ∀ w', MapV P k w' b (n + 1) (fun j => if j = i then some z else f j) → w.grownBy w' (some b) → wpList P ops Q rest (a.put o.dst undef) w') :
    wpList P ops Q (o :: rest) a w := by
  obtain ⟨D, h, hf⟩ := h.ex
  refine wpList_mapUpdate_own w hg m x y t hop k e (Go.Maps.int_keyed hk) ht _ b n D hm h (by unfold maxLen; omega) _ _ _ hx hy (Go.Maps.keyOf_int_mk hk hi) (.held z) [] rfl ?_
  intro w' h' hg'
  exact hK w' ⟨_, h', MapV.put_at h.isMap hf i z⟩ hg'
end
end Go.Proofs.Ytmmnfkggfnokjaa
namespace Go.Proofs.Ytmmnfkggfnokjaa
open Go.RowKit
end Go.Proofs.Ytmmnfkggfnokjaa
namespace Go.Proofs.Ytmmnfkggfnokjaa
open Go.RowKit
/-- all blocks that were there, but some, are as they were -/
structure Fr (us : List Nat) (w w' : World) : Prop where
  os : w'.os = w.os
  tape : w'.tape = w.tape
  output : w'.output = w.output
  size : w.heap.size ≤ w'.heap.size
  block : ∀ k, k < w.heap.size → k ∉ us → w'.heap[k]? = w.heap[k]?
section
variable {us : List Nat} {w w' w'' : World}
theorem Fr.refl (us : List Nat) (w : World) : Fr us w w := ⟨rfl, rfl, rfl, Nat.le_refl _, fun _ _ _ => rfl⟩
theorem Fr.trans (h : Fr us w w') (k : Fr us w' w'') : Fr us w w'' :=
  ⟨k.os.trans h.os, k.tape.trans h.tape, k.output.trans h.output, Nat.le_trans h.size k.size, fun i hi hn => (k.block i (Nat.lt_of_lt_of_le hi h.size) hn).trans (h.block i hi hn)⟩
theorem Fr.of (h : Below w.heap.size w w') : Fr us w w' := ⟨h.os, h.tape, h.output, h.size, fun k hk _ => h.block k hk⟩
theorem Fr.alloc (h : Fr us w w') (o : Obj) : Fr us w (w'.alloc o) := h.trans (Fr.of ((Below.refl _ _).new o))
theorem Fr.drew (h : Fr us w w') : Fr us w w'.drew := h.trans (Fr.of (Below.refl _ _).drew)
theorem Fr.set (h : Fr us w w') {g k : Nat} (hg : g ∈ us) (v : Value) : Fr us w (w'.setCell ⟨g, k, none⟩ v) :=
  h.trans ⟨rfl, rfl, rfl, by simp [World.setCell], fun i _ hn => Below.heap_setCell _ _ _ _ (fun e => hn (by rw [show i = g from e]; exact hg))⟩
theorem Fr.sub {vs : List Nat} (h : Fr us w w') (hs : ∀ k ∈ us, k ∈ vs) : Fr vs w w' := ⟨h.os, h.tape, h.output, h.size, fun k hk hn => h.block k hk fun e => hn (hs k e)⟩
/-- what lies below all of them is as it was -/
theorem Fr.below (h : Fr us w w') {B : Nat} (hB : B ≤ w.heap.size) (hu : ∀ k ∈ us, B ≤ k) : Below B w w' :=
  ⟨h.os, h.tape, h.output, h.size, fun k hk => h.block k (by omega) fun e => by have := hu k e; omega⟩
/-- blocks that are newer than the first world don't count -/
theorem Fr.fresh {vs : List Nat} (h : Fr (vs ++ us) w w') (hv : ∀ k ∈ vs, w.heap.size ≤ k) : Fr us w w' :=
  ⟨h.os, h.tape, h.output, h.size, fun k hk hn => h.block k hk fun e => by
    rcases List.mem_append.1 e with e | e
    · have := hv k e; omega
    · exact hn e⟩
end
/-- the world without some blocks -/
def veil (us : List Nat) (w : World) : World := { w with heap := w.heap.mapIdx fun i o => if i ∈ us then .cells #[] 0 else o }
theorem veil_heap {us : List Nat} {w : World} {b : Nat} (h : b ∉ us) : (veil us w).heap[b]? = w.heap[b]? := by
  unfold veil
  rw [Array.getElem?_mapIdx]
  cases hw : w.heap[b]? with
  | none => rfl
  | some o => simp [h]
theorem veil_cell {us : List Nat} {w : World} {b o : Nat} {v : Value} (h : (veil us w).cell? ⟨b, o, none⟩ = some v) : b ∉ us ∧ w.cell? ⟨b, o, none⟩ = some v := by
  by_cases hb : b ∈ us
  · exfalso
    unfold veil at h
    simp only [World.cell?, Array.getElem?_mapIdx] at h
    cases hw : w.heap[b]? with
    | none => rw [hw] at h; simp at h
    | some o => rw [hw] at h; simp [hb] at h
  · refine ⟨hb, ?_⟩
    rwa [World.cell?, veil_heap hb] at h
theorem veil_of {us : List Nat} {w : World} {b o : Nat} {v : Value} (hb : b ∉ us) (h : w.cell? ⟨b, o, none⟩ = some v) : (veil us w).cell? ⟨b, o, none⟩ = some v := by
  rwa [World.cell?, veil_heap hb]
theorem veil_keeps (us : List Nat) (w : World) : Keeps (veil us w) w := fun _ _ _ h => (veil_cell h).2
theorem Fr.keeps {us : List Nat} {w w' : World} (h : Fr us w w') : Keeps (veil us w) (veil us w') := by
  intro b o v hc
  obtain ⟨hb, hc'⟩ := veil_cell hc
  exact veil_of hb ((World.cell?_of_block (w := w) (a := ⟨b, o, none⟩) (h.block b (cell_lt hc') hb)).trans hc')
/-- what is elder than all of them is read without them -/
theorem veil_fresh {w0 w : World} {us : List Nat} (h : Keeps w0 w) (hu : ∀ k ∈ us, w0.heap.size ≤ k) : Keeps w0 (veil us w) := fun b o v hc => by
  have hl := cell_lt hc
  exact veil_of (fun e => by have := hu b e; omega) (h _ _ _ hc)
theorem veil_mono {us vs : List Nat} (w : World) (h : ∀ k ∈ vs, k ∈ us) : Keeps (veil us w) (veil vs w) := fun b o v hc => by
  obtain ⟨hb, hc'⟩ := veil_cell hc
  exact veil_of (fun e => hb (h b e)) hc'
/-- a block of numbers -/
def RowU (w : World) (u : Nat) (U : List Int) : Prop := w.heap[u]? = some (.cells (U.map (Value.int .i64)).toArray 3 (0, 0))
section
variable {us : List Nat} {w w' : World} {u : Nat} {U : List Int}
theorem RowU.lt (h : RowU w u U) : u < w.heap.size := by
  unfold RowU at h
  exact (Array.getElem?_eq_some_iff.1 h).1
theorem RowU.read (h : RowU w u U) {k : Nat} (hk : k < U.length) : w.cell? ⟨u, k, none⟩ = some (.int .i64 U[k]) := by
  rw [cell_of_row w u k _ _ _ h]; simp [hk]
theorem RowU.free (h : RowU w u U) (k : Nat) : w.frozen? ⟨u, k, none⟩ = false := by
  unfold RowU at h
  simp [World.frozen?, h]
theorem RowU.set (h : RowU w u U) (k : Nat) (v : Int) : RowU (w.setCell ⟨u, k, none⟩ (.int .i64 v)) u (U.set k v) := by
  unfold RowU at *
  have hl := (Array.getElem?_eq_some_iff.1 h).1
  simp only [World.setCell, Array.getElem?_modify, if_true, h, Option.map_some]
  simp
theorem RowU.fr (h : RowU w u U) (hf : Fr us w w') (hu : u ∉ us) : RowU w' u U := (hf.block u h.lt hu).trans h
theorem RowU.below (h : RowU w u U) (hb : Below w.heap.size w w') : RowU w' u U := (hb.block u h.lt).trans h
theorem RowU.alloc (h : RowU w u U) (o : Obj) : RowU (w.alloc o) u U := h.below ((Below.refl _ _).new o)
theorem RowU.drew (h : RowU w u U) : RowU w.drew u U := h
end
/-- the places of two terms and their classes, but for what changes -/
structure Cls (z : World) (C u s m : Nat) (l : List Cel) (E : List Int) : Prop where
  cells : ∃ a cap, z.cell? ⟨C, 0, none⟩ = some (.slice a l.length cap) ∧ Row z a cap l
  behind : ∃ a cap, z.cell? ⟨C, 1, none⟩ = some (.slice a E.length cap) ∧ Row z a cap E
  first : z.cell? ⟨C, 2, none⟩ = some (.map (some m))
  up : ∃ cap, l.length ≤ cap ∧ cap ≤ 9223372036854775807 ∧ z.cell? ⟨C, 3, none⟩ = some (.slice (some ⟨u, 0, none⟩) l.length cap)
  size : ∃ cap, l.length ≤ cap ∧ cap ≤ 9223372036854775807 ∧ z.cell? ⟨C, 4, none⟩ = some (.slice (some ⟨s, 0, none⟩) l.length cap)
  us : u ≠ s
theorem Cls.keeps {z z' : World} {C u s m : Nat} {l : List Cel} {E : List Int} (h : Cls z C u s m l E) (hk : Keeps z z') : Cls z' C u s m l E := by
  obtain ⟨⟨a, ca, h0, hr⟩, ⟨b, cb, h1, hr1⟩, h2, ⟨c, hc1, hc2, h3⟩, ⟨d, hd1, hd2, h4⟩, h5⟩ := h
  exact ⟨⟨a, ca, hk _ _ _ h0, hr.keeps hk⟩, ⟨b, cb, hk _ _ _ h1, hr1.keeps hk⟩, hk _ _ _ h2, ⟨c, hc1, hc2, hk _ _ _ h3⟩, ⟨d, hd1, hd2, hk _ _ _ h4⟩, h5⟩
/-! ### the forest of the places -/
/-- r: the place that stands for the class; d: falls on the way there -/
structure Roots (n : Nat) (U : List Int) (r d : Nat → Nat) : Prop where
  len : U.length = n
  up : ∀ x, x < n → ∃ y : Nat, U[x]? = some (y : Int) ∧ y < n ∧ r y = r x ∧ (y ≠ x → d y < d x) ∧ (y = x → r x = x)
  lt : ∀ x, x < n → r x < n
  top : ∀ x, x < n → U[r x]? = some (r x : Int)
section
variable {n : Nat} {U : List Int} {r d : Nat → Nat}
end
end Go.Proofs.Ytmmnfkggfnokjaa
set_option linter.unusedVariables false
namespace Go.Proofs.Ytmmnfkggfnokjaa
open Go.RowKit
/-! ### instructions in memory -/
structure Ins.fit (i : Ins) : Prop where
  o1 : -9223372036854775808 ≤ i.op
  o2 : i.op ≤ 9223372036854775807
  x1 : -9223372036854775808 ≤ i.x
  x2 : i.x ≤ 9223372036854775807
  a1 : -9223372036854775808 ≤ i.a
  a2 : i.a ≤ 9223372036854775807
  s : i.s.size ≤ 9223372036854775807
  n1 : -9223372036854775808 ≤ i.n
  n2 : i.n ≤ 9223372036854775807
structure InsE (w : World) (b o : Nat) (i : Ins) : Prop where
  c0 : w.cell? ⟨b, o, none⟩ = some (.int .i64 i.op)
  c1 : w.cell? ⟨b, o + 1, none⟩ = some (.int .i64 i.x)
  c2 : w.cell? ⟨b, o + 2, none⟩ = some (.int .i64 i.a)
  c3 : w.cell? ⟨b, o + 3, none⟩ = some (.string i.s)
  c4 : w.cell? ⟨b, o + 4, none⟩ = some (.int .i64 i.n)
  c5 : w.cell? ⟨b, o + 5, none⟩ = some (.bool i.neg)
  fit : i.fit
abbrev Ins.v (i : Ins) : Value := .agg #[.int .i64 i.op, .int .i64 i.x, .int .i64 i.a, .string i.s, .int .i64 i.n, .bool i.neg]
instance instRepCIns : RepC Ins where
  sz := 6
  E := InsE
  mono h hb := ⟨hb _ _ _ h.c0, hb _ _ _ h.c1, hb _ _ _ h.c2, hb _ _ _ h.c3, hb _ _ _ h.c4, hb _ _ _ h.c5, h.fit⟩
  lt h := cell_lt h.c0
  C _ cs i := cs = [.int .i64 i.op, .int .i64 i.x, .int .i64 i.a, .string i.s, .int .i64 i.n, .bool i.neg] ∧ i.fit
  len := by rintro w cs x ⟨rfl, _⟩; rfl
  one := by rintro w cs x ⟨rfl, _⟩ u hu; simp at hu; rcases hu with rfl | rfl | rfl | rfl | rfl | rfl <;> rfl
  cmono := by rintro w w' cs x h _; exact h
  toE := by
    rintro w cs x b o ⟨rfl, h⟩ hat
    exact ⟨hat 0 _ rfl, hat 1 _ rfl, hat 2 _ rfl, hat 3 _ rfl, hat 4 _ rfl, hat 5 _ rfl, h⟩
  ofE := by
    rintro w x b o ⟨h0, h1, h2, h3, h4, h5, h⟩
    refine ⟨_, ⟨rfl, h⟩, fun j u hj => ?_⟩
    match j with
    | 0 => simp at hj; subst hj; exact h0
    | 1 => simp at hj; subst hj; exact h1
    | 2 => simp at hj; subst hj; exact h2
    | 3 => simp at hj; subst hj; exact h3
    | 4 => simp at hj; subst hj; exact h4
    | 5 => simp at hj; subst hj; exact h5
    | j + 6 => simp at hj
  pos := by decide
theorem ins_at {w wr : World} {b off : Nat} {xs : List Ins} (hat : ∀ i (hi : i < xs.length), Rep.E w b (off + i * Rep.sz Ins) xs[i]) (hb : Below w.heap.size w wr) {k : Nat} (hk : k < xs.length) :
    wr.cell? ⟨b, off + k * 6, none⟩ = some (.int .i64 xs[k].op) ∧ wr.cell? ⟨b, off + k * 6 + 1, none⟩ = some (.int .i64 xs[k].x) ∧ wr.cell? ⟨b, off + k * 6 + 2, none⟩ = some (.int .i64 xs[k].a) ∧ wr.cell? ⟨b, off + k * 6 + 3, none⟩ = some (.string xs[k].s) ∧ wr.cell? ⟨b, off + k * 6 + 4, none⟩ = some (.int .i64 xs[k].n) ∧ wr.cell? ⟨b, off + k * 6 + 5, none⟩ = some (.bool xs[k].neg) ∧ xs[k].fit := by
  have h : InsE w b (off + k * 6) xs[k] := hat k hk
  exact ⟨keep h.c0 hb, keep h.c1 hb, keep h.c2 hb, keep h.c3 hb, keep h.c4 hb, keep h.c5 hb, h.fit⟩
/-! ### a term, and its register -/
structure Pl where
  t : List Cel
  r : Int
structure PlE (w : World) (b o : Nat) (x : Pl) : Prop where
  ex : ∃ a cap, w.cell? ⟨b, o, none⟩ = some (.slice a x.t.length cap) ∧ w.cell? ⟨b, o + 1, none⟩ = some (.int .i64 x.r) ∧ Row w a cap x.t
  r1 : -9223372036854775808 ≤ x.r
  r2 : x.r ≤ 9223372036854775807
instance instRepCPl : RepC Pl where
  sz := 2
  E := PlE
  mono h hb := let ⟨a, cap, h0, h1, hr⟩ := h.ex; ⟨⟨a, cap, hb _ _ _ h0, hb _ _ _ h1, hr.keeps hb⟩, h.r1, h.r2⟩
  lt h := let ⟨_, _, h0, _⟩ := h.ex; cell_lt h0
  C w cs x := (∃ a cap, cs = [.slice a x.t.length cap, .int .i64 x.r] ∧ Row w a cap x.t) ∧ -9223372036854775808 ≤ x.r ∧ x.r ≤ 9223372036854775807
  len := by rintro w cs x ⟨⟨a, cap, rfl, _⟩, _⟩; rfl
  one := by rintro w cs x ⟨⟨a, cap, rfl, _⟩, _⟩ u hu; simp at hu; rcases hu with rfl | rfl <;> rfl
  cmono := by rintro w w' cs x ⟨⟨a, cap, rfl, h⟩, h2⟩ hk; exact ⟨⟨a, cap, rfl, h.keeps hk⟩, h2⟩
  toE := by
    rintro w cs x b o ⟨⟨a, cap, rfl, h⟩, h2⟩ hat
    exact ⟨⟨a, cap, hat 0 _ rfl, hat 1 _ rfl, h⟩, h2.1, h2.2⟩
  ofE := by
    rintro w x b o ⟨⟨a, cap, h0, h1, h⟩, h2, h3⟩
    refine ⟨_, ⟨⟨a, cap, rfl, h⟩, h2, h3⟩, fun j u hj => ?_⟩
    match j with
    | 0 => simp at hj; subst hj; exact h0
    | 1 => simp at hj; subst hj; exact h1
    | j + 2 => simp at hj
  pos := by decide
/-! ### what serves all places -/
theorem grown_frN {w w' : World} {r : Option Nat} (h : w.grownBy w' r) : Fr r.toList w w' :=
  ⟨h.os, h.tape, h.output, h.size, fun k hk hn => h.block k hk (fun e => hn (by rw [← e]; simp))⟩
theorem own_blockN {w w' : World} {B e size n : Nat} {v : Value} {xs : List Value} (h : w.ownsRow B e size v n xs) (hb : ∀ b, v.ownBlock = some b → w'.heap[b]? = w.heap[b]?) : w'.ownsRow B e size v n xs := by
  refine ⟨h.1, ?_⟩
  rcases h.2 with hn | ⟨g, cap, cur, rfl, hB, hgg, rest⟩
  · exact .inl hn
  · exact .inr ⟨g, cap, cur, rfl, hB, (hb g rfl).trans hgg, rest⟩
/-- where a row lies that may have moved -/
def NewAtN (w : World) (v v' : Value) : Prop := v'.ownBlock = v.ownBlock ∨ ∃ b, v'.ownBlock = some b ∧ w.heap.size ≤ b
theorem newAtN_trans {w w1 : World} {v v1 v2 : Value} (h1 : NewAtN w v v1) (hs : w.heap.size ≤ w1.heap.size) (h2 : NewAtN w1 v1 v2) : NewAtN w v v2 := by
  rcases h2 with e | ⟨b, e, hb⟩
  · rcases h1 with e1 | ⟨b, e1, hb⟩
    · exact .inl (e.trans e1)
    · exact .inr ⟨b, e.trans e1, hb⟩
  · exact .inr ⟨b, e, by omega⟩
theorem AccInv.run_pushN {α : Type} [RepC α] {P : Program} {w : World} (t ty B e bytes : Nat) (z : Value) (ht : P.underlying t = some (.slice e)) (hinfo : (P.info? e).map (fun i => (i.zero, i.size, i.bytes)) = some (some z, Rep.sz α, bytes))
    (hzs : z.cells.size = Rep.sz α) (hby : bytes ≤ 1000) (v : Value) (acc : List α) (hacc : AccInv B e acc v w) (T : Nat) (cs : Array Value) (y : α) (hcs : RepC.C (hide v.ownBlock w) cs.toList y) (hmax : acc.length + 1 ≤ 1000000000) (hB : B ≤ w.heap.size) :
    ∃ v' w', (Builtin.append_ #[t, t] ty #[v, .slice (some ⟨w.heap.size, 0, none⟩) 1 1]).run P (w.alloc (.cells cs T)) = .ok v' w' ∧ AccInv B e (acc ++ [y]) v' w' ∧ (w.alloc (.cells cs T)).grownBy w' v.ownBlock ∧ (v'.ownBlock = v.ownBlock ∨ v'.ownBlock = some (w.heap.size + 1)) := by
  obtain ⟨vs, hown, hc⟩ := hacc.ex
  have hsrc := src_new w cs T (Rep.sz α) (by have := RepC.len hcs; simpa using this) (fun u hu => RepC.one hcs u hu)
  obtain ⟨i, hi, hz0, hz1, hz2⟩ := info_parts hinfo
  have hb : (acc.length + 1) * bytes ≤ 140737488355328 := Nat.le_trans (Nat.mul_le_mul hmax hby) (by decide)
  obtain ⟨v', w', hr, h2, h3, h4⟩ := run_append_where (P := P) (w.alloc (.cells cs T)) B t ty e i z (Rep.sz α) bytes ht hi hz0 hz1 hz2 hzs RepC.pos v acc.length vs (hown.alloc _) ⟨w.heap.size, 0, none⟩ 1 1 cs.toList hsrc.len (hsrc.cells _ rfl) hsrc.one (by unfold maxLen; omega) hb (Nat.le_trans hB (by simp))
  refine ⟨v', w', hr, ⟨vs ++ cs.toList, by rw [List.length_append]; exact h2, ?_⟩, h3, by rwa [World.size_alloc] at h4⟩
  have hk := hide_next h3 h4
  exact ((hc.keeps (alloc_hide w _ _)).keeps hk).snoc (RepC.cmono (RepC.cmono hcs (alloc_hide w _ _)) hk)
/-! ### a row whose elements are no rows -/
theorem CRows.anyN {α : Type} [RepC α] (hC : ∀ {w w' : World} {cs : List Value} {x : α}, RepC.C w cs x → RepC.C w' cs x) {w w' : World} {vs : List Value} {xs : List α} (h : CRows w vs xs) : CRows w' vs xs := by
  induction h with
  | nil => exact .nil
  | cons hc _ ih => exact .cons (hC hc) ih
theorem AccInv.blockN {α : Type} [RepC α] (hC : ∀ {w w' : World} {cs : List Value} {x : α}, RepC.C w cs x → RepC.C w' cs x) {w w' : World} {B e : Nat} {v : Value} {acc : List α} (h : AccInv B e acc v w) (hb : ∀ b, v.ownBlock = some b → w'.heap[b]? = w.heap[b]?) : AccInv B e acc v w' := by
  obtain ⟨vs, ho, hc⟩ := h.ex
  exact ⟨_, own_blockN ho hb, hc.anyN hC⟩
theorem AccInv.blockI6 {w w' : World} {B e : Nat} {v : Value} {acc : List Ins} (h : AccInv B e acc v w) (hb : ∀ b, v.ownBlock = some b → w'.heap[b]? = w.heap[b]?) : AccInv B e acc v w' :=
  h.blockN (fun h => h) hb
theorem MapV.blockM {P : Program} {k : TypeId} {w w' : World} {b n : Nat} {f : Int → Option Value} (h : MapV P k w b n f) (hb : w'.heap[b]? = w.heap[b]?) : MapV P k w' b n f := by
  obtain ⟨D, ⟨es, clock, h1, h2⟩, hf⟩ := h.ex
  exact ⟨D, ⟨es, clock, hb.trans h1, h2⟩, hf⟩
theorem MapV.congr {P : Program} {k : TypeId} {w : World} {b n : Nat} {f g : Int → Option Value} (h : MapV P k w b n f) (e : ∀ i, f i = g i) : MapV P k w b n g := by
  obtain rfl : f = g := funext e
  exact h
end Go.Proofs.Ytmmnfkggfnokjaa
set_option linter.unusedVariables false
namespace Go.Proofs.Ytmmnfkggfnokjaa
open Go.RowKit
theorem Try.infoInstr : (Try.prog.info? 90).map (fun i => (i.zero, i.size, i.bytes)) = some (some (.agg #[.int .i64 0, .int .i64 0, .int .i64 0, .string ⟨#[]⟩, .int .i64 0, .bool false]), 6, 56) := by kernel_rfl
theorem Try.infoPlaced : (Try.prog.info? 182).map (fun i => (i.zero, i.size, i.bytes)) = some (some (.agg #[.slice none 0 0, .int .i64 0]), 2, 32) := by kernel_rfl
/-! ### the maker in memory -/
structure MkM (W : World) (B L g : Nat) (vc : Value) (m : MkS) (k j : Nat) : Prop where
  blk : W.heap[L]? = some (.cells #[vc, .int .i64 m.next, .map (some g)] 95 (0, 0))
  code : AccInv B 90 m.code vc W
  map : ∃ n : Nat, (n : Int) + j ≤ m.next ∧ MapV Try.prog 3 W g n (fun i => (m.at_ i).map (Value.int .i64))
  next : 0 ≤ m.next ∧ m.next ≤ (m.code.length : Int) + 10 + k
  reg : ∀ i r, m.at_ i = some r → 0 ≤ r ∧ r < m.next
  cL : vc.ownBlock ≠ some L
  cg : vc.ownBlock ≠ some g
  gL : g ≠ L
  hB : B ≤ L
  hg : B ≤ g
/-- the blocks that the maker turns -/
def kB (L g : Nat) (vc : Value) : List Nat := L :: g :: vc.ownBlock.toList
section
variable {W W' w2 w3 : World} {B L g k j : Nat} {vc v' : Value} {m m' : MkS} {i : Ins}
theorem MkM.lt (h : MkM W B L g vc m k j) : L < W.heap.size := (Array.getElem?_eq_some_iff.1 h.blk).1
theorem MkM.glt (h : MkM W B L g vc m k j) : g < W.heap.size := let ⟨_, _, hm⟩ := h.map; hm.lt
theorem MkM.c0 (h : MkM W B L g vc m k j) : W.cell? ⟨L, 0, none⟩ = some vc := by rw [cell_of_row W L 0 _ _ _ h.blk]; rfl
theorem MkM.c1 (h : MkM W B L g vc m k j) : W.cell? ⟨L, 1, none⟩ = some (.int .i64 m.next) := by rw [cell_of_row W L 1 _ _ _ h.blk]; rfl
theorem MkM.c2 (h : MkM W B L g vc m k j) : W.cell? ⟨L, 2, none⟩ = some (.map (some g)) := by rw [cell_of_row W L 2 _ _ _ h.blk]; rfl
theorem MkM.froz (h : MkM W B L g vc m k j) (q : Nat) : W.frozen? ⟨L, q, none⟩ = false := by
  have := h.blk
  simp [World.frozen?, this]
theorem MkM.allB (h : MkM W B L g vc m k j) : ∀ b ∈ kB L g vc, B ≤ b ∧ b < W.heap.size := by
  intro b hb
  simp [kB] at hb
  rcases hb with rfl | rfl | hb
  · exact ⟨h.hB, h.lt⟩
  · exact ⟨h.hg, h.glt⟩
  · exact h.code.lt b hb
theorem MkM.slack {k' j' : Nat} (h : MkM W B L g vc m k j) (hk : k ≤ k') (hj : j' ≤ j) : MkM W B L g vc m k' j' :=
  ⟨h.blk, h.code, let ⟨n, hn, hm⟩ := h.map; ⟨n, by omega, hm⟩, ⟨h.next.1, by have := h.next.2; omega⟩, h.reg, h.cL, h.cg, h.gL, h.hB, h.hg⟩
theorem MkM.fr {us : List Nat} (h : MkM W B L g vc m k j) (hf : Fr us W W') (hn : ∀ b ∈ kB L g vc, b ∉ us) : MkM W' B L g vc m k j :=
  ⟨(hf.block L h.lt (hn L (by simp [kB]))).trans h.blk, h.code.blockI6 fun b hb => hf.block b (h.code.lt b hb).2 (hn b (by simp [kB, hb])), let ⟨n, hn', hm⟩ := h.map; ⟨n, hn', hm.blockM (hf.block g h.glt (hn g (by simp [kB])))⟩, h.next, h.reg, h.cL, h.cg, h.gL, h.hB, h.hg⟩
theorem MkM.below (h : MkM W B L g vc m k j) (hb : Below W.heap.size W W') : MkM W' B L g vc m k j := h.fr (us := []) (Fr.of hb) (by simp)
theorem MkM.BW (h : MkM W B L g vc m k j) : B ≤ W.heap.size := by
  have := h.hB
  have := h.lt
  omega
/-- an instruction was put behind the others, and the row laid in its field -/
theorem MkM.push (h : MkM W B L g vc m (k + 1) j) {T : Nat} {cs : Array Value} (ha : AccInv B 90 (m.code ++ [i]) v' w3) (hg : (W.alloc (.cells cs T)).grownBy w3 vc.ownBlock) (hw : v'.ownBlock = vc.ownBlock ∨ v'.ownBlock = some (W.heap.size + 1)) :
    MkM (w3.setCell ⟨L, 0, none⟩ v') B L g v' (m.lay i) k j ∧ Fr (kB L g vc) W (w3.setCell ⟨L, 0, none⟩ v') ∧ NewAtN W vc v' ∧ w3.cell? ⟨L, 0, none⟩ = some vc ∧ w3.frozen? ⟨L, 0, none⟩ = false := by
  have hf0 : Fr vc.ownBlock.toList W w3 := ((Fr.of ((Below.refl _ _).new _)).trans (grown_frN hg) |>.sub (by simp))
  have eL := hf0.block L h.lt (by simp; exact h.cL)
  have eg := hf0.block g h.glt (by simp; exact h.cg)
  have hv'L : v'.ownBlock ≠ some L := by
    rcases hw with e | e
    · rw [e]; exact h.cL
    · rw [e]; have := h.lt; intro e2; injection e2 with e2; omega
  have hv'g : v'.ownBlock ≠ some g := by
    rcases hw with e | e
    · rw [e]; exact h.cg
    · rw [e]; have := h.glt; intro e2; injection e2 with e2; omega
  refine ⟨⟨?_, ha.blockI6 fun b hb => Below.heap_setCell w3 ⟨L, 0, none⟩ _ b (fun e => hv'L (by rw [hb, show b = L from e])), ?_, ?_, h.reg, hv'L, hv'g, h.gL, h.hB, h.hg⟩, ?_, ?_, (World.cell?_of_block eL).trans h.c0, (World.frozen?_of_block eL).trans (h.froz 0)⟩
  · have hb := eL.trans h.blk
    simp only [World.setCell, Array.getElem?_modify, if_true, hb, Option.map_some]
    simp [MkS.lay]
  · obtain ⟨n, hn, hm⟩ := h.map
    refine ⟨n, by simpa [MkS.lay] using hn, hm.blockM ?_⟩
    rw [Below.heap_setCell w3 ⟨L, 0, none⟩ _ g (fun e => h.gL e)]
    exact eg
  · have := h.next
    simp only [MkS.lay, List.length_append, List.length_cons, List.length_nil]
    omega
  · exact (hf0.sub (by intro k hk; simp [kB]; simp at hk; exact .inr (.inr hk))).set (by simp [kB]) _
  · rcases hw with e | e
    · exact .inl e
    · exact .inr ⟨_, e, by omega⟩
/-- the register that is new was asked for -/
theorem MkM.step (h : MkM W B L g vc m k j) : MkM (W.setCell ⟨L, 1, none⟩ (.int .i64 (m.next + 1))) B L g vc m.fresh (k + 1) (j + 1) := by
  refine ⟨?_, h.code.blockI6 fun b hb => Below.heap_setCell W ⟨L, 1, none⟩ _ b (fun e => h.cL (by rw [hb, show b = L from e])), ?_, ?_, ?_, h.cL, h.cg, h.gL, h.hB, h.hg⟩
  · have hb := h.blk
    simp only [World.setCell, Array.getElem?_modify, if_true, hb, Option.map_some]
    simp [MkS.fresh]
  · obtain ⟨n, hn, hm⟩ := h.map
    refine ⟨n, by simp only [MkS.fresh]; omega, hm.blockM ?_⟩
    exact Below.heap_setCell W ⟨L, 1, none⟩ _ g (fun e => h.gL e)
  · have := h.next
    simp only [MkS.fresh]
    omega
  · intro i r hr
    have := h.reg i r hr
    simp only [MkS.fresh]
    omega
/-- a variable was met -/
def MkS.met (m : MkS) (n r : Int) : MkS := { m with at_ := fun j => if j = n then some r else m.at_ j }
theorem MkM.meet {q : Nat} {i r : Int} (h : MkM W B L g vc m k (j + 1)) (hm : MapV Try.prog 3 W' g (q + 1) (fun j => if j = i then some (.int .i64 r) else (m.at_ j).map (Value.int .i64))) (hq : (q : Int) + (j + 1) ≤ m.next) (hg : W.grownBy W' (some g)) (hr : 0 ≤ r ∧ r < m.next) : MkM W' B L g vc (m.met i r) k j := by
  have hf := grown_frN hg
  refine ⟨(hf.block L h.lt (by simp; exact fun e => h.gL e.symm)).trans h.blk, h.code.blockI6 fun b hb => hf.block b (h.code.lt b hb).2 (by simp; intro e; exact h.cg (by rw [hb, e])), ⟨q + 1, by simp only [MkS.met]; omega, hm.congr fun j => ?_⟩, ?_, ?_, h.cL, h.cg, h.gL, h.hB, h.hg⟩
  · simp only [MkS.met]
    split <;> rfl
  · have := h.next
    simp only [MkS.met]
    omega
  · intro j x hx
    simp only [MkS.met] at hx ⊢
    split at hx
    · injection hx with hx; omega
    · exact h.reg j x hx
/-- what lies in none of the maker's blocks is read as it was -/
theorem kB_keeps (h : MkM W B L g vc m k j) (hf : Fr (kB L g vc) W W') (hn : NewAtN W vc v') : Keeps (veil (kB L g vc) W) (veil (kB L g v') W') := by
  intro b o v hc
  have h1 := hf.keeps b o v hc
  obtain ⟨hb, hc'⟩ := veil_cell hc
  have hl := cell_lt hc'
  refine veil_of (fun e => ?_) (veil_cell h1).2
  simp [kB] at hb e
  rcases e with e | e | e
  · exact hb.1 e
  · exact hb.2.1 e
  · rcases hn with e2 | ⟨b', e2, hb2⟩
    · rw [e2] at e; exact hb.2.2 e
    · rw [e] at e2; injection e2 with e2; omega
theorem MkM.frB (h : MkM W B L g vc m k j) (hf : Fr (kB L g vc) W W') : Below B W W' := hf.below h.BW fun b hb => (h.allB b hb).1
end
/-- one after the other -/
theorem frK_trans {w w1 w2 : World} {L g : Nat} {vc vc1 : Value} (h1 : Fr (kB L g vc) w w1) (hn : NewAtN w vc vc1) (h2 : Fr (kB L g vc1) w1 w2) : Fr (kB L g vc) w w2 := by
  have h3 : Fr (vc1.ownBlock.toList.filter (fun b => decide (w.heap.size ≤ b)) ++ kB L g vc) w w2 := by
    refine (h1.sub (fun k hk => List.mem_append_right _ hk)).trans (h2.sub fun k hk => ?_)
    simp [kB] at hk ⊢
    rcases hk with e | e | e
    · exact .inr (.inl e)
    · exact .inr (.inr (.inl e))
    · rcases hn with e2 | ⟨b, e2, hb⟩
      · exact .inr (.inr (.inr (by rw [← e2]; exact e)))
      · left
        refine ⟨e, ?_⟩
        rw [e] at e2; injection e2 with e2; omega
  exact h3.fresh fun k hk => by simp at hk; exact hk.2
/-- what a method of the maker makes of it -/
def KPost (w : World) (B L g : Nat) (vc : Value) (m' : MkS) (k j : Nat) (r : Value) (e : Ending) (W' : World) : Prop :=
  e = .returned r ∧ ∃ vc', MkM W' B L g vc' m' k j ∧ Fr (kB L g vc) w W' ∧ NewAtN w vc vc'
end Go.Proofs.Ytmmnfkggfnokjaa
