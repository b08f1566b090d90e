import Derived.Test.YtnpffificfghpaaRows
import Derived.WalkKit
import Derived.Below
import Derived.BigQuiet
import Derived.WalkSpells
import Derived.Laws.AppendOwnNone
import Derived.Laws.EntriesVeiled
import Derived.Maps.OwnOps
import Derived.Maps.OwnSet
import Derived.WalkLawsBesides
import Derived.OneCell
namespace Go.RowKit
/-- chains of Below -/
theorem Below.then {a b c : World} (h : Below a.heap.size a b) (k : Below b.heap.size b c) : Below a.heap.size a c :=
  h.trans (k.mono h.size)
theorem Below.new {a b : World} (h : Below a.heap.size a b) (o : Obj) : Below a.heap.size a (b.alloc o) := h.alloc h.size o
end Go.RowKit
namespace Go.Proofs.Ytnpffificfghpaa
open Go.RowKit

theorem mkHid {p : Prop} (h : p) : Hid p := h
theorem ret_bool {a b : Bool} (h : a = b) : Ending.returned (.bool a) = .returned (.bool b) := by rw [h]
theorem ret_int {k : IntKind} {a b : Int} (h : a = b) : Ending.returned (.int k a) = .returned (.int k b) := by rw [h]

theorem cell_lt {w : World} {b o : Nat} {v : Value} (h : w.cell? ⟨b, o, none⟩ = some v) : b < w.heap.size :=
  World.block_lt_of_cell? w ⟨b, o, none⟩ h
/-- a cell that was there reads as it did -/
theorem keep {w w' : World} {b o : Nat} {v : Value} (h : w.cell? ⟨b, o, none⟩ = some v) (hb : Below w.heap.size w w') : w'.cell? ⟨b, o, none⟩ = some v :=
  (hb.cell (p := ⟨b, o, none⟩) (cell_lt h)).trans h
/-- all cells that could be read read as they did -/
def Keeps (w w' : World) : Prop := ∀ b o v, w.cell? ⟨b, o, none⟩ = some v → w'.cell? ⟨b, o, none⟩ = some v
theorem Keeps.of {w w' : World} (h : Below w.heap.size w w') : Keeps w w' := fun _ _ _ hc => keep hc h
theorem Keeps.refl (w : World) : Keeps w w := fun _ _ _ h => h
theorem Keeps.trans {a b c : World} (h : Keeps a b) (k : Keeps b c) : Keeps a c := fun _ _ _ hc => k _ _ _ (h _ _ _ hc)
/-- the world without one block -/
def hide (r : Option Nat) (w : World) : World := match r with
  | none => w
  | some g => { w with heap := w.heap.setIfInBounds g (.cells #[] 0) }
theorem hide_heap (g : Nat) (w : World) (b : Nat) (h : b ≠ g) : (hide (some g) w).heap[b]? = w.heap[b]? := by
  simp [hide, Ne.symm h]
theorem hide_cell {g : Nat} {w : World} {b o : Nat} {v : Value} (h : (hide (some g) w).cell? ⟨b, o, none⟩ = some v) : b ≠ g ∧ w.cell? ⟨b, o, none⟩ = some v := by
  by_cases hb : b = g
  · subst hb
    simp only [World.cell?, hide, Array.getElem?_setIfInBounds] at h
    by_cases hs : b < w.heap.size <;> simp [hs] at h
  · refine ⟨hb, ?_⟩
    rwa [World.cell?, hide_heap g w b hb] at h
theorem hide_keeps (r : Option Nat) (w : World) : Keeps (hide r w) w := by
  cases r with
  | none => exact Keeps.refl _
  | some g => exact fun b o v h => (hide_cell h).2
theorem hide_of_ne {g : Nat} {w : World} {b o : Nat} {v : Value} (hb : b ≠ g) (h : w.cell? ⟨b, o, none⟩ = some v) : (hide (some g) w).cell? ⟨b, o, none⟩ = some v := by
  rwa [World.cell?, hide_heap g w b hb]
theorem grown_keeps {w w' : World} {r : Option Nat} (h : w.grownBy w' r) : Keeps (hide r w) (hide r w') := by
  intro b o v hc
  cases r with
  | none => exact (World.cell?_of_block (w := w) (a := ⟨b, o, none⟩) (h.block b (cell_lt hc) (by simp))).trans hc
  | some g =>
    obtain ⟨hb, hc'⟩ := hide_cell hc
    exact hide_of_ne hb ((World.cell?_of_block (w := w) (a := ⟨b, o, none⟩) (h.block b (cell_lt hc') (by simp; exact hb))).trans hc')
/-- what was there before a block was made is read without it -/
theorem fresh_keeps {w w' : World} {g : Nat} (h : Keeps w w') (hg : w.heap.size ≤ g) : Keeps w (hide (some g) w') := by
  intro b o v hc
  have := cell_lt hc
  exact hide_of_ne (by omega) (h _ _ _ hc)

/-- data of a kind, laid at a place of memory -/
class Rep (α : Type) where
  sz : Nat
  E : World → Nat → Nat → α → Prop
  mono : ∀ {w w' : World} {b o : Nat} {x : α}, E w b o x → Keeps w w' → E w' b o x
  lt : ∀ {w : World} {b o : Nat} {x : α}, E w b o x → b < w.heap.size

/-- a slice reads as a list -/
structure Row {α : Type} [Rep α] (w : World) (a : Option Addr) (cap : Nat) (xs : List α) : Prop where
  le : xs.length ≤ cap
  max : cap ≤ 9223372036854775807
  nil : a = none → cap = 0
  at_ : ∀ i x, xs[i]? = some x → ∃ b off, a = some ⟨b, off, none⟩ ∧ Rep.E w b (off + i * Rep.sz α) x

section
variable {α : Type} [Rep α]
theorem Row.keeps {w w' : World} {a : Option Addr} {cap : Nat} {xs : List α} (h : Row w a cap xs) (hb : Keeps w w') : Row w' a cap xs :=
  ⟨h.le, h.max, h.nil, fun i c hi => let ⟨b, off, e, hc⟩ := h.at_ i c hi; ⟨b, off, e, Rep.mono hc hb⟩⟩
theorem Row.below {w w' : World} {a : Option Addr} {cap : Nat} {xs : List α} (h : Row w a cap xs) (hb : Below w.heap.size w w') : Row w' a cap xs :=
  h.keeps (Keeps.of hb)
/-- empty, or at a block -/
theorem Row.cases {w : World} {a : Option Addr} {cap : Nat} {xs : List α} (h : Row w a cap xs) :
    xs = [] ∨ ∃ b off, a = some ⟨b, off, none⟩ ∧ b < w.heap.size ∧ ∀ i (hi : i < xs.length), Rep.E w b (off + i * Rep.sz α) xs[i] := by
  by_cases hx : xs = []
  · exact .inl hx
  · right
    have h0 : 0 < xs.length := List.length_pos_iff.2 hx
    obtain ⟨b, off, e, hc⟩ := h.at_ 0 xs[0] (List.getElem?_eq_getElem h0)
    refine ⟨b, off, e, Rep.lt hc, fun i hi => ?_⟩
    obtain ⟨b', off', e', hc'⟩ := h.at_ i xs[i] (List.getElem?_eq_getElem hi)
    rw [e] at e'
    simp at e'
    obtain ⟨rfl, rfl⟩ := e'
    exact hc'
theorem Row.empty (w : World) (a : Option Addr) (cap : Nat) (h : cap ≤ 9223372036854775807) (hn : a = none → cap = 0) : Row w a cap ([] : List α) :=
  ⟨Nat.zero_le _, h, hn, fun i x hi => by simp at hi⟩
end

structure IntE (w : World) (b o : Nat) (n : Int) : Prop where
  c : w.cell? ⟨b, o, none⟩ = some (.int .i64 n)
  lo : -9223372036854775808 ≤ n
  hi : n ≤ 9223372036854775807
instance : Rep Int where
  sz := 1
  E := IntE
  mono h hb := ⟨hb _ _ _ h.c, h.lo, h.hi⟩
  lt h := cell_lt h.c
structure StrE (w : World) (b o : Nat) (s : ByteArray) : Prop where
  c : w.cell? ⟨b, o, none⟩ = some (.string s)
  hi : s.size ≤ 9223372036854775807
instance : Rep ByteArray where
  sz := 1
  E := StrE
  mono h hb := ⟨hb _ _ _ h.c, h.hi⟩
  lt h := cell_lt h.c
structure BoolE (w : World) (b o : Nat) (s : Bool) : Prop where
  c : w.cell? ⟨b, o, none⟩ = some (.bool s)
instance : Rep Bool where
  sz := 1
  E := BoolE
  mono h hb := ⟨hb _ _ _ h.c⟩
  lt h := cell_lt h.c
structure ListE {α : Type} [Rep α] (w : World) (b o : Nat) (xs : List α) : Prop where
  ex : ∃ a cap, w.cell? ⟨b, o, none⟩ = some (.slice a xs.length cap) ∧ Row w a cap xs
instance {α : Type} [Rep α] : Rep (List α) where
  sz := 1
  E := ListE
  mono h hb := let ⟨a, cap, hc, hr⟩ := h.ex; ⟨a, cap, hb _ _ _ hc, hr.keeps hb⟩
  lt h := let ⟨_, _, hc, _⟩ := h.ex; cell_lt hc

/-- a cell of a term -/
structure Cel where
  k : Int
  s : ByteArray
  n : Int
  deriving DecidableEq
abbrev Cel.v (c : Cel) : Value := .agg #[.int .i64 c.k, .string c.s, .int .i64 c.n]
structure Cel.fit (c : Cel) : Prop where
  k1 : -9223372036854775808 ≤ c.k
  k2 : c.k ≤ 9223372036854775807
  n1 : -9223372036854775808 ≤ c.n
  n2 : c.n ≤ 9223372036854775807
  s : c.s.size ≤ 9223372036854775807
structure CelAt (w : World) (b o : Nat) (c : Cel) : Prop where
  c0 : w.cell? ⟨b, o, none⟩ = some (.int .i64 c.k)
  c1 : w.cell? ⟨b, o + 1, none⟩ = some (.string c.s)
  c2 : w.cell? ⟨b, o + 2, none⟩ = some (.int .i64 c.n)
  fit : c.fit
theorem CelAt.keeps {w w' : World} {b o : Nat} {c : Cel} (h : CelAt w b o c) (hb : Keeps w w') : CelAt w' b o c :=
  ⟨hb _ _ _ h.c0, hb _ _ _ h.c1, hb _ _ _ h.c2, h.fit⟩
theorem CelAt.below {w w' : World} {b o : Nat} {c : Cel} (h : CelAt w b o c) (hb : Below w.heap.size w w') : CelAt w' b o c := h.keeps (Keeps.of hb)
instance : Rep Cel where
  sz := 3
  E := CelAt
  mono := CelAt.keeps
  lt h := cell_lt h.c0
theorem Row.fit {w : World} {a : Option Addr} {cap : Nat} {xs : List Cel} (h : Row w a cap xs) : ∀ c ∈ xs, c.fit := by
  intro c hc
  obtain ⟨i, hi, rfl⟩ := List.getElem_of_mem hc
  obtain ⟨b, off, _, he⟩ := h.at_ i xs[i] (List.getElem?_eq_getElem hi)
  exact CelAt.fit he
/-- a slice of cells at a block -/
theorem cel_at {w wr : World} {b off : Nat} {xs : List Cel} (hat : ∀ i (hi : i < xs.length), Rep.E w b (off + i * Rep.sz Cel) xs[i]) (hb : Below w.heap.size w wr) {k : Nat} (hk : k < xs.length) : CelAt wr b (off + k * 3) xs[k] :=
  CelAt.below (hat k hk) hb
theorem int_at {w wr : World} {b off : Nat} {xs : List Int} (hat : ∀ i (hi : i < xs.length), Rep.E w b (off + i * Rep.sz Int) xs[i]) (hb : Below w.heap.size w wr) {k : Nat} (hk : k < xs.length) : IntE wr b (off + k) xs[k] := by
  have h : IntE w b (off + k * 1) xs[k] := hat k hk
  rw [Nat.mul_one] at h
  exact ⟨keep h.c hb, h.lo, h.hi⟩
theorem list_at {α : Type} [Rep α] {w wr : World} {b off : Nat} {xs : List (List α)} (hat : ∀ i (hi : i < xs.length), Rep.E w b (off + i * Rep.sz (List α)) xs[i]) (hb : Below w.heap.size w wr) {k : Nat} (hk : k < xs.length) :
    ∃ a cap, wr.cell? ⟨b, off + k, none⟩ = some (.slice a xs[k].length cap) ∧ Row wr a cap xs[k] := by
  have h : ListE w b (off + k * 1) xs[k] := hat k hk
  rw [Nat.mul_one] at h
  obtain ⟨a, cap, hc, hr⟩ := h.ex
  exact ⟨a, cap, keep hc hb, hr.below hb⟩
theorem Cel.eq_iff (x y : Cel) : x = y ↔ x.k = y.k ∧ x.s = y.s ∧ x.n = y.n := by
  cases x; cases y; simp
theorem toList_inj (a b : ByteArray) : (a.toList = b.toList) ↔ a = b := by
  rw [ByteArray.toList_eq, ByteArray.toList_eq]
  constructor
  · intro e
    cases a; cases b
    simp at e
    rw [e]
  · intro e; rw [e]
set_option maxHeartbeats 400000 in
theorem run_neq_cel (x y : Cel) (w : World) : (binOp .neq 93 (.agg #[.int .i64 x.k, .string x.s, .int .i64 x.n]) (.agg #[.int .i64 y.k, .string y.s, .int .i64 y.n])).run Try.prog w = .ok (.bool (!decide (x = y))) w := by
  by_cases h1 : x.k = y.k
  · by_cases h2 : x.s = y.s
    · by_cases h3 : x.n = y.n
      · go_simp
        exact (Cel.eq_iff x y).2 ⟨h1, h2, h3⟩
      · have h4 : ¬ x = y := fun e => h3 (by rw [e])
        have h5 : (x.n == y.n) = false := by simp [h3]
        go_simp
    · have h4 : ¬ x = y := fun e => h2 (by rw [e])
      have h5 : (x.s.toList == y.s.toList) = false := by simp [toList_inj, h2]
      go_simp
  · have h4 : ¬ x = y := fun e => h1 (by rw [e])
    have h5 : (x.k == y.k) = false := by simp [h1]
    go_simp
theorem take_eq_snoc {α : Type} {xs ys : List α} {k : Nat} (h : xs.take k = ys.take k) (hx : k < xs.length) (hy : k < ys.length) (e : xs[k] = ys[k]) : xs.take (k + 1) = ys.take (k + 1) := by
  rw [List.take_succ_eq_append_getElem hx, List.take_succ_eq_append_getElem hy, h, e]
theorem take_all {α : Type} {xs ys : List α} {k : Nat} (h : xs.take k = ys.take k) (hx : xs.length ≤ k) (hy : ys.length ≤ k) : xs = ys := by
  rwa [List.take_of_length_le hx, List.take_of_length_le hy] at h

/-! ### rows that a call makes and appends to -/
/-- the source of an append -/
structure Src (w : World) (size : Nat) (sa : Option Addr) (m c : Nat) (news : List Value) : Prop where
  len : news.length = m * size
  nil : sa = none → m = 0 ∧ c = 0
  cells : ∀ ad, sa = some ad → ∀ j u, news[j]? = some u → w.cell? (ad.add j) = some u
  one : ∀ u ∈ news, u.oneCell' = true

theorem grown_below {w w' : World} {B e size : Nat} {v : Value} {n : Nat} {xs : List Value} (hg : w.grownBy w' v.ownBlock) (hown : w.ownsRow B e size v n xs) (hB : B ≤ w.heap.size) : Below B w w' :=
  (Below.refl B w).grown hg hB (fun k hk => (hown.lt k hk).1)

theorem wpList_app {P : Program} {w : World} {ops : Array Oper} {rest : List Oper} {o : Oper} {a : Act} {Q : Exit → Act → World → Prop} (hgd : o.guard = none) (s x : Operand) (t : TypeId)
    (ho : o.op = .call { callee := .builtin .append, args := #[s, x], argTypes := #[t, t] })
    (B e size bytes : Nat) (z : Value) (ht : P.underlying t = some (.slice e)) (hinfo : (P.info? e).map (fun i => (i.zero, i.size, i.bytes)) = some (some z, size, bytes))
    (hzs : z.cells.size = size) (hsz : 0 < size) (hby : bytes ≤ 1000)
    (v : Value) (n : Nat) (xs : List Value) (hs : a.eval s = v) (hown : w.ownsRow B e size v n xs)
    (sa : Option Addr) (m c : Nat) (news : List Value) (hx : a.eval x = .slice sa m c) (hsrc : Src w size sa m c news)
    (hmax : n + m ≤ 1000000000) (hB : B ≤ w.heap.size)
    (h : ∀ v' w', w'.ownsRow B e size v' (n + m) (xs ++ news) → w.grownBy w' v.ownBlock → Below B w w' → wpList P ops Q rest (a.put o.dst v') w') : wpList P ops Q (o :: rest) a w := by
  obtain ⟨i, hi, hz0, hz1, hz2⟩ := info_parts hinfo
  have hb : (n + m) * bytes ≤ 140737488355328 := Nat.le_trans (Nat.mul_le_mul hmax hby) (by decide)
  cases sa with
  | none =>
    obtain ⟨rfl, rfl⟩ := hsrc.nil rfl
    have hn : news = [] := List.eq_nil_of_length_eq_zero (by have := hsrc.len; simpa using this)
    subst hn
    refine wpList_append_own_none hgd s x t ho B e i size ht hi v n xs hs hown hx ?_
    exact h v w (by simpa using hown) ⟨rfl, rfl, rfl, Nat.le_refl _, fun _ _ _ => rfl⟩ (Below.refl _ _)
  | some ad =>
    refine wpList_append_own w hgd s x t ho B e i z size bytes ht hi hz0 hz1 hz2 hzs hsz v n xs hs hown ad m c news hx hsrc.len (hsrc.cells ad rfl) hsrc.one (by unfold maxLen; omega) hb hB ?_
    intro v' w' h1 h2 _
    exact h v' w' h1 h2 (grown_below h2 hown hB)

/-- the cells of a row of cells of terms -/
def flat (xs : List Cel) : List Value := xs.flatMap fun c => [.int .i64 c.k, .string c.s, .int .i64 c.n]
theorem flat_length (xs : List Cel) : (flat xs).length = xs.length * 3 := by
  induction xs with
  | nil => rfl
  | cons c xs ih => simp only [flat, List.flatMap_cons, List.length_append, List.length_cons, List.length_nil] at ih ⊢; omega
theorem flat_append (xs ys : List Cel) : flat (xs ++ ys) = flat xs ++ flat ys := by simp [flat]
theorem flat_at (xs : List Cel) (i : Nat) (hi : i < xs.length) : (flat xs)[i * 3]? = some (.int .i64 xs[i].k) ∧ (flat xs)[i * 3 + 1]? = some (.string xs[i].s) ∧ (flat xs)[i * 3 + 2]? = some (.int .i64 xs[i].n) := by
  induction xs generalizing i with
  | nil => simp at hi
  | cons c xs ih =>
    cases i with
    | zero => simp [flat]
    | succ i =>
      have := ih i (by simpa using hi)
      have hf : flat (c :: xs) = .int .i64 c.k :: .string c.s :: .int .i64 c.n :: flat xs := rfl
      rw [hf, show (i + 1) * 3 = i * 3 + 1 + 1 + 1 by omega]
      simp only [List.getElem_cons_succ, List.getElem?_cons_succ, Nat.add_right_comm _ 1]
      exact this
theorem flat_one (xs : List Cel) : ∀ u ∈ flat xs, u.oneCell' = true := by
  intro u hu
  simp [flat] at hu
  obtain ⟨c, _, rfl | rfl | rfl⟩ := hu <;> rfl
theorem Row.src {w : World} {a : Option Addr} {cap : Nat} {xs : List Cel} (h : Row w a cap xs) : Src w 3 a xs.length cap (flat xs) := by
  refine ⟨flat_length xs, fun e => ⟨?_, h.nil e⟩, ?_, flat_one xs⟩
  · have := h.le; have := h.nil e; omega
  · intro ad e j u hj
    have hl : j < xs.length * 3 := by rw [← flat_length]; exact (List.getElem?_eq_some_iff.1 hj).1
    have hi : j / 3 < xs.length := by omega
    obtain ⟨b, off, e', hc⟩ := h.at_ (j / 3) _ (List.getElem?_eq_getElem hi)
    rw [e] at e'
    simp at e'
    subst e'
    have hc' : CelAt w b (off + j / 3 * 3) xs[j / 3] := hc
    have ha : (Addr.mk b off none).add j = ⟨b, off + j, none⟩ := by unfold Addr.add; split <;> simp_all
    rw [ha]
    obtain ⟨f0, f1, f2⟩ := flat_at xs (j / 3) hi
    have : j = j / 3 * 3 ∨ j = j / 3 * 3 + 1 ∨ j = j / 3 * 3 + 2 := by omega
    rcases this with e | e | e
    · rw [e, f0] at hj; rw [e, ← Option.some.inj hj]; exact hc'.c0
    · rw [e, f1] at hj; rw [e, ← Option.some.inj hj]; exact hc'.c1
    · rw [e, f2] at hj; rw [e, ← Option.some.inj hj]; exact hc'.c2

/-- a row of the call's own reads as a row -/
theorem own_row {w : World} {B e : Nat} {v : Value} {xs : List Cel} (h : w.ownsRow B e 3 v xs.length (flat xs)) (hf : ∀ c ∈ xs, c.fit) : ∃ a cap, v = .slice a xs.length cap ∧ Row w a cap xs := by
  rcases h.2 with ⟨rfl, hn⟩ | ⟨g, cap, cur, rfl, hb, hg, hn, hm, hs, ht⟩
  · obtain rfl : xs = [] := List.eq_nil_of_length_eq_zero hn
    exact ⟨none, 0, rfl, Row.empty _ _ _ (by omega) (fun _ => rfl)⟩
  · refine ⟨_, cap, rfl, ⟨hn, by unfold maxLen at hm; omega, (fun e => by cases e), fun i x hi => ⟨g, 0, rfl, ?_⟩⟩⟩
    have hl : i < xs.length := (List.getElem?_eq_some_iff.1 hi).1
    have hx : xs[i] = x := by rw [List.getElem?_eq_getElem hl] at hi; exact Option.some.inj hi
    have hc : ∀ j u, (flat xs)[j]? = some u → w.cell? ⟨g, j, none⟩ = some u := by
      intro j u hu
      have := World.ownsRow.cells h (g := g) rfl j u hu
      have ha : (Addr.mk g 0 none).add j = ⟨g, j, none⟩ := by unfold Addr.add; split <;> simp_all
      rwa [ha] at this
    obtain ⟨f0, f1, f2⟩ := flat_at xs i hl
    subst hx
    show CelAt w g (0 + i * 3) xs[i]
    rw [Nat.zero_add]
    exact ⟨hc _ _ f0, hc _ _ f1, hc _ _ f2, hf _ (List.getElem_mem hl)⟩

/-- one new element, in a block of its own -/
theorem src_new (w : World) (cs : Array Value) (T size : Nat) (hs : cs.size = size) (h1 : ∀ u ∈ cs.toList, u.oneCell' = true) : Src (w.alloc (.cells cs T)) size (some ⟨w.heap.size, 0, none⟩) 1 1 cs.toList := by
  refine ⟨by simp [hs], (fun e => by cases e), ?_, h1⟩
  intro ad e j u hu
  simp at e
  subst e
  have ha : (Addr.mk w.heap.size 0 none).add j = ⟨w.heap.size, j, none⟩ := by unfold Addr.add; split <;> simp_all
  rw [ha, World.cell?_alloc_at _ _ _ _ rfl]
  simpa using hu

theorem own_cells {w : World} {B e size : Nat} {g n cap : Nat} {vs : List Value} (h : w.ownsRow B e size (.slice (some ⟨g, 0, none⟩) n cap) n vs) : ∀ j u, vs[j]? = some u → w.cell? ⟨g, j, none⟩ = some u := by
  intro j u hu
  have := World.ownsRow.cells h (g := g) rfl j u hu
  have ha : (Addr.mk g 0 none).add j = ⟨g, j, none⟩ := by unfold Addr.add; split <;> simp_all
  rwa [ha] at this

theorem own_rowI {w : World} {B e : Nat} {v : Value} {xs : List Int} (h : w.ownsRow B e 1 v xs.length (xs.map (Value.int .i64))) (hf : ∀ n ∈ xs, -9223372036854775808 ≤ n ∧ n ≤ 9223372036854775807) : ∃ a cap, v = .slice a xs.length cap ∧ Row w a cap xs := by
  rcases h.2 with ⟨rfl, hn⟩ | ⟨g, cap, cur, rfl, hb, hg, hn, hm, hs, ht⟩
  · obtain rfl : xs = [] := List.eq_nil_of_length_eq_zero hn
    exact ⟨none, 0, rfl, Row.empty _ _ _ (by omega) (fun _ => rfl)⟩
  · refine ⟨_, cap, rfl, ⟨hn, by unfold maxLen at hm; omega, (fun e => by cases e), fun i x hi => ⟨g, 0, rfl, ?_⟩⟩⟩
    have hl : i < xs.length := (List.getElem?_eq_some_iff.1 hi).1
    have hx : xs[i] = x := by rw [List.getElem?_eq_getElem hl] at hi; exact Option.some.inj hi
    show IntE w g (0 + i * 1) x
    rw [Nat.zero_add, Nat.mul_one]
    have hm := hf x (hx ▸ List.getElem_mem hl)
    exact ⟨own_cells h i _ (by rw [List.getElem?_map, hi]; rfl), hm.1, hm.2⟩
end Go.Proofs.Ytnpffificfghpaa
namespace Go.Proofs.Ytnpffificfghpaa
open Go.RowKit

def okByte (c : UInt8) : Bool := decide (32 ≤ (c.toNat : Int)) && decide ((c.toNat : Int) ≤ 126) && !((c.toNat : Int) == 39)
def nameOk (s : ByteArray) : Bool := s.data.toList.all okByte && decide (1 ≤ (s.size : Int)) && decide ((s.size : Int) ≤ 12)
def cellOk (c : Cel) : Bool :=
  (decide (c.k = 1) && decide (c.s.toList = []) && decide (0 ≤ c.n) && decide (c.n ≤ 999)) ||
  (decide (c.k = 2) && decide (c.s.toList = []) && decide (-2147483647 ≤ c.n) && decide (c.n ≤ 2147483647)) ||
  (decide (c.k = 3) && nameOk c.s && decide (0 ≤ c.n) && decide (c.n ≤ 6))
def ar (c : Cel) : Nat := if c.k = 3 then c.n.toNat else 0
def sk : Nat → List Cel → Option (List Cel)
  | 0, l => some l
  | _ + 1, [] => none
  | m + 1, c :: l => if cellOk c then sk (m + ar c) l else none
def endI (xs : List Cel) (i : Nat) : Int := match sk 1 (xs.drop i) with
  | none => -1
  | some r => xs.length - r.length

theorem take_snoc (s : ByteArray) (k : Nat) (h : k < s.size) : s.data.toList.take (k + 1) = s.data.toList.take k ++ [s[k]] := by
  rw [List.take_succ_eq_append_getElem (by simpa using h)]; rfl
theorem okByte_true {c : UInt8} (h : okByte c = true) : 32 ≤ (c.toNat : Int) ∧ (c.toNat : Int) ≤ 126 ∧ ((c.toNat : Int) == 39) = false := by
  simp [okByte] at h ⊢; omega
theorem okByte_false {c : UInt8} (h : okByte c = false) : (c.toNat : Int) < 32 ∨ 32 ≤ (c.toNat : Int) ∧ 126 < (c.toNat : Int) ∨ 32 ≤ (c.toNat : Int) ∧ (c.toNat : Int) ≤ 126 ∧ ((c.toNat : Int) == 39) = true := by
  simp [okByte] at h ⊢; omega
theorem all_bad (s : ByteArray) (k : Nat) (h : k < s.size) (hb : okByte s[k] = false) : nameOk s = false := by
  have : s.data.toList.all okByte = false := by
    rw [List.all_eq_false]
    exact ⟨s[k], by simp [ByteArray.getElem_eq_getElem_data], by simp [hb]⟩
  simp [nameOk, this]
theorem all_snoc (s : ByteArray) (k : Nat) (h : k < s.size) (h1 : (s.data.toList.take k).all okByte = true) (hb : okByte s[k] = true) : (s.data.toList.take (k + 1)).all okByte = true := by
  rw [take_snoc s k h, List.all_append, h1]; simp [hb]
theorem nameOk_of (s : ByteArray) (h : s.data.toList.all okByte = true) : nameOk s = (decide (1 ≤ (s.size : Int)) && decide ((s.size : Int) ≤ 12)) := by
  simp [nameOk, h]

theorem sk_step (m : Nat) (xs : List Cel) (i : Nat) (h : i < xs.length) : sk (m + 1) (xs.drop i) = if cellOk xs[i] then sk (m + ar xs[i]) (xs.drop (i + 1)) else none := by
  rw [List.drop_eq_getElem_cons h]; rfl
theorem sk_end (m : Nat) (xs : List Cel) (i : Nat) (h : xs.length ≤ i) : sk (m + 1) (xs.drop i) = none := by
  rw [List.drop_eq_nil_of_le h]; rfl
theorem ar_le (c : Cel) (h : cellOk c = true) : ar c ≤ 6 := by
  unfold ar; simp [cellOk] at h; split <;> omega
theorem cellOk_fun (c : Cel) (h : cellOk c = true) (h3 : (c.k == 3) = true) : 0 ≤ c.n ∧ c.n ≤ 6 := by
  simp [cellOk] at h h3; omega
theorem endI_zero {xs : List Cel} {i j : Nat} (h : sk 1 (xs.drop i) = sk 0 (xs.drop j)) (hj : j ≤ xs.length) : endI xs i = j := by
  unfold endI; rw [h]; simp [sk]; omega
theorem endI_none {xs : List Cel} {i : Nat} (h : sk 1 (xs.drop i) = none) : endI xs i = -1 := by
  unfold endI; rw [h]
section
variable {xs : List Cel} {i0 k m : Nat}
theorem end_l1 (h : sk 1 (xs.drop i0) = sk (m + 1) (xs.drop k)) (hk : k < xs.length) (ho : cellOk xs[k] = false) : endI xs i0 = -1 :=
  endI_none (by rw [h, sk_step m xs k hk, ho]; rfl)
theorem end_l2 (hm : m ≤ 6 * k) (hk' : k ≤ 1048576) (h : sk 1 (xs.drop i0) = sk (m + 1) (xs.drop k)) (hk : k < xs.length) (ho : cellOk xs[k] = true) (h3 : (xs[k].k == 3) = true)
    (hz : (wrap64 ((m : Int) + xs[k].n) == 0) = true) : endI xs i0 = k + 1 := by
  have hn := cellOk_fun _ ho h3
  have : wrap64 ((m : Int) + xs[k].n) = (m : Int) + xs[k].n := IntWalk.wrap64_in _ (by constructor <;> omega)
  rw [this] at hz; simp at hz h3
  exact endI_zero (by rw [h, sk_step m xs k hk, ho]; simp only [if_true]; congr 1; unfold ar; rw [if_pos h3]; omega) hk
theorem end_l3 (hm : m ≤ 6 * k) (hk' : k ≤ 1048576) (h : sk 1 (xs.drop i0) = sk (m + 1) (xs.drop k)) (hk : k < xs.length) (ho : cellOk xs[k] = true) (h3 : (xs[k].k == 3) = true)
    (hz : (wrap64 ((m : Int) + xs[k].n) == 0) = false) : ∃ m' : Nat, wrap64 ((m : Int) + xs[k].n) = m' + 1 ∧ m' ≤ 6 * (k + 1) ∧ sk 1 (xs.drop i0) = sk (m' + 1) (xs.drop (k + 1)) := by
  have hn := cellOk_fun _ ho h3
  have : wrap64 ((m : Int) + xs[k].n) = (m : Int) + xs[k].n := IntWalk.wrap64_in _ (by constructor <;> omega)
  rw [this] at hz ⊢; simp at hz h3
  refine ⟨m + xs[k].n.toNat - 1, by omega, by omega, ?_⟩
  rw [h, sk_step m xs k hk, ho]; simp only [if_true]; congr 1; unfold ar; rw [if_pos h3]; omega
theorem end_l4 (h : sk 1 (xs.drop i0) = sk (m + 1) (xs.drop k)) (hk : k < xs.length) (ho : cellOk xs[k] = true) (h3 : (xs[k].k == 3) = false)
    (hz : ((m : Int) == 0) = true) : endI xs i0 = k + 1 := by
  simp at hz h3
  exact endI_zero (by rw [h, sk_step m xs k hk, ho]; simp only [if_true]; congr 1; unfold ar; rw [if_neg h3]; omega) hk
theorem end_l5 (h : sk 1 (xs.drop i0) = sk (m + 1) (xs.drop k)) (hk : k < xs.length) (ho : cellOk xs[k] = true) (h3 : (xs[k].k == 3) = false)
    (hz : ((m : Int) == 0) = false) : sk 1 (xs.drop i0) = sk (m - 1 + 1) (xs.drop (k + 1)) := by
  simp at hz h3
  rw [h, sk_step m xs k hk, ho]; simp only [if_true]; congr 1; unfold ar; rw [if_neg h3]; omega
end
def rightB (xs : List Cel) : Bool := decide ((xs.length : Int) ≤ 200) && decide (endI xs 0 = xs.length)
def arI (c : Cel) : Int := if c.k = 3 then c.n else 0
theorem rightB_pos {xs : List Cel} (h : xs.length < 1) : rightB xs = false := by
  obtain rfl : xs = [] := List.eq_nil_of_length_eq_zero (by omega)
  decide
theorem rightB_le {xs : List Cel} (h : (xs.length : Int) ≤ 200) : (endI xs 0 == xs.length) = rightB xs := by
  rw [rightB, decide_eq_true h, Bool.true_and]; rfl
theorem rightB_gt {xs : List Cel} (h : 200 < (xs.length : Int)) : false = rightB xs := by
  simp [rightB]; intros; omega

def afterI (xs : List Cel) (i j : Nat) : Int := match sk j (xs.drop i) with
  | none => -1
  | some r => xs.length - r.length
def passI (xs : List Cel) (i : Int) : Int := if 0 ≤ i then endI xs i.toNat else -1
theorem sk_add (a b : Nat) (l : List Cel) : sk (a + b) l = (sk a l).bind (sk b) := by
  induction l generalizing a with
  | nil => cases a with
    | zero => simp [sk]
    | succ a => rw [show a + 1 + b = a + b + 1 by omega]; rfl
  | cons c l ih => cases a with
    | zero => simp [sk]
    | succ a =>
      rw [show a + 1 + b = a + b + 1 by omega]
      simp only [sk]
      split
      · rw [show a + b + ar c = a + ar c + b by omega, ih]
      · rfl
theorem sk_suffix (m : Nat) (l r : List Cel) (h : sk m l = some r) : r.length ≤ l.length ∧ r = l.drop (l.length - r.length) := by
  induction l generalizing m with
  | nil => cases m with
    | zero => simp [sk] at h; subst h; simp
    | succ m => simp [sk] at h
  | cons c l ih => cases m with
    | zero => simp [sk] at h; subst h; simp
    | succ m =>
      simp only [sk] at h
      split at h
      · obtain ⟨h1, h2⟩ := ih _ h
        refine ⟨by simp; omega, ?_⟩
        rw [show (c :: l).length - r.length = (l.length - r.length) + 1 by simp; omega]
        exact h2
      · cases h
theorem sk_at {xs : List Cel} {i j : Nat} {r : List Cel} (hi : i ≤ xs.length) (h : sk j (xs.drop i) = some r) : r.length ≤ xs.length - i ∧ xs.drop (xs.length - r.length) = r := by
  obtain ⟨h1, h2⟩ := sk_suffix _ _ _ h
  rw [List.length_drop] at h1 h2
  refine ⟨h1, ?_⟩
  rw [List.drop_drop] at h2
  rw [show xs.length - r.length = i + (xs.length - i - r.length) by omega]
  exact h2.symm
theorem afterI_zero {xs : List Cel} {i : Nat} (h : i ≤ xs.length) : afterI xs i 0 = i := by
  simp [afterI, sk]; omega
theorem afterI_succ {xs : List Cel} {i j : Nat} (hi : i ≤ xs.length) : passI xs (afterI xs i j) = afterI xs i (j + 1) := by
  unfold afterI
  rw [sk_add]
  cases h : sk j (xs.drop i) with
  | none => rfl
  | some r =>
    obtain ⟨h1, h2⟩ := sk_at hi h
    simp only [Option.bind_some]
    unfold passI
    rw [if_pos (by omega), show ((xs.length : Int) - r.length).toNat = xs.length - r.length by omega]
    unfold endI
    rw [h2]
theorem endI_ok {xs : List Cel} {i : Nat} (hi : i < xs.length) (h : cellOk xs[i] = true) : endI xs i = afterI xs (i + 1) (ar xs[i]) := by
  unfold endI afterI
  have := sk_step 0 xs i hi
  rw [Nat.zero_add] at this
  rw [this, h]; simp
theorem endI_bad {xs : List Cel} {i : Nat} (hi : i < xs.length) (h : cellOk xs[i] = false) : endI xs i = -1 := by
  unfold endI
  have := sk_step 0 xs i hi
  rw [Nat.zero_add] at this
  rw [this, h]; simp
theorem endI_out {xs : List Cel} {i : Nat} (hi : xs.length ≤ i) : endI xs i = -1 := endI_none (sk_end 0 xs i hi)
theorem afterI_range {xs : List Cel} {i j : Nat} (hi : i ≤ xs.length) : afterI xs i j = -1 ∨ (i : Int) ≤ afterI xs i j ∧ afterI xs i j ≤ xs.length := by
  unfold afterI
  cases h : sk j (xs.drop i) with
  | none => exact .inl rfl
  | some r => obtain ⟨h1, _⟩ := sk_at hi h; right; simp only; omega
theorem arI_ar {c : Cel} (h : cellOk c = true) : arI c = ar c := by
  unfold arI ar
  by_cases h3 : c.k = 3
  · have := cellOk_fun c h (by simp [h3]); rw [if_pos h3, if_pos h3]; omega
  · rw [if_neg h3, if_neg h3]; rfl

def varsGo (acc : List Int) : List Cel → List Int
  | [] => acc
  | c :: l => varsGo (if c.k = 1 ∧ c.n ∉ acc then acc ++ [c.n] else acc) l
def varsL (xs : List Cel) : List Int := varsGo [] xs
theorem varsGo_step (acc : List Int) (xs : List Cel) (k : Nat) (h : k < xs.length) : varsGo acc (xs.drop k) = varsGo (if xs[k].k = 1 ∧ xs[k].n ∉ acc then acc ++ [xs[k].n] else acc) (xs.drop (k + 1)) := by
  rw [List.drop_eq_getElem_cons h]; rfl
theorem varsGo_fit (xs : List Cel) (hf : ∀ c ∈ xs, c.fit) : ∀ acc : List Int, (∀ n ∈ acc, -9223372036854775808 ≤ n ∧ n ≤ 9223372036854775807) → ∀ n ∈ varsGo acc xs, -9223372036854775808 ≤ n ∧ n ≤ 9223372036854775807 := by
  induction xs with
  | nil => intro acc h; exact h
  | cons c l ih =>
    intro acc h
    refine ih (fun d hd => hf d (List.mem_cons_of_mem _ hd)) _ ?_
    have hc := hf c List.mem_cons_self
    split
    · intro n hn
      rcases List.mem_append.1 hn with h' | h'
      · exact h n h'
      · simp at h'; subst h'; exact ⟨hc.n1, hc.n2⟩
    · exact h
theorem varsGo_length (xs : List Cel) : ∀ acc : List Int, (varsGo acc xs).length ≤ acc.length + xs.length := by
  induction xs with
  | nil => intro acc; simp [varsGo]
  | cons c l ih =>
    intro acc
    have h := ih (if c.k = 1 ∧ c.n ∉ acc then acc ++ [c.n] else acc)
    have h2 : (if c.k = 1 ∧ c.n ∉ acc then acc ++ [c.n] else acc).length ≤ acc.length + 1 := by split <;> simp
    simp only [varsGo, List.length_cons]
    omega
def groundB (xs : List Cel) : Bool := xs.all fun c => !decide (c.k = 1)
theorem varsGo_ne (xs : List Cel) : ∀ acc : List Int, acc ≠ [] → varsGo acc xs ≠ [] := by
  induction xs with
  | nil => intro acc h; exact h
  | cons c l ih =>
    intro acc h
    refine ih _ ?_
    split
    · simp
    · exact h
theorem ground_vars (xs : List Cel) : groundB xs = decide ((varsL xs).length = 0) := by
  unfold varsL
  induction xs with
  | nil => rfl
  | cons c l ih =>
    by_cases h : c.k = 1
    · have h1 : groundB (c :: l) = false := by simp [groundB, h]
      have h2 : varsGo [] (c :: l) = varsGo [c.n] l := by simp [varsGo, h]
      rw [h1, h2]
      have := varsGo_ne l [c.n] (by simp)
      simp [this]
    · have h1 : groundB (c :: l) = groundB l := by simp [groundB, h]
      have h2 : varsGo [] (c :: l) = varsGo [] l := by simp [varsGo, h]
      rw [h1, h2, ih]
end Go.Proofs.Ytnpffificfghpaa
namespace Go.Proofs.Ytnpffificfghpaa
open Go.RowKit

set_option maxHeartbeats 400000 in
theorem refname_any (s : ByteArray) (w : World) (hs : s.size ≤ 9223372036854775807) :
    Calls Try.prog 224 #[.string s] w fun e w' => e = .returned (.bool (nameOk s)) ∧ w = w' := by
  go_enter Try.func224, Try.ntmps224
  go_wp2
  go_loop [3] (fun i => ∃ k : Nat, k ≤ s.size ∧ i = .int .i64 k ∧ Hid ((s.data.toList.take k).all okByte = true)) (fun i => s.size - (intOf i).toNat)
  case atStart => exact ⟨0, Nat.zero_le _, rfl, rfl⟩
  case round =>
    obtain ⟨k, hk, rfl, Hall⟩ := hrel
    by_cases hlt : k < s.size
    · cases hb : okByte s[k] with
      | true =>
        obtain ⟨b1, b2, b3⟩ := okByte_true hb
        have HT : Hid ((s.data.toList.take (k+1)).all okByte = true) := all_snoc s k hlt Hall.out hb
        clear hb Hall
        go_wp2
        go_round
        case rel => exact ⟨k + 1, by omega, by go_num, HT⟩
        case measure => simp [intOf]; omega
      | false =>
        have HF : Hid (nameOk s = false) := all_bad s k hlt hb
        have hc := okByte_false hb
        clear hb Hall
        rcases hc with h | ⟨h1, h2⟩ | ⟨h1, h2, h3⟩
        all_goals
          go_wp2
          go_ret
          exact ⟨ret_bool HF.out.symm, rfl⟩
    · have HT : Hid (nameOk s = (decide (1 ≤ (s.size : Int)) && decide ((s.size : Int) ≤ 12))) := by
        have := Hall.out
        rw [List.take_of_length_le (by simp; omega)] at this
        exact nameOk_of s this
      clear Hall
      go_wp2
      all_goals
        go_ret
        refine ⟨ret_bool ?_, rfl⟩
        rw [HT.out]
        simp
        try omega

set_option maxHeartbeats 400000 in
theorem refcell_any (c : Cel) (w : World) (hf : c.fit) :
    Calls Try.prog 180 #[c.v] w fun e w' => e = .returned (.bool (cellOk c)) ∧ Below w.heap.size w w' := by
  obtain ⟨k, s, n⟩ := c
  obtain ⟨k1, k2, n1, n2, hs⟩ := hf
  dsimp only [Cel.v] at *
  go_enter Try.func180, Try.ntmps180
  go_wp2_with (go_at_call 224; refine (refname_any _ _ (by assumption)).mono ?_; rintro e w' ⟨rfl, rfl⟩)
  all_goals
    go_ret
    refine ⟨ret_bool ?_, (Below.refl _ _).alloc (Nat.le_refl _) _⟩
    simp_all [cellOk]
    try omega


set_option maxHeartbeats 400000 in
theorem refend_any (a : Option Addr) (cap : Nat) (i0 : Nat) (w : World) (xs : List Cel) (hr : Row w a cap xs) (hl : xs.length ≤ 1048576) (h0 : i0 ≤ 1048576) :
    Calls Try.prog 105 #[.slice a xs.length cap, .int .i64 i0] w fun e w' => e = .returned (.int .i64 (endI xs i0)) ∧ Below w.heap.size w w' := by
  rcases hr.cases with rfl | ⟨b, off, rfl, hb, hat⟩
  · have HE : Hid (endI [] i0 = -1) := endI_none (sk_end 0 [] i0 (by simp))
    have hcap := hr.max
    go_enter Try.func105, Try.ntmps105
    go_wp2
    go_loopw [5, 6] (fun o i wr => ∃ k : Nat, i = .int .i64 k ∧ Below w.heap.size w wr) (fun o i wr => 0)
    case atStart => exact ⟨i0, rfl, Below.refl _ _⟩
    case round =>
      obtain ⟨k, rfl, hbl⟩ := hrel
      go_wp2
      go_ret
      exact ⟨ret_int HE.out.symm, hbl⟩
  · go_enter Try.func105, Try.ntmps105
    go_wp2
    go_loopw [5, 6] (fun o i wr => ∃ k m : Nat, k ≤ 1048576 ∧ m ≤ 6 * k ∧ i = .int .i64 k ∧ o = .int .i64 (m + 1) ∧ Below w.heap.size w wr ∧ Hid (sk 1 (xs.drop i0) = sk (m + 1) (xs.drop k))) (fun o i wr => 1048576 - (intOf i).toNat)
    case atStart => exact ⟨i0, 0, h0, Nat.zero_le _, rfl, rfl, Below.refl _ _, rfl⟩
    case round =>
      obtain ⟨k, m, hk, hm, rfl, rfl, hbl, HS⟩ := hrel
      by_cases hlt : k < xs.length
      · obtain ⟨c0, c1, c2, hf⟩ := cel_at hat hbl hlt
        have n1 := hf.n1
        have n2 := hf.n2
        have HA : Hid (cellOk xs[k] = true → (xs[k].k == 3) = true → 0 ≤ xs[k].n ∧ xs[k].n ≤ 6) := cellOk_fun _
        go_wp2_with (go_at_call 180; refine (refcell_any xs[k] _ hf).mono ?_; rintro e w' ⟨rfl, hb1⟩; have d0 := keep c0 hb1; have d2 := keep c2 hb1; clear c0 c1 c2; cases hok : cellOk xs[k])
        · go_ret
          exact ⟨ret_int (end_l1 HS.out hlt hok).symm, hbl.then hb1⟩
        · have h3 : (xs[k].k == 3) = true := by assumption
          have hz : (wrap64 ((m : Int) + xs[k].n) == 0) = true := by assumption
          go_ret
          exact ⟨ret_int (end_l2 hm hk HS.out hlt hok h3 hz).symm, hbl.then hb1⟩
        · have h3 : (xs[k].k == 3) = true := by assumption
          have hz : (wrap64 ((m : Int) + xs[k].n) == 0) = false := by assumption
          obtain ⟨m', e1, e2, e3⟩ := end_l3 hm hk HS.out hlt hok h3 hz
          go_round
          case rel => exact ⟨k + 1, m', by omega, by omega, by go_num, by rw [e1], hbl.then hb1, e3⟩
          case measure => simp [intOf]; omega
        · have h3 : (xs[k].k == 3) = false := by assumption
          have hz : ((m : Int) == 0) = true := by assumption
          go_ret
          exact ⟨ret_int (end_l4 HS.out hlt hok h3 hz).symm, hbl.then hb1⟩
        · have h3 : (xs[k].k == 3) = false := by assumption
          have hz : ((m : Int) == 0) = false := by assumption
          go_round
          case rel => exact ⟨k + 1, m - 1, by omega, by omega, by go_num, by simp at hz; congr 1; omega, hbl.then hb1, end_l5 HS.out hlt hok h3 hz⟩
          case measure => simp [intOf]; omega
      · have HE : Hid (endI xs i0 = -1) := endI_none (by rw [HS.out, sk_end _ _ _ (by omega)])
        go_wp2
        go_ret
        exact ⟨ret_int HE.out.symm, hbl⟩
end Go.Proofs.Ytnpffificfghpaa
namespace Go.Proofs.Ytnpffificfghpaa
open Go.RowKit

set_option maxHeartbeats 400000 in
theorem refright_any (a : Option Addr) (cap : Nat) (w : World) (xs : List Cel) (hr : Row w a cap xs) :
    Calls Try.prog 49 #[.slice a xs.length cap] w fun e w' => e = .returned (.bool (rightB xs)) ∧ Below w.heap.size w w' := by
  by_cases h1 : xs.length < 1
  · have HF := mkHid (rightB_pos h1)
    go_enter Try.func49, Try.ntmps49
    go_wp2
    go_ret
    exact ⟨ret_bool HF.out.symm, Below.refl _ _⟩
  · go_enter Try.func49, Try.ntmps49
    go_wp2_with (go_at_call 105; refine (refend_any a cap 0 _ xs hr (by omega) (by omega)).mono ?_; rintro e w' ⟨rfl, hb1⟩)
    · go_ret
      exact ⟨ret_bool (rightB_le (by assumption)), hb1⟩
    · go_ret
      exact ⟨ret_bool (rightB_gt (by assumption)), Below.refl _ _⟩

set_option maxHeartbeats 400000 in
theorem named_any (s : ByteArray) (w : World) (hs : s.size ≤ 9223372036854775807) :
    Calls Try.prog 243 #[.string s] w fun e w' => e = .returned (.bool (nameOk s)) ∧ Below w.heap.size w w' := by
  by_cases h1 : s.size < 1
  · have HF : Hid (nameOk s = false) := by simp [Hid, nameOk]; intros; omega
    go_enter Try.func243, Try.ntmps243
    go_wp2
    go_ret
    exact ⟨ret_bool HF.out.symm, Below.refl _ _⟩
  by_cases h2 : 12 < s.size
  · have HF : Hid (nameOk s = false) := by simp [Hid, nameOk]; intros; omega
    go_enter Try.func243, Try.ntmps243
    go_wp2
    go_ret
    exact ⟨ret_bool HF.out.symm, Below.refl _ _⟩
  go_enter Try.func243, Try.ntmps243
  go_wp2
  go_loopw [15] (fun i wr => ∃ k : Nat, k ≤ s.size ∧ i = .int .i64 k ∧ Below w.heap.size w wr ∧ Hid ((s.data.toList.take k).all okByte = true)) (fun i wr => s.size - (intOf i).toNat)
  case atStart => exact ⟨0, Nat.zero_le _, rfl, Below.refl _ _, rfl⟩
  case round =>
    obtain ⟨k, hk, rfl, hbl, Hall⟩ := hrel
    by_cases hlt : k < s.size
    · cases hb : okByte s[k] with
      | true =>
        obtain ⟨b1, b2, b3⟩ := okByte_true hb
        have HT : Hid ((s.data.toList.take (k+1)).all okByte = true) := all_snoc s k hlt Hall.out hb
        clear hb Hall
        go_wp2
        go_round
        case rel => exact ⟨k + 1, by omega, by go_num, hbl, HT⟩
        case measure => simp [intOf]; omega
      | false =>
        have HF : Hid (nameOk s = false) := all_bad s k hlt hb
        have hc := okByte_false hb
        clear hb Hall
        rcases hc with h | ⟨h1, h2⟩ | ⟨h1, h2, h3⟩
        all_goals
          go_wp2
          go_ret
          exact ⟨ret_bool HF.out.symm, hbl⟩
    · have HT : Hid (nameOk s = (decide (1 ≤ (s.size : Int)) && decide ((s.size : Int) ≤ 12))) := by
        have := Hall.out
        rw [List.take_of_length_le (by simp; omega)] at this
        exact nameOk_of s this
      clear Hall
      go_wp2
      go_ret
      refine ⟨ret_bool ?_, hbl⟩
      rw [HT.out]
      simp
      omega

set_option maxHeartbeats 400000 in
theorem may_any (c : Cel) (w : World) (hf : c.fit) :
    Calls Try.prog 226 #[c.v] w fun e w' => e = .returned (.bool (cellOk c)) ∧ Below w.heap.size w w' := by
  obtain ⟨k, s, n⟩ := c
  obtain ⟨k1, k2, n1, n2, hs⟩ := hf
  dsimp only [Cel.v] at *
  go_enter Try.func226, Try.ntmps226
  have hb0 : Below w.heap.size w w := Below.refl _ _
  go_wp2_with (go_at_call 243; refine (named_any _ _ (by assumption)).mono ?_; rintro e w' ⟨rfl, hb1⟩; replace hb0 := ((Below.refl w.heap.size w).new _).then hb1)
  all_goals
    go_ret
    refine ⟨ret_bool ?_, (by first | assumption | exact (Below.refl _ _).alloc (Nat.le_refl _) _)⟩
    simp_all [cellOk]
    try omega

set_option maxHeartbeats 400000 in
theorem arguments_any (c : Cel) (w : World) :
    Calls Try.prog 197 #[c.v] w fun e w' => e = .returned (.int .i64 (arI c)) ∧ Below w.heap.size w w' := by
  obtain ⟨k, s, n⟩ := c
  dsimp only [Cel.v] at *
  go_enter Try.func197, Try.ntmps197
  go_wp2
  all_goals
    go_ret
    refine ⟨ret_int ?_, (Below.refl _ _).alloc (Nat.le_refl _) _⟩
    simp_all [arI]
end Go.Proofs.Ytnpffificfghpaa
namespace Go.Proofs.Ytnpffificfghpaa
open Go.RowKit

def placeI (l : List Int) (n : Int) : Int := if n ∈ l then (l.idxOf n : Int) else -1
theorem not_mem_snoc {xs : List Int} {n : Int} {k : Nat} (hlt : k < xs.length) (h : n ∉ xs.take k) (he : ¬ xs[k] = n) : n ∉ xs.take (k + 1) := by
  rw [List.take_succ_eq_append_getElem hlt, List.mem_append]
  simp only [List.mem_singleton]
  rintro (h' | h')
  · exact h h'
  · exact he h'.symm
theorem idxOf_at {xs : List Int} {n : Int} {k : Nat} (hlt : k < xs.length) (h : n ∉ xs.take k) (he : xs[k] = n) : placeI xs n = k := by
  have hm : n ∈ xs := he ▸ List.getElem_mem hlt
  have hs : xs = xs.take k ++ (xs[k] :: xs.drop (k + 1)) := by
    rw [← List.drop_eq_getElem_cons hlt, List.take_append_drop]
  unfold placeI
  rw [if_pos hm, hs, List.idxOf_append, if_neg h, he]
  simp
  omega

set_option maxHeartbeats 400000 in
theorem refin_any (a : Option Addr) (cap : Nat) (n : Int) (w : World) (xs : List Int) (hx : Row w a cap xs) :
    Calls Try.prog 103 #[.slice a xs.length cap, .int .i64 n] w fun e w' => e = .returned (.bool (decide (n ∈ xs))) ∧ Below w.heap.size w w' := by
  have hm := hx.max
  have hm2 := hx.le
  go_enter Try.func103, Try.ntmps103
  go_wp2
  go_loopw [5] (fun i wr => ∃ k : Nat, k ≤ xs.length ∧ i = .int .i64 k ∧ Below w.heap.size w wr ∧ Hid (n ∉ xs.take k)) (fun i wr => xs.length - (intOf i).toNat)
  case atStart => exact ⟨0, Nat.zero_le _, rfl, Below.refl _ _, by simp [Hid]⟩
  case round =>
    obtain ⟨k, hk, rfl, hbl, HS⟩ := hrel
    by_cases hlt : k < xs.length
    · obtain ⟨b, off, rfl, hb, hat⟩ := hx.cases.resolve_left (fun e => by simp [e] at hlt)
      obtain ⟨c0, _, _⟩ := int_at hat hbl hlt
      by_cases he : xs[k] = n
      · have HE : Hid (true = (decide (n ∈ xs))) := by rw [← he]; simp [Hid]
        have ht : (xs[k] == n) = true := by simp [he]
        clear he HS
        go_wp2
        go_ret
        exact ⟨ret_bool HE.out, hbl⟩
      · have ht : (xs[k] == n) = false := by simp [he]
        have HT : Hid (n ∉ xs.take (k + 1)) := not_mem_snoc hlt HS.out he
        clear he HS
        go_wp2
        go_round
        case rel => exact ⟨k + 1, by omega, by go_num, hbl, HT⟩
        case measure => simp [intOf]; omega
    · have HE : Hid (false = (decide (n ∈ xs))) := by
        have := HS.out
        rw [List.take_of_length_le (by omega)] at this
        simp [Hid, this]
      clear HS
      go_wp2
      go_ret
      exact ⟨ret_bool HE.out, hbl⟩

set_option maxHeartbeats 400000 in
theorem refplace_any (a : Option Addr) (cap : Nat) (n : Int) (w : World) (xs : List Int) (hx : Row w a cap xs) :
    Calls Try.prog 195 #[.slice a xs.length cap, .int .i64 n] w fun e w' => e = .returned (.int .i64 (placeI xs n)) ∧ Below w.heap.size w w' := by
  have hm := hx.max
  have hm2 := hx.le
  go_enter Try.func195, Try.ntmps195
  go_wp2
  go_loopw [5] (fun i wr => ∃ k : Nat, k ≤ xs.length ∧ i = .int .i64 k ∧ Below w.heap.size w wr ∧ Hid (n ∉ xs.take k)) (fun i wr => xs.length - (intOf i).toNat)
  case atStart => exact ⟨0, Nat.zero_le _, rfl, Below.refl _ _, by simp [Hid]⟩
  case round =>
    obtain ⟨k, hk, rfl, hbl, HS⟩ := hrel
    by_cases hlt : k < xs.length
    · obtain ⟨b, off, rfl, hb, hat⟩ := hx.cases.resolve_left (fun e => by simp [e] at hlt)
      obtain ⟨c0, _, _⟩ := int_at hat hbl hlt
      by_cases he : xs[k] = n
      · have HE : Hid ((k : Int) = (placeI xs n)) := by exact (idxOf_at hlt HS.out he).symm
        have ht : (xs[k] == n) = true := by simp [he]
        clear he HS
        go_wp2
        go_ret
        exact ⟨ret_int HE.out, hbl⟩
      · have ht : (xs[k] == n) = false := by simp [he]
        have HT : Hid (n ∉ xs.take (k + 1)) := not_mem_snoc hlt HS.out he
        clear he HS
        go_wp2
        go_round
        case rel => exact ⟨k + 1, by omega, by go_num, hbl, HT⟩
        case measure => simp [intOf]; omega
    · have HE : Hid (-1 = (placeI xs n)) := by
        have := HS.out
        rw [List.take_of_length_le (by omega)] at this
        simp [Hid, placeI, this]
      clear HS
      go_wp2
      go_ret
      exact ⟨ret_int HE.out, hbl⟩

set_option maxHeartbeats 400000 in
theorem refsame_any (a : Option Addr) (cap : Nat) (a' : Option Addr) (cap' : Nat) (w : World) (xs ys : List Cel) (hx : Row w a cap xs) (hy : Row w a' cap' ys) :
    Calls Try.prog 60 #[.slice a xs.length cap, .slice a' ys.length cap'] w fun e w' => e = .returned (.bool (decide (xs = ys))) ∧ Below w.heap.size w w' := by
  have hm := hx.max
  have hm2 := hx.le
  have hm3 := hy.max
  have hm4 := hy.le
  by_cases hlen : xs.length = ys.length
  · have hlt2 : ys.length ≤ xs.length := by omega
    have hlt3 : xs.length ≤ ys.length := by omega
    have hne : ((xs.length : Int) != (ys.length : Int)) = false := by simp [hlen]
    clear hlen
    go_enter Try.func60, Try.ntmps60
    go_wp2
    go_loopw [5] (fun i wr => ∃ k : Nat, k ≤ xs.length ∧ i = .int .i64 k ∧ Below w.heap.size w wr ∧ Hid (xs.take k = ys.take k)) (fun i wr => xs.length - (intOf i).toNat)
    case atStart => exact ⟨0, Nat.zero_le _, rfl, Below.refl _ _, rfl⟩
    case round =>
      obtain ⟨k, hk, rfl, hbl, HS⟩ := hrel
      by_cases hlt : k < xs.length
      · have hlt' : k < ys.length := by omega
        obtain ⟨b, off, rfl, hb, hat⟩ := hx.cases.resolve_left (fun e => by simp [e] at hlt)
        obtain ⟨b', off', rfl, hb', hat'⟩ := hy.cases.resolve_left (fun e => by simp [e] at hlt')
        obtain ⟨c0, c1, c2, hf⟩ := cel_at hat hbl hlt
        obtain ⟨d0, d1, d2, hf2⟩ := cel_at hat' hbl hlt'
        by_cases he : xs[k] = ys[k]
        · have HT : Hid (xs.take (k + 1) = ys.take (k + 1)) := take_eq_snoc HS.out hlt hlt' he
          have hd : decide (xs[k] = ys[k]) = true := decide_eq_true he
          have hne := fun w => run_neq_cel xs[k] ys[k] w
          rw [hd] at hne
          clear he HS hd
          go_wp2
          go_quiet (fail)
          go_wp2
          go_round
          case rel => exact ⟨k + 1, by omega, by go_num, ⟨hbl.os, hbl.tape, hbl.output, hbl.size, hbl.block⟩, HT⟩
          case measure => simp [intOf]; omega
        · have HE : Hid (false = decide (xs = ys)) := by
            rw [Hid, decide_eq_false]; intro e; subst e; exact he rfl
          have hd : decide (xs[k] = ys[k]) = false := decide_eq_false he
          have hne := fun w => run_neq_cel xs[k] ys[k] w
          rw [hd] at hne
          clear he HS hd
          go_wp2
          go_quiet (fail)
          go_wp2
          go_ret
          exact ⟨ret_bool HE.out, ⟨hbl.os, hbl.tape, hbl.output, hbl.size, hbl.block⟩⟩
      · have HE : Hid (true = decide (xs = ys)) := by
          rw [Hid, decide_eq_true (take_all HS.out (by omega) (by omega))]
        clear HS
        go_wp2
        go_ret
        exact ⟨ret_bool HE.out, hbl⟩
  · have HE : Hid (false = decide (xs = ys)) := by
      rw [Hid, decide_eq_false]; intro e; rw [e] at hlen; exact hlen rfl
    have hne : ((xs.length : Int) != (ys.length : Int)) = true := by simp; omega
    clear hlen
    go_enter Try.func60, Try.ntmps60
    go_wp2
    go_ret
    exact ⟨ret_bool HE.out, Below.refl _ _⟩

set_option maxHeartbeats 400000 in
theorem same_any (a : Option Addr) (cap : Nat) (a' : Option Addr) (cap' : Nat) (w : World) (xs ys : List Cel) (hx : Row w a cap xs) (hy : Row w a' cap' ys) :
    Calls Try.prog 156 #[.slice a xs.length cap, .slice a' ys.length cap'] w fun e w' => e = .returned (.bool (decide (xs = ys))) ∧ Below w.heap.size w w' := by
  have hm := hx.max
  have hm2 := hx.le
  have hm3 := hy.max
  have hm4 := hy.le
  by_cases hlen : xs.length = ys.length
  · have hlt2 : ys.length ≤ xs.length := by omega
    have hlt3 : xs.length ≤ ys.length := by omega
    have hne : ((xs.length : Int) != (ys.length : Int)) = false := by simp [hlen]
    clear hlen
    go_enter Try.func156, Try.ntmps156
    go_wp2
    go_loopw [13] (fun i wr => ∃ k : Nat, k ≤ xs.length ∧ i = .int .i64 k ∧ Below w.heap.size w wr ∧ Hid (xs.take k = ys.take k)) (fun i wr => xs.length - (intOf i).toNat)
    case atStart => exact ⟨0, Nat.zero_le _, rfl, Below.refl _ _, rfl⟩
    case round =>
      obtain ⟨k, hk, rfl, hbl, HS⟩ := hrel
      by_cases hlt : k < xs.length
      · have hlt' : k < ys.length := by omega
        obtain ⟨b, off, rfl, hb, hat⟩ := hx.cases.resolve_left (fun e => by simp [e] at hlt)
        obtain ⟨b', off', rfl, hb', hat'⟩ := hy.cases.resolve_left (fun e => by simp [e] at hlt')
        obtain ⟨c0, c1, c2, hf⟩ := cel_at hat hbl hlt
        obtain ⟨d0, d1, d2, hf2⟩ := cel_at hat' hbl hlt'
        by_cases he : xs[k] = ys[k]
        · have HT : Hid (xs.take (k + 1) = ys.take (k + 1)) := take_eq_snoc HS.out hlt hlt' he
          have hd : decide (xs[k] = ys[k]) = true := decide_eq_true he
          have hne := fun w => run_neq_cel xs[k] ys[k] w
          rw [hd] at hne
          clear he HS hd
          go_wp2
          go_quiet (fail)
          go_wp2
          go_round
          case rel => exact ⟨k + 1, by omega, by go_num, ⟨hbl.os, hbl.tape, hbl.output, hbl.size, hbl.block⟩, HT⟩
          case measure => simp [intOf]; omega
        · have HE : Hid (false = decide (xs = ys)) := by
            rw [Hid, decide_eq_false]; intro e; subst e; exact he rfl
          have hd : decide (xs[k] = ys[k]) = false := decide_eq_false he
          have hne := fun w => run_neq_cel xs[k] ys[k] w
          rw [hd] at hne
          clear he HS hd
          go_wp2
          go_quiet (fail)
          go_wp2
          go_ret
          exact ⟨ret_bool HE.out, ⟨hbl.os, hbl.tape, hbl.output, hbl.size, hbl.block⟩⟩
      · have HE : Hid (true = decide (xs = ys)) := by
          rw [Hid, decide_eq_true (take_all HS.out (by omega) (by omega))]
        clear HS
        go_wp2
        go_ret
        exact ⟨ret_bool HE.out, hbl⟩
  · have HE : Hid (false = decide (xs = ys)) := by
      rw [Hid, decide_eq_false]; intro e; rw [e] at hlen; exact hlen rfl
    have hne : ((xs.length : Int) != (ys.length : Int)) = true := by simp; omega
    clear hlen
    go_enter Try.func156, Try.ntmps156
    go_wp2
    go_ret
    exact ⟨ret_bool HE.out, Below.refl _ _⟩

end Go.Proofs.Ytnpffificfghpaa
namespace Go.Proofs.Ytnpffificfghpaa
open Go.RowKit

theorem Try.infoCell : (Try.prog.info? 93).map (fun i => (i.zero, i.size, i.bytes)) = some (some (.agg #[.int .i64 0, .string ⟨#[]⟩, .int .i64 0]), 3, 32) := by kernel_rfl

set_option maxHeartbeats 400000 in
theorem clone_any (a : Option Addr) (cap : Nat) (w : World) (xs : List Cel) (hx : Row w a cap xs) (hl : xs.length ≤ 1000000) :
    Calls Try.prog 149 #[.slice a xs.length cap] w fun e w' => ∃ v, e = .returned v ∧ w'.ownsRow w.heap.size 93 3 v xs.length (flat xs) ∧ Below w.heap.size w w' := by
  have hsrc := hx.src
  cases a with
  | none =>
    have h0 := (hsrc.nil rfl).1
    obtain rfl : xs = [] := List.eq_nil_of_length_eq_zero h0
    have hc := hx.nil rfl
    subst hc
    have hnil := fun w' : World => Lib.run_eql_slice_nil (P := Try.prog) w' 30 93 none 0 0 0 0 Try.underlying30
    go_enter Try.func149, Try.ntmps149
    go_wp2
    go_ret
    exact ⟨_, rfl, World.ownsRow_nil _ _ _ _, Below.refl _ _⟩
  | some ad =>
    have hnil := fun w' : World => Lib.run_eql_slice_nil (P := Try.prog) w' 30 93 (some ad) xs.length cap 0 0 Try.underlying30
    have hm := World.ownsRow_made (base := w.heap.size) (e := 93) (size := 3) w #[] 0 (Nat.le_refl _) (by unfold maxLen; omega) rfl
    have hb0 := (Below.refl w.heap.size w).new (.cells #[] 93)
    have hs : Src (w.alloc (.cells #[] 93)) 3 (some ad) xs.length cap (flat xs) := (hx.below hb0).src
    go_enter Try.func149, Try.ntmps149
    go_wp2_with (at_builtin; refine wpList_app rfl _ _ 30 rfl w.heap.size 93 3 32 _ Try.underlying30 Try.infoCell rfl (by decide) (by decide) _ 0 [] rfl hm (some ad) xs.length cap (flat xs) rfl hs (by omega) (by simp) ?_; intro v' w' hown _ hb1)
    go_ret
    refine ⟨_, rfl, by simpa using hown, ?_⟩
    exact hb0.trans hb1
theorem clone_any' (n : Nat) (a : Option Addr) (cap : Nat) (w : World) (xs : List Cel) (hn : n = xs.length) (hx : Row w a cap xs) (hl : xs.length ≤ 1000000) :
    Calls Try.prog 149 #[.slice a n cap] w fun e w' => ∃ v, e = .returned v ∧ w'.ownsRow w.heap.size 93 3 v xs.length (flat xs) ∧ Below w.heap.size w w' := by
  subst hn; exact clone_any a cap w xs hx hl
end Go.Proofs.Ytnpffificfghpaa
namespace Go.Proofs.Ytnpffificfghpaa
open Go.RowKit

set_option maxHeartbeats 800000 in
theorem pass_any (xs : List Cel) (a : Option Addr) (cap b1 o1 b2 o2 : Nat) (hl : xs.length ≤ 1000000) (m : Nat) : ∀ (i : Int) (w : World), (0 ≤ i → (xs.length : Int) - i ≤ m) → -9223372036854775808 ≤ i → i ≤ 9000000000000000000 →
    Row w a cap xs → w.cell? ⟨b1, o1, none⟩ = some (.slice a xs.length cap) → w.cell? ⟨b2, o2, none⟩ = some (.func (.func 225) #[] #[.pointer (some ⟨b1, o1, none⟩), .pointer (some ⟨b2, o2, none⟩)]) →
    Calls Try.prog 225 #[.int .i64 i, .pointer (some ⟨b1, o1, none⟩), .pointer (some ⟨b2, o2, none⟩)] w fun e w' => e = .returned (.int .i64 (passI xs i)) ∧ Below w.heap.size w w' := by
  induction m with
  | zero =>
    intro i w hm hlo hhi hr h1 h2
    have HE : Hid (-1 = passI xs i) := by
      unfold Hid passI; split
      · rw [endI_out (by omega)]
      · rfl
    have hc := hr.le
    have hc2 := hr.max
    by_cases hneg : i < 0
    · go_enter Try.func225, Try.ntmps225
      go_wp2_with fail
      go_ret
      exact ⟨ret_int HE.out, Below.refl _ _⟩
    · have hge : (xs.length : Int) ≤ i := by have := hm (by omega); omega
      clear hm
      go_enter Try.func225, Try.ntmps225
      go_wp2_with fail
      go_ret
      exact ⟨ret_int HE.out, Below.refl _ _⟩
  | succ m ih =>
    intro i w hm hlo hhi hr h1 h2
    have hc := hr.le
    have hc2 := hr.max
    by_cases hneg : i < 0
    · have HE : Hid (-1 = passI xs i) := by
        unfold Hid passI; rw [if_neg (by omega)]
      clear hm
      go_enter Try.func225, Try.ntmps225
      go_wp2_with fail
      go_ret
      exact ⟨ret_int HE.out, Below.refl _ _⟩
    by_cases hge : (xs.length : Int) ≤ i
    · have HE : Hid (-1 = passI xs i) := by
        unfold Hid passI; rw [if_pos (by omega), endI_out (by omega)]
      clear hm
      go_enter Try.func225, Try.ntmps225
      go_wp2_with fail
      go_ret
      exact ⟨ret_int HE.out, Below.refl _ _⟩
    obtain ⟨k, rfl⟩ := Int.eq_ofNat_of_zero_le (show 0 ≤ i by omega)
    have hk : k < xs.length := by omega
    have hmm : xs.length - k ≤ m + 1 := by have := hm (by omega); omega
    clear hm
    obtain ⟨b, off, rfl, hb, hat⟩ := hr.cases.resolve_left (fun e => by simp [e] at hk)
    obtain ⟨c0, c1, c2, hf⟩ := cel_at hat (Below.refl _ _) hk
    cases hok : cellOk xs[k] with
    | false =>
      have HE : Hid (-1 = passI xs k) := by
        unfold Hid passI; rw [if_pos (by omega), Int.toNat_natCast, endI_bad hk hok]
      have hok' := mkHid hok
      clear hok
      go_enter Try.func225, Try.ntmps225
      go_wp2_with (go_at_call 226; refine (may_any xs[k] _ hf).mono ?_; rintro e w' ⟨rfl, hb1⟩; rw [hok'.out])
      go_ret
      exact ⟨ret_int HE.out, hb1⟩
    | true =>
      have HE : Hid (afterI xs (k + 1) (ar xs[k]) = passI xs k) := by
        unfold Hid passI; rw [if_pos (by omega), Int.toNat_natCast, endI_ok hk hok]
      have har := ar_le _ hok
      have HA := mkHid (arI_ar hok)
      have hok' := mkHid hok
      clear hok
      go_enter Try.func225, Try.ntmps225
      go_wp2_with (first
        | (go_at_call 226; refine (may_any xs[k] _ hf).mono ?_; rintro e w' ⟨rfl, hb1⟩; rw [hok'.out]; have d0 := keep c0 hb1; have d1 := keep c1 hb1; have d2 := keep c2 hb1; have k1 := keep h1 hb1; have k2 := keep h2 hb1; clear c0 c1 c2 h1 h2)
        | (go_at_call 197; refine (arguments_any xs[k] _).mono ?_; rintro e w2 ⟨rfl, hb2⟩; rw [HA.out]; clear d0 d1 d2))
      have hb12 := hb1.then hb2
      have k1' := keep k1 hb2
      have k2' := keep k2 hb2
      have hr2 := hr.below hb12
      clear k1 k2
      go_loopw [5, 29] (fun x j wr => ∃ j' : Nat, j' ≤ ar xs[k] ∧ j = .int .i64 j' ∧ x = .int .i64 (afterI xs (k + 1) j') ∧ Below w2.heap.size w2 wr) (fun x j wr => ar xs[k] - (intOf j).toNat)
      case atStart => exact ⟨0, Nat.zero_le _, rfl, by rw [afterI_zero (by omega)]; rfl, Below.refl _ _⟩
      case round =>
        obtain ⟨j, hj, rfl, rfl, hbl⟩ := hrel
        have q1 := keep k1' hbl
        have q2 := keep k2' hbl
        have hr3 := hr2.below hbl
        have hrg := afterI_range (xs := xs) (i := k + 1) (j := j) (by omega)
        have HS := mkHid (afterI_succ (xs := xs) (i := k + 1) (j := j) (by omega))
        by_cases hlt : j < ar xs[k]
        · go_wp2_with (go_at_call 225; refine (ih (afterI xs (k + 1) j) _ (by omega) (by omega) (by omega) hr3 q1 q2).mono ?_; rintro e w3 ⟨rfl, hb3⟩; rw [HS.out])
          go_round
          case rel => exact ⟨j + 1, by omega, by go_num, rfl, hbl.then hb3⟩
          case measure => simp [intOf]; omega
        · obtain rfl : j = ar xs[k] := by omega
          go_wp2
          go_ret
          exact ⟨ret_int HE.out, (hb12.then hbl)⟩

set_option maxHeartbeats 400000 in
theorem behind_any (a : Option Addr) (cap : Nat) (i : Int) (w : World) (xs : List Cel) (hr : Row w a cap xs) (hl : xs.length ≤ 1000000) (h1 : -9223372036854775808 ≤ i) (h2 : i ≤ 9000000000000000000) :
    Calls Try.prog 181 #[.slice a xs.length cap, .int .i64 i] w fun e w' => e = .returned (.int .i64 (passI xs i)) ∧ Below w.heap.size w w' := by
  have hmf : ∀ (fn : Fn) (first cap : Array Value) (w : World), (Instr.makeFunc fn first cap).run Try.prog w = .ok (.func fn first cap) w := fun _ _ _ _ => rfl
  have hc := hr.le
  have hc2 := hr.max
  go_enter Try.func181, Try.ntmps181
  go_wp2_with fail
  refine (pass_any xs a cap w.heap.size 0 (w.heap.size + 1) 0 hl xs.length i _ (by omega) h1 h2 ?_ ?_ ?_).mono ?_
  · exact hr.below (((Below.refl _ _).new _).new _)
  · go_simp
  · go_simp
  rintro e w' ⟨rfl, hb1⟩
  go_wp2
  go_ret
  exact ⟨rfl, (((Below.refl _ _).new _).new _).then hb1⟩

theorem passI_zero (xs : List Cel) : passI xs 0 = endI xs 0 := rfl

set_option maxHeartbeats 400000 in
theorem right_any (a : Option Addr) (cap : Nat) (w : World) (xs : List Cel) (hr : Row w a cap xs) :
    Calls Try.prog 107 #[.slice a xs.length cap] w fun e w' => e = .returned (.bool (rightB xs)) ∧ Below w.heap.size w w' := by
  go_enter Try.func107, Try.ntmps107
  go_wp2_with (go_at_call 181; refine (behind_any a cap 0 _ xs hr (by omega) (by omega) (by omega)).mono ?_; rintro e w' ⟨rfl, hb1⟩; rw [passI_zero])
  · go_ret
    exact ⟨ret_bool (rightB_le (by assumption)), hb1⟩
  · go_ret
    exact ⟨ret_bool (rightB_gt (by assumption)), Below.refl _ _⟩
end Go.Proofs.Ytnpffificfghpaa
namespace Go.Proofs.Ytnpffificfghpaa
open Go.RowKit
theorem Try.infoInt : (Try.prog.info? 3).map (fun i => (i.zero, i.size, i.bytes)) = some (some (.int .i64 0), 1, 8) := by kernel_rfl
theorem out_fit {acc : List Int} {n : Int} (h : ∀ m ∈ acc, -9223372036854775808 ≤ m ∧ m ≤ 9223372036854775807) (h1 : -9223372036854775808 ≤ n) (h2 : n ≤ 9223372036854775807) : ∀ m ∈ acc ++ [n], -9223372036854775808 ≤ m ∧ m ≤ 9223372036854775807 := by
  intro m hm
  rcases List.mem_append.1 hm with h' | h'
  · exact h m h'
  · simp at h'; subst h'; exact ⟨h1, h2⟩

theorem own_below {w w' : World} {B e size : Nat} {v : Value} {n : Nat} {xs : List Value} (h : w.ownsRow B e size v n xs) (hb : Below w.heap.size w w') : w'.ownsRow B e size v n xs :=
  h.kept (row := none) ⟨hb.os, hb.tape, hb.output, hb.size, fun k hk _ => hb.block k hk⟩ (by cases hv : v.ownBlock <;> simp)

set_option maxHeartbeats 800000 in
theorem refvars_any (a : Option Addr) (cap : Nat) (w : World) (xs : List Cel) (hr : Row w a cap xs) (hl : xs.length ≤ 1000000) :
    Calls Try.prog 170 #[.slice a xs.length cap] w fun e w' => ∃ a' cap', e = .returned (.slice a' (varsL xs).length cap') ∧ Row w' a' cap' (varsL xs) ∧ Below w.heap.size w w' := by
  have hc := hr.le
  have hc2 := hr.max
  have hm0 := World.ownsRow_made (base := w.heap.size) (e := 3) (size := 1) w #[] 0 (Nat.le_refl _) (by unfold maxLen; omega) rfl
  have hb0 := (Below.refl w.heap.size w).new (.cells #[] 3)
  go_enter Try.func170, Try.ntmps170
  go_wp2_with fail
  go_loopw [3, 4] (fun v i wr => ∃ (k : Nat) (acc : List Int), k ≤ xs.length ∧ acc.length ≤ k ∧ i = .int .i64 k ∧ wr.ownsRow w.heap.size 3 1 v acc.length (acc.map (Value.int .i64)) ∧ Below w.heap.size w wr ∧ (∀ n ∈ acc, -9223372036854775808 ≤ n ∧ n ≤ 9223372036854775807) ∧ Hid (varsL xs = varsGo acc (xs.drop k))) (fun v i wr => xs.length - (intOf i).toNat)
  case atStart => exact ⟨0, [], Nat.zero_le _, Nat.zero_le _, rfl, hm0, hb0, by simp, rfl⟩
  case round =>
    obtain ⟨k, acc, hk, hak, rfl, hown, hbl, haf, HS⟩ := hrel
    obtain ⟨a', cap', rfl, hrow⟩ := own_rowI hown haf
    have HA := mkHid haf
    by_cases hlt : k < xs.length
    · obtain ⟨b, off, rfl, hb, hat⟩ := hr.cases.resolve_left (fun e => by simp [e] at hlt)
      obtain ⟨c0, c1, c2, hf⟩ := cel_at hat hbl hlt
      have hst := varsGo_step acc xs k hlt
      by_cases h1 : xs[k].k = 1
      · have t1 : (xs[k].k == 1) = true := by simp [h1]
        by_cases h2 : xs[k].n ∈ acc
        · have HT : Hid (varsL xs = varsGo acc (xs.drop (k + 1))) := by rw [Hid, HS.out, hst, if_neg (by simp [h2])]
          have hd := mkHid (decide_eq_true h2)
          clear h1 h2 HS hst haf
          go_wp2_with (go_at_call 103; refine (refin_any a' cap' xs[k].n _ acc hrow).mono ?_; rintro e w' ⟨rfl, hb1⟩; rw [hd.out])
          go_round
          case rel => exact ⟨k + 1, acc, by omega, by omega, by go_num, own_below hown hb1, hbl.then hb1, HA.out, HT⟩
          case measure => simp [intOf]; omega
        · have HT : Hid (varsL xs = varsGo (acc ++ [xs[k].n]) (xs.drop (k + 1))) := by rw [Hid, HS.out, hst, if_pos ⟨h1, h2⟩]
          have hd := mkHid (decide_eq_false h2)
          clear h1 h2 HS hst haf
          go_wp2_with (first
            | (go_at_call 103; refine (refin_any a' cap' xs[k].n _ acc hrow).mono ?_; rintro e w' ⟨rfl, hb1⟩; rw [hd.out]; have d0 := keep c0 hb1; have d2 := keep c2 hb1; have hown1 := own_below hown hb1; have hbl1 := hbl.then hb1; clear c0 c1 c2)
            | (at_builtin; refine wpList_app rfl _ _ 65 rfl w.heap.size 3 1 8 _ Try.underlying65 Try.infoInt rfl (by decide) (by decide) _ acc.length _ rfl (hown1.alloc _) (some ⟨_, 0, none⟩) 1 1 [.int .i64 xs[k].n] rfl (src_new _ #[.int .i64 xs[k].n] _ 1 rfl (by simp [Value.oneCell'])) (by omega) (Nat.le_trans hbl1.size (by simp)) ?_; intro v' w2 hown2 _ hb2))
          go_round
          case rel => exact ⟨k + 1, acc ++ [xs[k].n], by omega, by simp; omega, by go_num, by simpa using hown2, (hbl1.new _).trans hb2, out_fit HA.out hf.n1 hf.n2, HT⟩
          case measure => simp [intOf]; omega
      · have t1 : (xs[k].k == 1) = false := by simp [h1]
        have HT : Hid (varsL xs = varsGo acc (xs.drop (k + 1))) := by rw [Hid, HS.out, hst, if_neg (fun h => h1 h.1)]
        clear h1 HS hst haf
        go_wp2
        go_round
        case rel => exact ⟨k + 1, acc, by omega, by omega, by go_num, hown, hbl, HA.out, HT⟩
        case measure => simp [intOf]; omega
    · have HT : Hid (varsL xs = acc) := by rw [Hid, HS.out, List.drop_eq_nil_of_le (by omega)]; rfl
      clear HS haf
      go_wp2
      go_ret
      exact ⟨a', cap', by rw [HT.out]; rfl, by rw [HT.out]; exact hrow, hbl⟩
end Go.Proofs.Ytnpffificfghpaa
namespace Go.Proofs.Ytnpffificfghpaa
open Go.RowKit

/-- block b of w is a map from int to bool of at most n entries; what is not there is the zero value -/
def MapIB (P : Program) (k e : TypeId) (w : World) (b n : Nat) (f : Int → Bool) : Prop :=
  ∃ D : DataW Unit, w.ownsMap P k (plainElem P e) b n D ∧ ∀ i, (Lit.int .i64 i).wf = true → D.atKey (.int .i64 i) (.lit (.bool false)) = .lit (.bool (f i))
theorem MapIB.made (P : Program) (k e : TypeId) (w : World) : MapIB P k e (w.alloc (.map #[] 0)) w.heap.size 0 (fun _ => false) :=
  ⟨.map [], World.ownsMap_made w P k _, fun _ _ => rfl⟩
section
variable {P : Program} {k e t : TypeId} {w w' : World} {b n : Nat} {f : Int → Bool}
theorem MapIB.lt (h : MapIB P k e w b n f) : b < w.heap.size := let ⟨_, h, _⟩ := h; h.lt
theorem MapIB.kept {row : Option Nat} (h : MapIB P k e w b n f) (hg : w.grownBy w' row) (hne : some b ≠ row) : MapIB P k e w' b n f :=
  let ⟨D, h, hf⟩ := h; ⟨D, h.kept hg hne, hf⟩
theorem MapIB.below (h : MapIB P k e w b n f) (hb : Below w.heap.size w w') : MapIB P k e w' b n f :=
  h.kept (row := none) ⟨hb.os, hb.tape, hb.output, hb.size, fun k hk _ => hb.block k hk⟩ (by simp)
theorem MapIB.alloc (h : MapIB P k e w b n f) (o : Obj) : MapIB P k e (w.alloc o) b n f := let ⟨D, h, hf⟩ := h; ⟨D, h.alloc o, hf⟩
theorem MapIB.mono (h : MapIB P k e w b n f) : MapIB P k e w b (n + 1) f := let ⟨D, h, hf⟩ := h; ⟨D, h.mono (Nat.le_succ _), hf⟩
theorem MapIB.run_lookup (h : MapIB P k e w b n f) (hk : P.underlying k = some (.int .i64)) (ht : P.underlying t = some (.map k e)) (he : P.underlying e = some (.bool)) (hz : (zeroValue e).run P w = .ok (.bool false) w)
    {i : Int} (hi : (Lit.int .i64 i).wf = true) : (Instr.lookup t (.map (some b)) (.int .i64 i) false).run P w = .ok (.bool (f i)) w := by
  obtain ⟨D, h, hf⟩ := h
  obtain ⟨v, ps, hrun, hv⟩ := h.lookup (Go.Maps.int_keyed hk) ht hz (z := .bool false) (zd := .lit (.bool false)) (zp := []) (plainElem_bool he false) (Go.Maps.keyOf_int_mk hk hi)
  rw [hf i hi] at hv
  rw [hrun]
  unfold plainElem at hv
  rw [he] at hv
  cases v <;> simp at hv
  rw [hv.1]
theorem MapIB.wp_lookup {o : Oper} {a : Act} {Q : Exit → Act → World → Prop}
    (m x : Operand) (hop : o.op = Op.lookup t m x false)
    (hk : P.underlying k = some (.int .i64)) (ht : P.underlying t = some (.map k e)) (he : P.underlying e = some (.bool)) (hz : (zeroValue e).run P w = .ok (.bool false) w)
    (hm : a.eval m = .map (some b)) (h : MapIB P k e w b n f) (i : Int) (hx : a.eval x = .int .i64 i) (hi : (Lit.int .i64 i).wf = true) {K : Act → World → Prop}
    (hK : K (a.put o.dst (.bool (f i))) w) :
    o.wp P a w K Q := by
  unfold Oper.wp
  simp [execOp, hop, hm, hx, h.run_lookup hk ht he hz hi, Result.andThen]
  exact hK
theorem MapIB.wpl_lookup {ops : Array Oper} {rest : List Oper} {o : Oper} {a : Act} {Q : Exit → Act → World → Prop}
    (hg : o.guard = none) (m x : Operand) (hop : o.op = Op.lookup t m x false)
    (hk : P.underlying k = some (.int .i64)) (ht : P.underlying t = some (.map k e)) (he : P.underlying e = some (.bool)) (hz : (zeroValue e).run P w = .ok (.bool false) w)
    (hm : a.eval m = .map (some b)) (h : MapIB P k e w b n f) (i : Int) (hx : a.eval x = .int .i64 i) (hi : (Lit.int .i64 i).wf = true)
    (hK : wpList P ops Q rest (a.put o.dst (.bool (f i))) w) :
    wpList P ops Q (o :: rest) a w := by
  refine wpList_plain hg fun K' hK' => ?_
  unfold Oper.wp
  simp [execOp, hop, hm, hx, h.run_lookup hk ht he hz hi, Result.andThen]
  exact hK' _ _ hK
theorem MapIB.put_at {D : DataW Unit} (hD : Go.Maps.IsMap D) (hf : ∀ i, (Lit.int .i64 i).wf = true → D.atKey (.int .i64 i) (.lit (.bool false)) = .lit (.bool (f i))) (i : Int) (x : Bool) :
    ∀ j, (Lit.int .i64 j).wf = true → (D.put (.int .i64 i) (.lit (.bool x))).atKey (.int .i64 j) (.lit (.bool false)) = .lit (.bool (if j = i then x else f j)) := by
  intro j hj
  by_cases e : j = i
  · subst e; rw [if_pos rfl]; exact Go.Maps.atKey_put_same hD (by simp [WideAt.IsKeyLit]) _ _
  · rw [if_neg e, ← hf j hj]; exact Go.Maps.atKey_put_other (by simp; exact e) _ _
theorem MapIB.wpl_update {ops : Array Oper} {rest : List Oper} {o : Oper} {a : Act} {Q : Exit → Act → World → Prop}
    (hg : o.guard = none) (m x y : Operand) (hop : o.op = Op.mapUpdate t m x y)
    (hk : P.underlying k = some (.int .i64)) (ht : P.underlying t = some (.map k e)) (he : P.underlying e = some (.bool))
    (hm : a.eval m = .map (some b)) (h : MapIB P k e w b n f) (hn : n < 9223372036854775807) (i : Int) (hx : a.eval x = .int .i64 i) (hi : (Lit.int .i64 i).wf = true) (z : Bool) (hy : a.eval y = .bool z)
    (hK : ∀ w', MapIB P k e w' b (n + 1) (fun j => if j = i then z else f j) → w.grownBy w' (some b) → wpList P ops Q rest (a.put o.dst undef) w') :
    wpList P ops Q (o :: rest) a w := by
  obtain ⟨D, h, hf⟩ := h
  refine wpList_mapUpdate_own w hg m x y t hop k e (Go.Maps.int_keyed hk) ht _ b n D hm h (by unfold maxLen; omega) _ _ _ hx hy (Go.Maps.keyOf_int_mk hk hi) (.lit (.bool z)) [] (plainElem_bool he z) ?_
  intro w' h' hg'
  exact hK w' ⟨_, h', MapIB.put_at h.isMap hf i z⟩ hg'
end

/-- block b of w is a map from int to int of at most n entries; what is not there is the zero value -/
def MapII (P : Program) (k e : TypeId) (w : World) (b n : Nat) (f : Int → Int) : Prop :=
  ∃ D : DataW Unit, w.ownsMap P k (plainElem P e) b n D ∧ ∀ i, (Lit.int .i64 i).wf = true → D.atKey (.int .i64 i) (.lit (.int .i64 0)) = .lit (.int .i64 (f i))
theorem MapII.made (P : Program) (k e : TypeId) (w : World) : MapII P k e (w.alloc (.map #[] 0)) w.heap.size 0 (fun _ => 0) :=
  ⟨.map [], World.ownsMap_made w P k _, fun _ _ => rfl⟩
section
variable {P : Program} {k e t : TypeId} {w w' : World} {b n : Nat} {f : Int → Int}
theorem MapII.lt (h : MapII P k e w b n f) : b < w.heap.size := let ⟨_, h, _⟩ := h; h.lt
theorem MapII.kept {row : Option Nat} (h : MapII P k e w b n f) (hg : w.grownBy w' row) (hne : some b ≠ row) : MapII P k e w' b n f :=
  let ⟨D, h, hf⟩ := h; ⟨D, h.kept hg hne, hf⟩
theorem MapII.below (h : MapII P k e w b n f) (hb : Below w.heap.size w w') : MapII P k e w' b n f :=
  h.kept (row := none) ⟨hb.os, hb.tape, hb.output, hb.size, fun k hk _ => hb.block k hk⟩ (by simp)
theorem MapII.alloc (h : MapII P k e w b n f) (o : Obj) : MapII P k e (w.alloc o) b n f := let ⟨D, h, hf⟩ := h; ⟨D, h.alloc o, hf⟩
theorem MapII.mono (h : MapII P k e w b n f) : MapII P k e w b (n + 1) f := let ⟨D, h, hf⟩ := h; ⟨D, h.mono (Nat.le_succ _), hf⟩
theorem MapII.run_lookup (h : MapII P k e w b n f) (hk : P.underlying k = some (.int .i64)) (ht : P.underlying t = some (.map k e)) (he : P.underlying e = some (.int .i64)) (hz : (zeroValue e).run P w = .ok (.int .i64 0) w)
    {i : Int} (hi : (Lit.int .i64 i).wf = true) : (Instr.lookup t (.map (some b)) (.int .i64 i) false).run P w = .ok (.int .i64 (f i)) w := by
  obtain ⟨D, h, hf⟩ := h
  obtain ⟨v, ps, hrun, hv⟩ := h.lookup (Go.Maps.int_keyed hk) ht hz (z := .int .i64 0) (zd := .lit (.int .i64 0)) (zp := []) (plainElem_int he rfl) (Go.Maps.keyOf_int_mk hk hi)
  rw [hf i hi] at hv
  rw [hrun]
  obtain ⟨c, rfl, hc, _⟩ := plainElem_int_inv he hv
  simp at hc
  rw [hc.1]
theorem MapII.wp_lookup {o : Oper} {a : Act} {Q : Exit → Act → World → Prop}
    (m x : Operand) (hop : o.op = Op.lookup t m x false)
    (hk : P.underlying k = some (.int .i64)) (ht : P.underlying t = some (.map k e)) (he : P.underlying e = some (.int .i64)) (hz : (zeroValue e).run P w = .ok (.int .i64 0) w)
    (hm : a.eval m = .map (some b)) (h : MapII P k e w b n f) (i : Int) (hx : a.eval x = .int .i64 i) (hi : (Lit.int .i64 i).wf = true) {K : Act → World → Prop}
    (hK : K (a.put o.dst (.int .i64 (f i))) w) :
    o.wp P a w K Q := by
  unfold Oper.wp
  simp [execOp, hop, hm, hx, h.run_lookup hk ht he hz hi, Result.andThen]
  exact hK
theorem MapII.wpl_lookup {ops : Array Oper} {rest : List Oper} {o : Oper} {a : Act} {Q : Exit → Act → World → Prop}
    (hg : o.guard = none) (m x : Operand) (hop : o.op = Op.lookup t m x false)
    (hk : P.underlying k = some (.int .i64)) (ht : P.underlying t = some (.map k e)) (he : P.underlying e = some (.int .i64)) (hz : (zeroValue e).run P w = .ok (.int .i64 0) w)
    (hm : a.eval m = .map (some b)) (h : MapII P k e w b n f) (i : Int) (hx : a.eval x = .int .i64 i) (hi : (Lit.int .i64 i).wf = true)
    (hK : wpList P ops Q rest (a.put o.dst (.int .i64 (f i))) w) :
    wpList P ops Q (o :: rest) a w := by
  refine wpList_plain hg fun K' hK' => ?_
  unfold Oper.wp
  simp [execOp, hop, hm, hx, h.run_lookup hk ht he hz hi, Result.andThen]
  exact hK' _ _ hK
theorem MapII.put_at {D : DataW Unit} (hD : Go.Maps.IsMap D) (hf : ∀ i, (Lit.int .i64 i).wf = true → D.atKey (.int .i64 i) (.lit (.int .i64 0)) = .lit (.int .i64 (f i))) (i : Int) (x : Int) :
    ∀ j, (Lit.int .i64 j).wf = true → (D.put (.int .i64 i) (.lit (.int .i64 x))).atKey (.int .i64 j) (.lit (.int .i64 0)) = .lit (.int .i64 (if j = i then x else f j)) := by
  intro j hj
  by_cases e : j = i
  · subst e; rw [if_pos rfl]; exact Go.Maps.atKey_put_same hD (by simp [WideAt.IsKeyLit]) _ _
  · rw [if_neg e, ← hf j hj]; exact Go.Maps.atKey_put_other (by simp; exact e) _ _
theorem MapII.wpl_update {ops : Array Oper} {rest : List Oper} {o : Oper} {a : Act} {Q : Exit → Act → World → Prop}
    (hg : o.guard = none) (m x y : Operand) (hop : o.op = Op.mapUpdate t m x y)
    (hk : P.underlying k = some (.int .i64)) (ht : P.underlying t = some (.map k e)) (he : P.underlying e = some (.int .i64))
    (hm : a.eval m = .map (some b)) (h : MapII P k e w b n f) (hn : n < 9223372036854775807) (i : Int) (hx : a.eval x = .int .i64 i) (hi : (Lit.int .i64 i).wf = true) (z : Int) (hy : a.eval y = .int .i64 z) (hz : (Lit.int .i64 z).wf = true)
    (hK : ∀ w', MapII P k e w' b (n + 1) (fun j => if j = i then z else f j) → w.grownBy w' (some b) → wpList P ops Q rest (a.put o.dst undef) w') :
    wpList P ops Q (o :: rest) a w := by
  obtain ⟨D, h, hf⟩ := h
  refine wpList_mapUpdate_own w hg m x y t hop k e (Go.Maps.int_keyed hk) ht _ b n D hm h (by unfold maxLen; omega) _ _ _ hx hy (Go.Maps.keyOf_int_mk hk hi) (.lit (.int .i64 z)) [] (plainElem_int he hz) ?_
  intro w' h' hg'
  exact hK w' ⟨_, h', MapII.put_at h.isMap hf i z⟩ hg'
end
end Go.Proofs.Ytnpffificfghpaa
namespace Go.Proofs.Ytnpffificfghpaa
open Go.RowKit
theorem Try.zeroBool (w : World) : (zeroValue 4).run Try.prog w = .ok (.bool false) w := by kernel_rfl
theorem wf64 {n : Int} (h1 : -9223372036854775808 ≤ n) (h2 : n ≤ 9223372036854775807) : (Lit.int .i64 n).wf = true := WalkArith.wf_i64 ⟨h1, h2⟩

theorem own_ne {w : World} {B e size : Nat} {v : Value} {n : Nat} {xs : List Value} (h : w.ownsRow (B + 1) e size v n xs) : some B ≠ v.ownBlock := by
  intro hv
  have := h.lt B hv.symm
  omega
theorem own_map {w w' : World} {B e size : Nat} {v : Value} {n : Nat} {xs : List Value} (h : w.ownsRow (B + 1) e size v n xs) (hg : w.grownBy w' (some B)) : w'.ownsRow (B + 1) e size v n xs :=
  h.kept hg (.inr (fun e => own_ne h e.symm))
theorem grown_at {w w' : World} {g B : Nat} (hg : w.grownBy w' (some g)) (hB : B ≤ w.heap.size) (h : B ≤ g) : Below B w w' :=
  (Below.refl B w).grown hg hB (fun k hk => by simp at hk; omega)

set_option maxHeartbeats 800000 in
theorem vars_own (a : Option Addr) (cap : Nat) (w : World) (xs : List Cel) (hr : Row w a cap xs) (hl : xs.length ≤ 1000000) :
    Calls Try.prog 182 #[.slice a xs.length cap] w fun e w' => ∃ a' cap', e = .returned (.slice a' (varsL xs).length cap') ∧ w'.ownsRow (w.heap.size + 1) 3 1 (.slice a' (varsL xs).length cap') (varsL xs).length ((varsL xs).map (Value.int .i64)) ∧ Row w' a' cap' (varsL xs) ∧ Below w.heap.size w w' := by
  have hc := hr.le
  have hc2 := hr.max
  have hmm := @run_makeMap Try.prog
  have hm0 := MapIB.made Try.prog 3 4 w
  have hb0 := (Below.refl w.heap.size w).new (.map #[] 0)
  go_enter Try.func182, Try.ntmps182
  go_wp2_with fail
  go_loopw [3, 10] (fun v i wr => ∃ (k : Nat) (acc : List Int) (f : Int → Bool), k ≤ xs.length ∧ acc.length ≤ k ∧ i = .int .i64 k ∧ wr.ownsRow (w.heap.size + 1) 3 1 v acc.length (acc.map (Value.int .i64)) ∧ Below w.heap.size w wr ∧ MapIB Try.prog 3 4 wr w.heap.size k f ∧ Hid (∀ n, f n = decide (n ∈ acc)) ∧ Hid (∀ n ∈ acc, -9223372036854775808 ≤ n ∧ n ≤ 9223372036854775807) ∧ Hid (varsL xs = varsGo acc (xs.drop k))) (fun v i wr => xs.length - (intOf i).toNat)
  case atStart => exact ⟨0, [], _, Nat.zero_le _, Nat.zero_le _, rfl, World.ownsRow_nil _ _ _ _, hb0, hm0, by simp [Hid], by simp [Hid], rfl⟩
  case round =>
    obtain ⟨k, acc, f, hk, hak, rfl, hown, hbl, hmap, HF, HA, HS⟩ := hrel
    by_cases hlt : k < xs.length
    · obtain ⟨b, off, rfl, hb, hat⟩ := hr.cases.resolve_left (fun e => by simp [e] at hlt)
      obtain ⟨c0, c1, c2, hf⟩ := cel_at hat hbl hlt
      have hst := varsGo_step acc xs k hlt
      by_cases h1 : xs[k].k = 1
      · have t1 : (xs[k].k == 1) = true := by simp [h1]
        have hlk : ∀ o, (Instr.lookup 198 (.map (some w.heap.size)) (.int .i64 xs[k].n) false).run Try.prog (wr.alloc o) = .ok (.bool (decide (xs[k].n ∈ acc))) (wr.alloc o) := fun o => by
          rw [← HF.out]
          exact (hmap.alloc o).run_lookup Try.underlying3 Try.underlying198 Try.underlying4 (Try.zeroBool _) (wf64 hf.n1 hf.n2)
        by_cases h2 : xs[k].n ∈ acc
        · have HT : Hid (varsL xs = varsGo acc (xs.drop (k + 1))) := by rw [Hid, HS.out, hst, if_neg (by simp [h2])]
          rw [decide_eq_true h2] at hlk
          clear h1 h2 HS hst
          go_wp2
          go_round
          case rel => exact ⟨k + 1, acc, f, by omega, by omega, by go_num, hown.alloc _, hbl.new _, (hmap.alloc _).mono, HF, HA, HT⟩
          case measure => simp [intOf]; omega
        · have HT : Hid (varsL xs = varsGo (acc ++ [xs[k].n]) (xs.drop (k + 1))) := by rw [Hid, HS.out, hst, if_pos ⟨h1, h2⟩]
          have HF' : Hid (∀ n, (if n = xs[k].n then true else f n) = decide (n ∈ acc ++ [xs[k].n])) := by
            intro n
            by_cases e : n = xs[k].n
            · simp [e]
            · rw [if_neg e, HF.out]; simp [e]
          rw [decide_eq_false h2] at hlk
          clear h1 h2 HS hst
          go_wp2_with (first
            | (at_mapUpdate; refine (hmap.alloc _).wpl_update rfl _ _ _ rfl Try.underlying3 Try.underlying198 Try.underlying4 rfl (by omega) xs[k].n rfl (wf64 hf.n1 hf.n2) true rfl ?_; intro w1 hmap1 hg1; have q2 : w1.cell? ⟨wr.heap.size, 2, none⟩ = some (.int .i64 xs[k].n) := hg1.cell (by go_simp) (by have := hbl.size; have := hmap.lt; simp; omega); have hown1 := own_map (hown.alloc (.cells #[.int .i64 xs[k].k, .string xs[k].s, .int .i64 xs[k].n] 93)) hg1; have hbl1 := (hbl.new _).trans (grown_at hg1 (Nat.le_trans hbl.size (by simp)) (Nat.le_refl _)))
            | (at_builtin; refine wpList_app rfl _ _ 65 rfl (w.heap.size + 1) 3 1 8 _ Try.underlying65 Try.infoInt rfl (by decide) (by decide) _ acc.length _ rfl (hown1.alloc _) (some ⟨_, 0, none⟩) 1 1 [.int .i64 xs[k].n] rfl (src_new _ #[.int .i64 xs[k].n] _ 1 rfl (by simp [Value.oneCell'])) (by omega) (by have := hmap1.lt; simp; omega) ?_; intro v' w2 hown2 hg2 hb2))
          go_round
          case rel => exact ⟨k + 1, acc ++ [xs[k].n], _, by omega, by simp; omega, by go_num, by simpa using hown2, (hbl1.new _).trans (hb2.mono (by omega)), (hmap1.alloc _).kept hg2 (own_ne hown1), HF', out_fit HA.out hf.n1 hf.n2, HT⟩
          case measure => simp [intOf]; omega
      · have t1 : (xs[k].k == 1) = false := by simp [h1]
        have HT : Hid (varsL xs = varsGo acc (xs.drop (k + 1))) := by rw [Hid, HS.out, hst, if_neg (fun h => h1 h.1)]
        clear h1 HS hst
        go_wp2
        go_round
        case rel => exact ⟨k + 1, acc, f, by omega, by omega, by go_num, hown.alloc _, hbl.new _, (hmap.alloc _).mono, HF, HA, HT⟩
        case measure => simp [intOf]; omega
    · have HT : Hid (varsL xs = acc) := by rw [Hid, HS.out, List.drop_eq_nil_of_le (by omega)]; rfl
      obtain ⟨a', cap', rfl, hrow⟩ := own_rowI hown HA.out
      clear HS
      go_wp2
      go_ret
      exact ⟨a', cap', by rw [HT.out]; rfl, by rw [HT.out]; exact hown, by rw [HT.out]; exact hrow, hbl⟩
theorem vars_any (a : Option Addr) (cap : Nat) (w : World) (xs : List Cel) (hr : Row w a cap xs) (hl : xs.length ≤ 1000000) :
    Calls Try.prog 182 #[.slice a xs.length cap] w fun e w' => ∃ a' cap', e = .returned (.slice a' (varsL xs).length cap') ∧ Row w' a' cap' (varsL xs) ∧ Below w.heap.size w w' :=
  (vars_own a cap w xs hr hl).mono fun _ _ ⟨a', cap', he, _, hr', hb⟩ => ⟨a', cap', he, hr', hb⟩
end Go.Proofs.Ytnpffificfghpaa
namespace Go.Proofs.Ytnpffificfghpaa
open Go.RowKit

/-- A world that comes later: what was there is as it was. -/
structure Later (w : World) where
  w' : World
  ok : Below w.heap.size w w'
instance (w : World) : Nonempty (Later w) := ⟨⟨w, Below.refl _ _⟩⟩

/-- A region that draws its order, whose operations read, and whose callees leave what was there as it was, each with one value: one walk serves every order. -/
theorem wp_region_calm {P : Program} {id : Nat} {Q : Exit → Act → World → Prop} {a : Act} {w : World} {l : List Oper} (hm : P.follows .mixedOrders = true) (hB : Region.lexB .any l.toArray = true)
    (h : wpQuiet P l.toArray (fun w' => ∃ x : Later w, w' = x.w') (fun a' => ∀ w', (∃ x : Later w, w' = x.w') → Q .normal a' w') l a) : (Code.region id l.toArray true).wp P Q a w :=
  wp_region_quiet (C := fun w' => ∃ x : Later w, w' = x.w') hm hB ⟨⟨{ w with drawn := w.drawn + 1 }, ⟨rfl, rfl, rfl, Nat.le_refl _, fun _ _ => rfl⟩⟩, rfl⟩ (by simpa using h)

theorem Calls.calm_of {P : Program} {f : FuncId} {args : Array Value} {w : World} {x : Later w} {v : Value}
    (h : Calls P f args x.w' fun e w'' => e = .returned v ∧ Below x.w'.heap.size x.w' w'') : Calls P f args x.w' fun e w'' => e = .returned v ∧ ∃ y : Later w, w'' = y.w' :=
  h.mono fun _ w'' ⟨he, hb⟩ => ⟨he, ⟨w'', x.ok.then hb⟩, rfl⟩
theorem keepL {w : World} {b o : Nat} {v : Value} (h : w.cell? ⟨b, o, none⟩ = some v) (x : Later w) : x.w'.cell? ⟨b, o, none⟩ = some v := keep h x.ok
end Go.Proofs.Ytnpffificfghpaa
namespace Go.Proofs.Ytnpffificfghpaa
open Go.RowKit

set_option maxHeartbeats 400000 in
theorem isnanI_any (a : Int) (w : World) :
    Calls Try.prog 232 #[.int .i64 a] w fun e w' => e = .returned (.bool false) ∧ w = w' := by
  go_enter Try.func232, Try.ntmps232
  go_wp2
  go_ret
  exact ⟨rfl, rfl⟩
set_option maxHeartbeats 400000 in
theorem isnanS_any (s : ByteArray) (w : World) :
    Calls Try.prog 244 #[.string s] w fun e w' => e = .returned (.bool false) ∧ w = w' := by
  go_enter Try.func244, Try.ntmps244
  go_wp2
  go_ret
  exact ⟨rfl, rfl⟩
def cmpI (a b : Int) : Int := if a < b then -1 else if b < a then 1 else 0
set_option maxHeartbeats 400000 in
theorem cmpI_any (a b : Int) (w : World) :
    Calls Try.prog 199 #[.int .i64 a, .int .i64 b] w fun e w' => e = .returned (.int .i64 (cmpI a b)) ∧ w = w' := by
  go_enter Try.func199, Try.ntmps199
  go_wp2_with (go_at_call 232; refine (isnanI_any _ _).mono ?_; rintro e w' ⟨rfl, rfl⟩)
  all_goals
    go_ret
    refine ⟨ret_int ?_, rfl⟩
    unfold cmpI
    split <;> (try split) <;> omega
theorem bytesLess_irrefl (l : List UInt8) : Op.bytesLess l l = false := by
  induction l with
  | nil => rfl
  | cons a l ih => simp [Op.bytesLess, ih]
def cmpS (s t : ByteArray) : Int := if Op.bytesLess s.toList t.toList then -1 else if s = t then 0 else 1
def cellCmp (x y : Cel) : Int := if x.k = y.k then (if x.n = y.n then cmpS x.s y.s else cmpI x.n y.n) else cmpI x.k y.k
set_option maxHeartbeats 400000 in
theorem cmpS_any (s t : ByteArray) (w : World) :
    Calls Try.prog 231 #[.string s, .string t] w fun e w' => e = .returned (.int .i64 (cmpS s t)) ∧ w = w' := by
  go_enter Try.func231, Try.ntmps231
  go_wp2_with (go_at_call 244; refine (isnanS_any _ _).mono ?_; rintro e w' ⟨rfl, rfl⟩)
  · go_ret
    refine ⟨ret_int ?_, rfl⟩
    unfold cmpS; rw [if_pos (by assumption)]
  · have h1 : Op.bytesLess s.toList t.toList = false := by assumption
    have h2 : (!s.toList == t.toList) = true := by assumption
    go_ret
    refine ⟨ret_int ?_, rfl⟩
    simp [toList_inj] at h2
    simp [cmpS, h1, h2]
  · have h2 : (!s.toList == t.toList) = false := by assumption
    go_ret
    refine ⟨ret_int ?_, rfl⟩
    simp [toList_inj] at h2
    simp [cmpS, h2, bytesLess_irrefl]

set_option maxHeartbeats 400000 in
theorem order_any (x y : Cel) (w : World) :
    Calls Try.prog 198 #[x.v, y.v] w fun e w' => e = .returned (.int .i64 (cellCmp x y)) ∧ Below w.heap.size w w' := by
  obtain ⟨k, s, n⟩ := x
  obtain ⟨k', s', n'⟩ := y
  have hb := ((Below.refl w.heap.size w).new (.cells #[.int .i64 k, .string s, .int .i64 n] 93)).new (.cells #[.int .i64 k', .string s', .int .i64 n'] 93)
  dsimp only [Cel.v] at *
  go_enter Try.func198, Try.ntmps198
  go_wp2_with (first
    | (go_at_call 199; refine (cmpI_any _ _ _).mono ?_; rintro e w' ⟨rfl, rfl⟩)
    | (go_at_call 231; refine (cmpS_any _ _ _).mono ?_; rintro e w' ⟨rfl, rfl⟩))
  all_goals
    go_ret
    refine ⟨ret_int ?_, hb⟩
    simp_all [cellCmp]

def compP : List Cel → List Cel → Int
  | [], [] => 0
  | [], _ :: _ => -1
  | _ :: _, [] => 1
  | x :: xs, y :: ys => if x = y then compP xs ys else cellCmp x y
theorem compP_step {xs ys : List Cel} {k : Nat} (hx : k < xs.length) (hy : k < ys.length) : compP (xs.drop k) (ys.drop k) = if xs[k] = ys[k] then compP (xs.drop (k + 1)) (ys.drop (k + 1)) else cellCmp xs[k] ys[k] := by
  rw [List.drop_eq_getElem_cons hx, List.drop_eq_getElem_cons hy]; rfl
theorem compP_end {xs ys : List Cel} {k : Nat} (h : k = min xs.length ys.length) : compP (xs.drop k) (ys.drop k) = cmpI xs.length ys.length := by
  by_cases hx : xs.length ≤ k
  · rw [List.drop_eq_nil_of_le hx]
    by_cases hy : ys.length ≤ k
    · rw [List.drop_eq_nil_of_le hy]; unfold cmpI compP; rw [if_neg (by omega), if_neg (by omega)]
    · rw [List.drop_eq_getElem_cons (by omega : k < ys.length)]; unfold cmpI compP; rw [if_pos (by omega)]
  · have hy : ys.length ≤ k := by omega
    rw [List.drop_eq_nil_of_le hy, List.drop_eq_getElem_cons (by omega : k < xs.length)]; unfold cmpI compP; rw [if_neg (by omega), if_pos (by omega)]
theorem min_i (a b : Nat) : min (a : Int) b = ((min a b : Nat) : Int) := by omega

set_option maxHeartbeats 800000 in
theorem compare_any (a : Option Addr) (cap : Nat) (a' : Option Addr) (cap' : Nat) (w : World) (xs ys : List Cel) (hx : Row w a cap xs) (hy : Row w a' cap' ys) :
    Calls Try.prog 142 #[.slice a xs.length cap, .slice a' ys.length cap'] w fun e w' => e = .returned (.int .i64 (compP xs ys)) ∧ Below w.heap.size w w' := by
  have hm := hx.max
  have hm2 := hx.le
  have hm3 := hy.max
  have hm4 := hy.le
  have hle := Nat.lt_or_ge ys.length xs.length
  rcases hle with hle | hle
  all_goals
    go_enter Try.func142, Try.ntmps142
    go_wp2_with fail
    go_loopw [11] (fun i wr => ∃ k : Nat, k ≤ xs.length ∧ k ≤ ys.length ∧ i = .int .i64 k ∧ Below w.heap.size w wr ∧ Hid (compP xs ys = compP (xs.drop k) (ys.drop k))) (fun i wr => xs.length - (intOf i).toNat)
    case atStart => exact ⟨0, Nat.zero_le _, Nat.zero_le _, rfl, Below.refl _ _, rfl⟩
    case round =>
      obtain ⟨k, hk, hk', rfl, hbl, HS⟩ := hrel
      by_cases hlt : k < xs.length ∧ k < ys.length
      · obtain ⟨h1, h2⟩ := hlt
        obtain ⟨b, off, rfl, hb, hat⟩ := hx.cases.resolve_left (fun e => by simp [e] at h1)
        obtain ⟨b', off', rfl, hb', hat'⟩ := hy.cases.resolve_left (fun e => by simp [e] at h2)
        obtain ⟨c0, c1, c2, hf⟩ := cel_at hat hbl h1
        obtain ⟨d0, d1, d2, hf2⟩ := cel_at hat' hbl h2
        have hst := compP_step h1 h2
        have hne := fun w => run_neq_cel xs[k] ys[k] w
        by_cases he : xs[k] = ys[k]
        · have HT : Hid (compP xs ys = compP (xs.drop (k + 1)) (ys.drop (k + 1))) := by rw [Hid, HS.out, hst, if_pos he]
          rw [decide_eq_true he] at hne
          clear he HS hst
          go_wp2
          go_quiet (fail)
          go_wp2
          go_round
          case rel => exact ⟨k + 1, by omega, by omega, by go_num, ⟨hbl.os, hbl.tape, hbl.output, hbl.size, hbl.block⟩, HT⟩
          case measure => simp [intOf]; omega
        · have HT : Hid (compP xs ys = cellCmp xs[k] ys[k]) := by rw [Hid, HS.out, hst, if_neg he]
          rw [decide_eq_false he] at hne
          clear he HS hst
          go_wp2
          go_quiet (fail)
          have e0 : ∀ x : Later (wr.drewN nq), x.w'.cell? ⟨b, off + k * 3, none⟩ = some (.int .i64 xs[k].k) := keepL (w := wr.drewN nq) c0
          have e1 : ∀ x : Later (wr.drewN nq), x.w'.cell? ⟨b, off + k * 3 + 1, none⟩ = some (.string xs[k].s) := keepL (w := wr.drewN nq) c1
          have e2 : ∀ x : Later (wr.drewN nq), x.w'.cell? ⟨b, off + k * 3 + 2, none⟩ = some (.int .i64 xs[k].n) := keepL (w := wr.drewN nq) c2
          have f0 : ∀ x : Later (wr.drewN nq), x.w'.cell? ⟨b', off' + k * 3, none⟩ = some (.int .i64 ys[k].k) := keepL (w := wr.drewN nq) d0
          have f1 : ∀ x : Later (wr.drewN nq), x.w'.cell? ⟨b', off' + k * 3 + 1, none⟩ = some (.string ys[k].s) := keepL (w := wr.drewN nq) d1
          have f2 : ∀ x : Later (wr.drewN nq), x.w'.cell? ⟨b', off' + k * 3 + 2, none⟩ = some (.int .i64 ys[k].n) := keepL (w := wr.drewN nq) d2
          go_wp2
          refine wp_region_calm (by kernel_rfl) (by kernel_rfl) ?_
          repeat (go_big_quiet_step (exact Calls.calm_of (order_any xs[k] ys[k] _)))
          refine wpQuiet_nil ?_
          rintro _ ⟨x, rfl⟩
          go_wp2
          go_ret
          exact ⟨ret_int HT.out.symm, (Below.then (b := wr.drewN nq) ⟨hbl.os, hbl.tape, hbl.output, hbl.size, hbl.block⟩ x.ok)⟩
      · have HT : Hid (compP xs ys = cmpI xs.length ys.length) := by rw [Hid, HS.out, compP_end (by omega)]
        clear HS
        go_wp2_with (go_at_call 199; refine (cmpI_any _ _ _).mono ?_; rintro e w' ⟨rfl, rfl⟩)
        go_ret
        exact ⟨ret_int HT.out.symm, hbl⟩
end Go.Proofs.Ytnpffificfghpaa
namespace Go.Proofs.Ytnpffificfghpaa
open Go.RowKit

set_option maxHeartbeats 400000 in
theorem run_eql_cel (x y : Cel) (w : World) : (binOp .eql 93 (.agg #[.int .i64 x.k, .string x.s, .int .i64 x.n]) (.agg #[.int .i64 y.k, .string y.s, .int .i64 y.n])).run Try.prog w = .ok (.bool (decide (x = y))) w := by
  by_cases h1 : x.k = y.k
  · by_cases h2 : x.s = y.s
    · by_cases h3 : x.n = y.n
      · go_simp
        exact (Cel.eq_iff x y).2 ⟨h1, h2, h3⟩
      · have h4 : ¬ x = y := fun e => h3 (by rw [e])
        have h5 : (x.n == y.n) = false := by simp [h3]
        go_simp
    · have h4 : ¬ x = y := fun e => h2 (by rw [e])
      have h5 : (x.s.toList == y.s.toList) = false := by simp [toList_inj, h2]
      go_simp
  · have h4 : ¬ x = y := fun e => h1 (by rw [e])
    have h5 : (x.k == y.k) = false := by simp [h1]
    go_simp

def compR : List Cel → List Cel → Int
  | x :: xs, y :: ys => if x = y then compR xs ys else cellCmp x y
  | _, _ => 0
theorem compR_step {xs ys : List Cel} {k : Nat} (hx : k < xs.length) (hy : k < ys.length) : compR (xs.drop k) (ys.drop k) = if xs[k] = ys[k] then compR (xs.drop (k + 1)) (ys.drop (k + 1)) else cellCmp xs[k] ys[k] := by
  rw [List.drop_eq_getElem_cons hx, List.drop_eq_getElem_cons hy]; rfl
theorem compR_end {xs ys : List Cel} {k : Nat} (h : xs.length ≤ k ∨ ys.length ≤ k) : compR (xs.drop k) (ys.drop k) = 0 := by
  rcases h with h | h
  · rw [List.drop_eq_nil_of_le h]; simp [compR]
  · rw [List.drop_eq_nil_of_le h]; cases xs.drop k <;> simp [compR]
theorem cmp_neg {x y : Cel} (h : x.k < y.k ∨ x.k = y.k ∧ (x.n < y.n ∨ x.n = y.n ∧ Op.bytesLess x.s.toList y.s.toList = true)) : cellCmp x y = -1 := by
  unfold cellCmp cmpI cmpS
  rcases h with h | ⟨h1, h | ⟨h2, h3⟩⟩
  · rw [if_neg (by omega), if_pos h]
  · rw [if_pos h1, if_neg (by omega), if_pos h]
  · rw [if_pos h1, if_pos h2, if_pos h3]
theorem cmp_pos {x y : Cel} (he : ¬ x = y) (h1 : ¬ x.k < y.k) (h : ¬ x.k = y.k ∨ ¬ x.n < y.n ∧ (¬ x.n = y.n ∨ Op.bytesLess x.s.toList y.s.toList = false)) : cellCmp x y = 1 := by
  unfold cellCmp cmpI cmpS
  by_cases h2 : x.k = y.k
  · rw [if_pos h2]
    obtain ⟨h3, h4⟩ := h.resolve_left (fun h => h h2)
    by_cases h5 : x.n = y.n
    · rw [if_pos h5, if_neg (by rw [h4.resolve_left (fun h => h h5)]; simp)]
      rw [if_neg]
      intro e
      exact he ((Cel.eq_iff x y).2 ⟨h2, e, h5⟩)
    · rw [if_neg h5, if_neg h3, if_pos (by omega)]
  · rw [if_neg h2, if_neg h1, if_pos (by omega)]

set_option maxHeartbeats 1600000 in
theorem refcompare_any (a : Option Addr) (cap : Nat) (a' : Option Addr) (cap' : Nat) (w : World) (xs ys : List Cel) (hx : Row w a cap xs) (hy : Row w a' cap' ys) :
    Calls Try.prog 145 #[.slice a xs.length cap, .slice a' ys.length cap'] w fun e w' => e = .returned (.int .i64 (compR xs ys)) ∧ Below w.heap.size w w' := by
  have hm := hx.max
  have hm2 := hx.le
  have hm3 := hy.max
  have hm4 := hy.le
  go_enter Try.func145, Try.ntmps145
  go_wp2_with fail
  go_loopw [5] (fun i wr => ∃ k : Nat, k ≤ xs.length ∧ k ≤ ys.length ∧ i = .int .i64 k ∧ Below w.heap.size w wr ∧ Hid (compR xs ys = compR (xs.drop k) (ys.drop k))) (fun i wr => xs.length - (intOf i).toNat)
  case atStart => exact ⟨0, Nat.zero_le _, Nat.zero_le _, rfl, Below.refl _ _, rfl⟩
  case round =>
    obtain ⟨k, hk, hk', rfl, hbl, HS⟩ := hrel
    by_cases h1 : k < xs.length
    · by_cases h2 : k < ys.length
      · obtain ⟨b, off, rfl, hb, hat⟩ := hx.cases.resolve_left (fun e => by simp [e] at h1)
        obtain ⟨b', off', rfl, hb', hat'⟩ := hy.cases.resolve_left (fun e => by simp [e] at h2)
        obtain ⟨c0, c1, c2, hf⟩ := cel_at hat hbl h1
        obtain ⟨d0, d1, d2, hf2⟩ := cel_at hat' hbl h2
        have hst := compR_step h1 h2
        have heq := fun w => run_eql_cel xs[k] ys[k] w
        have hbl2 := (hbl.new (.cells #[.int .i64 xs[k].k, .string xs[k].s, .int .i64 xs[k].n] 93)).new (.cells #[.int .i64 ys[k].k, .string ys[k].s, .int .i64 ys[k].n] 93)
        have l1 := cell_lt d0
        by_cases he : xs[k] = ys[k]
        · have HT : Hid (compR xs ys = compR (xs.drop (k + 1)) (ys.drop (k + 1))) := by rw [Hid, HS.out, hst, if_pos he]
          rw [decide_eq_true he] at heq
          clear he HS hst
          go_wp2
          go_round
          case rel => exact ⟨k + 1, by omega, by omega, by go_num, hbl2, HT⟩
          case measure => simp [intOf]; omega
        · have HT : Hid (compR xs ys = cellCmp xs[k] ys[k]) := by rw [Hid, HS.out, hst, if_neg he]
          have HE := mkHid he
          rw [decide_eq_false he] at heq
          clear he HS hst
          by_cases g1 : xs[k].k < ys[k].k
          · have HZ : Hid (cellCmp xs[k] ys[k] = -1) := cmp_neg (.inl g1)
            go_wp2
            go_ret
            exact ⟨ret_int (by rw [HT.out, HZ.out]), hbl2⟩
          by_cases g2 : xs[k].k = ys[k].k
          · have t2 : (xs[k].k == ys[k].k) = true := by simp [g2]
            by_cases g3 : xs[k].n < ys[k].n
            · have HZ : Hid (cellCmp xs[k] ys[k] = -1) := cmp_neg (.inr ⟨g2, .inl g3⟩)
              clear g2
              go_wp2
              go_ret
              exact ⟨ret_int (by rw [HT.out, HZ.out]), hbl2⟩
            by_cases g4 : xs[k].n = ys[k].n
            · have t4 : (xs[k].n == ys[k].n) = true := by simp [g4]
              cases g5 : Op.bytesLess xs[k].s.toList ys[k].s.toList with
              | true =>
                have HZ : Hid (cellCmp xs[k] ys[k] = -1) := cmp_neg (.inr ⟨g2, .inr ⟨g4, g5⟩⟩)
                clear g2 g4
                go_wp2
                go_ret
                exact ⟨ret_int (by rw [HT.out, HZ.out]), hbl2⟩
              | false =>
                have HZ : Hid (cellCmp xs[k] ys[k] = 1) := cmp_pos HE.out g1 (.inr ⟨g3, .inr g5⟩)
                clear g2 g4
                go_wp2
                go_ret
                exact ⟨ret_int (by rw [HT.out, HZ.out]), hbl2⟩
            · have t4 : (xs[k].n == ys[k].n) = false := by simp [g4]
              have HZ : Hid (cellCmp xs[k] ys[k] = 1) := cmp_pos HE.out g1 (.inr ⟨g3, .inl g4⟩)
              clear g2 g4
              go_wp2
              go_ret
              exact ⟨ret_int (by rw [HT.out, HZ.out]), hbl2⟩
          · have t2 : (xs[k].k == ys[k].k) = false := by simp [g2]
            have HZ : Hid (cellCmp xs[k] ys[k] = 1) := cmp_pos HE.out g1 (.inl g2)
            clear g2
            go_wp2
            go_ret
            exact ⟨ret_int (by rw [HT.out, HZ.out]), hbl2⟩
      · have HT : Hid (compR xs ys = 0) := by rw [Hid, HS.out, compR_end (by omega)]
        clear HS
        go_wp2
        go_ret
        exact ⟨ret_int HT.out.symm, hbl⟩
    · have HT : Hid (compR xs ys = 0) := by rw [Hid, HS.out, compR_end (by omega)]
      clear HS
      go_wp2
      go_ret
      exact ⟨ret_int HT.out.symm, hbl⟩

theorem ground_take {xs : List Cel} {k : Nat} (h : k < xs.length) (h1 : groundB (xs.take k) = true) (h2 : ¬ xs[k].k = 1) : groundB (xs.take (k + 1)) = true := by
  rw [List.take_succ_eq_append_getElem h]
  unfold groundB at h1 ⊢
  rw [List.all_append, h1]; simp [h2]
theorem ground_bad {xs : List Cel} {k : Nat} (h : k < xs.length) (h2 : xs[k].k = 1) : groundB xs = false := by
  unfold groundB
  rw [List.all_eq_false]
  exact ⟨xs[k], List.getElem_mem h, by simp [h2]⟩

set_option maxHeartbeats 400000 in
theorem ground_any (a : Option Addr) (cap : Nat) (w : World) (xs : List Cel) (hx : Row w a cap xs) :
    Calls Try.prog 140 #[.slice a xs.length cap] w fun e w' => e = .returned (.bool (groundB xs)) ∧ Below w.heap.size w w' := by
  have hm := hx.max
  have hm2 := hx.le
  go_enter Try.func140, Try.ntmps140
  go_wp2
  go_loopw [7] (fun i wr => ∃ k : Nat, k ≤ xs.length ∧ i = .int .i64 k ∧ Below w.heap.size w wr ∧ Hid (groundB (xs.take k) = true)) (fun i wr => xs.length - (intOf i).toNat)
  case atStart => exact ⟨0, Nat.zero_le _, rfl, Below.refl _ _, rfl⟩
  case round =>
    obtain ⟨k, hk, rfl, hbl, HS⟩ := hrel
    by_cases hlt : k < xs.length
    · obtain ⟨b, off, rfl, hb, hat⟩ := hx.cases.resolve_left (fun e => by simp [e] at hlt)
      obtain ⟨c0, c1, c2, hf⟩ := cel_at hat hbl hlt
      have hbl2 := hbl.new (.cells #[.int .i64 xs[k].k, .string xs[k].s, .int .i64 xs[k].n] 93)
      by_cases he : xs[k].k = 1
      · have HE : Hid (groundB xs = false) := ground_bad hlt he
        have ht : (xs[k].k == 1) = true := by simp [he]
        clear he HS
        go_wp2
        go_ret
        exact ⟨ret_bool HE.out.symm, hbl2⟩
      · have HT : Hid (groundB (xs.take (k + 1)) = true) := ground_take hlt HS.out he
        have ht : (xs[k].k == 1) = false := by simp [he]
        clear he HS
        go_wp2
        go_round
        case rel => exact ⟨k + 1, by omega, by go_num, hbl2, HT⟩
        case measure => simp [intOf]; omega
    · have HE : Hid (groundB xs = true) := by
        have := HS.out
        rwa [List.take_of_length_le (by omega)] at this
      clear HS
      go_wp2
      go_ret
      exact ⟨ret_bool HE.out.symm, hbl⟩

set_option maxHeartbeats 400000 in
theorem refground_any (a : Option Addr) (cap : Nat) (w : World) (xs : List Cel) (hx : Row w a cap xs) (hl : xs.length ≤ 1000000) :
    Calls Try.prog 144 #[.slice a xs.length cap] w fun e w' => e = .returned (.bool (groundB xs)) ∧ Below w.heap.size w w' := by
  have HE : Hid (groundB xs = (((varsL xs).length : Int) == 0)) := by
    rw [Hid, ground_vars]; by_cases h : (varsL xs).length = 0 <;> simp [h]
  have hvl := varsGo_length xs []
  go_enter Try.func144, Try.ntmps144
  go_wp2_with (go_at_call 170; refine (refvars_any a cap _ xs hx hl).mono ?_; rintro e w' ⟨a', cap', rfl, hr', hb1⟩)
  go_ret
  exact ⟨ret_bool HE.out.symm, hb1⟩
end Go.Proofs.Ytnpffificfghpaa
namespace Go.Proofs.Ytnpffificfghpaa
open Go.RowKit

/-- where the new row lies: where the old one lay, or in a new block -/
theorem run_append_where {P : Program} (w : World) (B : Nat) (t ty e : TypeId) (i : TypeInfo) (z : Value) (size bytes : Nat) (ht : P.underlying t = some (.slice e)) (hi : P.info? e = some i) (hz : i.zero = some z)
    (hsize : i.size = size) (hby : i.bytes = bytes) (hzs : z.cells.size = size) (hsz : 0 < size)
    (v : Value) (n : Nat) (xs : List Value) (hown : w.ownsRow B e size v n xs)
    (a : Addr) (m c : Nat) (news : List Value) (hl : news.length = m * size) (hnews : ∀ j u, news[j]? = some u → w.cell? (a.add j) = some u) (h1 : ∀ u ∈ news, u.oneCell' = true)
    (h63 : n + m ≤ maxLen) (hbytes : (n + m) * bytes ≤ 140737488355328) (hbase : B ≤ w.heap.size) :
    ∃ v' w', (Builtin.append_ #[t, t] ty #[v, .slice (some a) m c]).run P w = .ok v' w' ∧ w'.ownsRow B e size v' (n + m) (xs ++ news) ∧ w.grownBy w' v.ownBlock ∧
      (v'.ownBlock = v.ownBlock ∨ v'.ownBlock = some w.heap.size) := by
  obtain ⟨v', w', hr, h2, h3, h4⟩ := run_append_own (P := P) w B t ty e i z size bytes ht hi hz hsize hby hzs hsz v n xs hown a m c news hl hnews h1 h63 hbytes hbase
  refine ⟨v', w', hr, h2, h3, ?_⟩
  have h63' : n + m ≤ 9223372036854775807 := by unfold maxLen at h63; omega
  rcases hown.2 with ⟨rfl, rfl⟩ | ⟨g, cap, cur, rfl, hb, hg, hn, hm, hs, htk⟩
  · by_cases hm : m = 0
    · left
      rw [(h4.2 ⟨rfl, hm⟩)]
    · right
      have hr2 := run_append_nil (P := P) w t ty e i z ht hi hz a m c news (by rw [hsize]; exact hl) hnews (by omega) (by omega) (by rw [hby]; rw [Nat.zero_add] at hbytes; omega)
      rw [hr] at hr2
      injection hr2 with e1 e2
      rw [e1]; rfl
  · by_cases hroom : n + m ≤ cap
    · left
      have hr2 := run_append_room (P := P) w t ty e i ht hi g n cap cur hg a m c news (by rw [hsize]; exact hl) hnews h1 hroom (by
        rw [hsize, hl, hs, ← Nat.add_mul]; exact Nat.mul_le_mul_right _ hroom)
      rw [hr] at hr2
      injection hr2 with e1 e2
      rw [e1]; rfl
    · right
      have hr2 := run_append_grow (P := P) w t ty e i z ht hi hz ⟨g, 0, none⟩ n cap xs (by rw [hsize]; exact hown.1) (hown.cells (g := g) rfl) a m c news (by rw [hsize]; exact hl) hnews (by omega) (by omega) (by
        rw [hby]; exact growslice_fits (by omega) hbytes)
      rw [hr] at hr2
      injection hr2 with e1 e2
      rw [e1]; rfl

/-- what was read beside the old row is read beside the new one -/
theorem hide_next {w w' : World} {r r' : Option Nat} (hg : w.grownBy w' r) (h : r' = r ∨ r' = some w.heap.size) : Keeps (hide r w) (hide r' w') := by
  rcases h with rfl | rfl
  · exact grown_keeps hg
  · intro b o v hc
    have hl := cell_lt (hide_keeps r w b o v hc)
    have h1 := grown_keeps hg b o v hc
    exact hide_of_ne (by omega) (hide_keeps r w' b o v h1)

theorem wpList_app2 {P : Program} {w : World} {ops : Array Oper} {rest : List Oper} {o : Oper} {a : Act} {Q : Exit → Act → World → Prop} (hgd : o.guard = none) (s x : Operand) (t : TypeId)
    (ho : o.op = .call { callee := .builtin .append, args := #[s, x], argTypes := #[t, t] })
    (B e size bytes : Nat) (z : Value) (ht : P.underlying t = some (.slice e)) (hinfo : (P.info? e).map (fun i => (i.zero, i.size, i.bytes)) = some (some z, size, bytes))
    (hzs : z.cells.size = size) (hsz : 0 < size) (hby : bytes ≤ 1000)
    (v : Value) (n : Nat) (xs : List Value) (hs : a.eval s = v) (hown : w.ownsRow B e size v n xs)
    (sa : Addr) (m c : Nat) (news : List Value) (hx : a.eval x = .slice (some sa) m c) (hsrc : Src w size (some sa) m c news)
    (hmax : n + m ≤ 1000000000) (hB : B ≤ w.heap.size)
    (h : ∀ v' w', w'.ownsRow B e size v' (n + m) (xs ++ news) → w.grownBy w' v.ownBlock → Below B w w' → Keeps (hide v.ownBlock w) (hide v'.ownBlock w') → wpList P ops Q rest (a.put o.dst v') w') : wpList P ops Q (o :: rest) a w := by
  obtain ⟨i, hi, hz0, hz1, hz2⟩ := info_parts hinfo
  have hb : (n + m) * bytes ≤ 140737488355328 := Nat.le_trans (Nat.mul_le_mul hmax hby) (by decide)
  refine wpList_plain hgd fun K hK => ?_
  obtain ⟨v', w', hr, h2, h3, h4⟩ := run_append_where (P := P) w B t o.type e i z size bytes ht hi hz0 hz1 hz2 hzs hsz v n xs hown sa m c news hsrc.len (hsrc.cells sa rfl) hsrc.one (by unfold maxLen; omega) hb hB
  unfold Oper.wp execOp
  simp only [ho, resolve, invoke, builtin, Sem.run_bind, Sem.run_pure, Result.andThen_ok, List.map_toArray, List.map_cons, List.map_nil, hs, hx, hr]
  exact hK _ _ (h v' w' h2 h3 (grown_below h3 hown hB) (hide_next h3 h4))

/-- values of slices, each of which reads as a list -/
structure SlRows {α : Type} [Rep α] (w : World) (vs : List Value) (ps : List (List α)) : Prop where
  len : vs.length = ps.length
  row : ∀ (i : Nat) (v : Value) (p : List α), vs[i]? = some v → ps[i]? = some p → ∃ a cap, v = Value.slice a p.length cap ∧ Row w a cap p
section
variable {α : Type} [Rep α]
theorem SlRows.nil (w : World) : SlRows w [] ([] : List (List α)) := ⟨rfl, fun i v p h => by simp at h⟩
theorem SlRows.keeps {w w' : World} {vs : List Value} {ps : List (List α)} (h : SlRows w vs ps) (hk : Keeps w w') : SlRows w' vs ps :=
  ⟨h.len, fun i v p hv hp => let ⟨a, cap, e, hr⟩ := h.row i v p hv hp; ⟨a, cap, e, hr.keeps hk⟩⟩
theorem SlRows.snoc {w : World} {vs : List Value} {ps : List (List α)} (h : SlRows w vs ps) {a : Option Addr} {cap : Nat} {p : List α} (hr : Row w a cap p) : SlRows w (vs ++ [.slice a p.length cap]) (ps ++ [p]) := by
  refine ⟨by simp [h.len], fun i v q hv hq => ?_⟩
  by_cases hi : i < vs.length
  · rw [List.getElem?_append_left hi] at hv
    rw [List.getElem?_append_left (by rw [← h.len]; exact hi)] at hq
    exact h.row i v q hv hq
  · rw [List.getElem?_append_right (by omega)] at hv
    rw [List.getElem?_append_right (by rw [← h.len]; omega), ← h.len] at hq
    by_cases h0 : i - vs.length = 0
    · rw [h0] at hv hq
      simp at hv hq
      subst hv; subst hq
      exact ⟨a, cap, rfl, hr⟩
    · rw [List.getElem?_eq_none (by simp; omega)] at hv; cases hv
theorem SlRows.one {w : World} {vs : List Value} {ps : List (List α)} (h : SlRows w vs ps) : ∀ u ∈ vs, u.oneCell' = true := by
  intro u hu
  obtain ⟨i, hi, rfl⟩ := List.getElem_of_mem hu
  obtain ⟨a, cap, e, _⟩ := h.row i vs[i] (ps[i]'(by rw [← h.len]; exact hi)) (List.getElem?_eq_getElem hi) (List.getElem?_eq_getElem _)
  rw [e]; rfl
theorem own_rowL {w : World} {B e : Nat} {v : Value} {vs : List Value} {ps : List (List α)} (h : w.ownsRow B e 1 v ps.length vs) (hs : SlRows w vs ps) : ∃ a cap, v = .slice a ps.length cap ∧ Row w a cap ps := by
  rcases h.2 with ⟨rfl, hn⟩ | ⟨g, cap, cur, rfl, hb, hg, hn, hm, hsz, ht⟩
  · obtain rfl : ps = [] := List.eq_nil_of_length_eq_zero hn
    exact ⟨none, 0, rfl, Row.empty _ _ _ (by omega) (fun _ => rfl)⟩
  · refine ⟨_, cap, rfl, ⟨hn, by unfold maxLen at hm; omega, (fun e => by cases e), fun i x hi => ⟨g, 0, rfl, ?_⟩⟩⟩
    show ListE w g (0 + i * 1) x
    rw [Nat.zero_add, Nat.mul_one]
    have hl : i < ps.length := (List.getElem?_eq_some_iff.1 hi).1
    have hl' : i < vs.length := by rw [hs.len]; exact hl
    obtain ⟨a, cap, e, hr⟩ := hs.row i vs[i] x (List.getElem?_eq_getElem hl') hi
    exact ⟨a, cap, own_cells h i _ (by rw [List.getElem?_eq_getElem hl', e]), hr⟩
end
theorem below_grown {w w' : World} (hb : Below w.heap.size w w') (r : Option Nat) : w.grownBy w' r := ⟨hb.os, hb.tape, hb.output, hb.size, fun k hk _ => hb.block k hk⟩
theorem below_hide {w w' : World} (hb : Below w.heap.size w w') (r : Option Nat) : Keeps (hide r w) (hide r w') := grown_keeps (below_grown hb r)
theorem alloc_hide (w : World) (o : Obj) (r : Option Nat) : Keeps (hide r w) (hide r (w.alloc o)) := grown_keeps (World.grownBy_alloc w o r)
theorem own_hide {w : World} {B e size : Nat} {v : Value} {n : Nat} {xs : List Value} {r : Option Nat} (h : w.ownsRow B e size v n xs) (hr : ∀ g, r = some g → g < B) : (hide r w).ownsRow B e size v n xs := by
  cases r with
  | none => exact h
  | some g0 =>
    refine ⟨h.1, ?_⟩
    rcases h.2 with h | ⟨g, cap, cur, rfl, hb, hg, rest⟩
    · exact .inl h
    · have := hr g0 rfl
      exact .inr ⟨g, cap, cur, rfl, hb, by rw [hide_heap _ _ _ (by omega)]; exact hg, rest⟩
/-- a part of a row -/
theorem Row.slice {α : Type} [Rep α] {w : World} {b off cap : Nat} {xs : List α} (h : Row w (some ⟨b, off, none⟩) cap xs) {i j : Nat} (hij : i ≤ j) (hj : j ≤ xs.length) :
    Row w (some ⟨b, off + i * Rep.sz α, none⟩) (cap - i) ((xs.drop i).take (j - i)) := by
  refine ⟨?_, by have := h.max; omega, (fun e => by cases e), fun k x hk => ?_⟩
  · have := h.le; simp; omega
  · have hl : k < ((xs.drop i).take (j - i)).length := (List.getElem?_eq_some_iff.1 hk).1
    have hk2 : k < j - i := by simp at hl; omega
    rw [List.getElem?_take_of_lt hk2, List.getElem?_drop] at hk
    obtain ⟨b', off', e, hE⟩ := h.at_ (i + k) x hk
    simp at e
    obtain ⟨rfl, rfl⟩ := e
    refine ⟨b, off + i * Rep.sz α, rfl, ?_⟩
    rw [Nat.add_assoc, ← Nat.add_mul]; exact hE
end Go.Proofs.Ytnpffificfghpaa
namespace Go.Proofs.Ytnpffificfghpaa
open Go.RowKit

theorem sk_pos {m : Nat} {l r : List Cel} (h : sk (m + 1) l = some r) : r.length < l.length := by
  cases l with
  | nil => simp [sk] at h
  | cons c l =>
    simp only [sk] at h
    split at h
    · have := (sk_suffix _ _ _ h).1; simp; omega
    · cases h
theorem right_sk {xs : List Cel} (h : rightB xs = true) : ∃ c l, xs = c :: l ∧ cellOk c = true ∧ sk (ar c) l = some [] ∧ xs.length ≤ 200 := by
  simp only [rightB, Bool.and_eq_true, decide_eq_true_eq] at h
  obtain ⟨h1, h2⟩ := h
  cases xs with
  | nil => simp [endI, sk] at h2
  | cons c l =>
    refine ⟨c, l, rfl, ?_⟩
    unfold endI at h2
    rw [List.drop_zero] at h2
    have hs : sk 1 (c :: l) = if cellOk c then sk (0 + ar c) l else none := rfl
    rw [hs] at h2
    by_cases hc : cellOk c = true
    · rw [if_pos hc, Nat.zero_add] at h2
      cases hr : sk (ar c) l with
      | none => rw [hr] at h2; simp at h2; omega
      | some r =>
        rw [hr] at h2
        simp only at h2
        have : r.length = 0 := by omega
        exact ⟨hc, by rw [List.eq_nil_of_length_eq_zero this], by omega⟩
    · rw [if_neg hc] at h2; simp at h2; omega
theorem right_of_sk {c : Cel} {l : List Cel} (hc : cellOk c = true) (h : sk (ar c) l = some []) (hl : (c :: l).length ≤ 200) : rightB (c :: l) = true := by
  simp only [rightB, Bool.and_eq_true, decide_eq_true_eq]
  refine ⟨by omega, ?_⟩
  unfold endI
  rw [List.drop_zero]
  have hs : sk 1 (c :: l) = if cellOk c then sk (0 + ar c) l else none := rfl
  rw [hs, if_pos hc, Nat.zero_add, h]; simp

def ar0 : List Cel → Nat
  | [] => 0
  | c :: _ => ar c
/-- where the j-th argument begins -/
def aN (xs : List Cel) (j : Nat) : Nat := (afterI xs 1 j).toNat
def partJ (xs : List Cel) (j : Nat) : List Cel := (xs.drop (aN xs j)).take (aN xs (j + 1) - aN xs j)
def partsL (xs : List Cel) : List (List Cel) := (List.range (ar0 xs)).map (partJ xs)

theorem right_after {xs : List Cel} (h : rightB xs = true) {j : Nat} (hj : j ≤ ar0 xs) : afterI xs 1 j = aN xs j ∧ 1 ≤ aN xs j ∧ aN xs j ≤ xs.length ∧ sk j (xs.drop 1) = some (xs.drop (aN xs j)) := by
  obtain ⟨c, l, rfl, hc, hs, hl⟩ := right_sk h
  simp only [ar0] at hj
  have h1 : sk (j + (ar c - j)) l = some [] := by rw [show j + (ar c - j) = ar c by omega]; exact hs
  rw [sk_add] at h1
  have hd : (c :: l).drop 1 = l := rfl
  cases hr : sk j l with
  | none => rw [hr] at h1; simp at h1
  | some r =>
    have := sk_at (xs := c :: l) (i := 1) (j := j) (r := r) (by simp) (by rw [hd]; exact hr)
    obtain ⟨k1, k2⟩ := this
    have e : afterI (c :: l) 1 j = (c :: l).length - r.length := by unfold afterI; rw [hd, hr]
    have e2 : aN (c :: l) j = (c :: l).length - r.length := by unfold aN; rw [e]; omega
    refine ⟨by rw [e, e2]; simp at k1 ⊢; omega, by rw [e2]; simp at k1 ⊢; omega, by rw [e2]; omega, ?_⟩
    rw [hd, hr, e2, k2]
theorem right_next {xs : List Cel} (h : rightB xs = true) {j : Nat} (hj : j < ar0 xs) : aN xs j < aN xs (j + 1) ∧ endI xs (aN xs j) = aN xs (j + 1) := by
  obtain ⟨a1, a2, a3, a4⟩ := right_after h (Nat.le_of_lt hj)
  obtain ⟨b1, b2, b3, b4⟩ := right_after h (show j + 1 ≤ ar0 xs from hj)
  have hs : sk 1 (xs.drop (aN xs j)) = some (xs.drop (aN xs (j + 1))) := by
    rw [sk_add, a4] at b4; simpa using b4
  have := sk_pos hs
  simp at this
  refine ⟨by omega, ?_⟩
  unfold endI
  rw [hs]; simp; omega
theorem right_last {xs : List Cel} (h : rightB xs = true) : aN xs (ar0 xs) = xs.length := by
  obtain ⟨a1, a2, a3, a4⟩ := right_after h (Nat.le_refl (ar0 xs))
  obtain ⟨c, l, rfl, hc, hs, hl⟩ := right_sk h
  have : sk (ar0 (c :: l)) ((c :: l).drop 1) = some [] := hs
  rw [a4] at this
  have h2 := congrArg List.length (Option.some.inj this)
  simp at h2 a3 ⊢
  omega
theorem parts_succ (xs : List Cel) (j : Nat) : (List.range (j + 1)).map (partJ xs) = (List.range j).map (partJ xs) ++ [partJ xs j] := by
  rw [List.range_succ, List.map_append]; rfl
theorem partJ_length {xs : List Cel} (h : rightB xs = true) {j : Nat} (hj : j < ar0 xs) : (partJ xs j).length = aN xs (j + 1) - aN xs j := by
  obtain ⟨b1, b2, b3, b4⟩ := right_after h (show j + 1 ≤ ar0 xs from hj)
  have := right_next h hj
  unfold partJ; simp; omega
theorem ar_le6 {xs : List Cel} (h : rightB xs = true) : ar0 xs ≤ 6 := by
  obtain ⟨c, l, rfl, hc, _⟩ := right_sk h
  exact ar_le c hc
end Go.Proofs.Ytnpffificfghpaa
namespace Go.Proofs.Ytnpffificfghpaa
open Go.RowKit

theorem Try.infoSl : (Try.prog.info? 30).map (fun i => (i.zero, i.size, i.bytes)) = some (some (.slice none 0 0), 1, 24) := by kernel_rfl
theorem passI_at {xs : List Cel} {j : Nat} (h : rightB xs = true) (hj : j < ar0 xs) : passI xs (aN xs j) = aN xs (j + 1) := by
  unfold passI; rw [if_pos (by omega), Int.toNat_natCast, (right_next h hj).2]
theorem take_drop_len {xs : List Cel} {j : Nat} (h : rightB xs = true) (hj : j < ar0 xs) : aN xs (j + 1) - aN xs j = (partJ xs j).length := (partJ_length h hj).symm

set_option maxHeartbeats 1600000 in
theorem parts_any (a : Option Addr) (cap : Nat) (w : World) (xs : List Cel) (hr : Row w a cap xs) (hR : rightB xs = true) :
    Calls Try.prog 208 #[.slice a xs.length cap] w fun e w' => ∃ a' cap', e = .returned (.slice a' (partsL xs).length cap') ∧ Row w' a' cap' (partsL xs) ∧ Below w.heap.size w w' := by
  have hm := hr.max
  have hle := hr.le
  have h6 := ar_le6 hR
  obtain ⟨c, l, e0, hc, _, h200⟩ := right_sk hR
  have h0 : 0 < xs.length := by rw [e0]; simp
  have hc0 : xs[0] = c := by simp [e0]
  have har : ar0 xs = ar xs[0] := by rw [hc0, e0]; rfl
  have HA : Hid (arI xs[0] = ar0 xs) := by rw [Hid, har, hc0]; exact arI_ar hc
  have HR := mkHid hR
  clear hR e0 hc hc0 har
  obtain ⟨b, off, rfl, hb, hat⟩ := hr.cases.resolve_left (fun e => by simp [e] at h0)
  go_enter Try.func208, Try.ntmps208
  go_wp2_with (first
    | (go_at_call 107; refine (right_any _ cap _ xs hr).mono ?_; rintro e w1 ⟨rfl, hb1⟩; rw [HR.out]; obtain ⟨c0, c1, c2, hf⟩ := cel_at hat hb1 h0; simp only [Nat.zero_mul, Nat.add_zero] at c0 c1 c2)
    | (go_at_call 197; refine (arguments_any xs[0] _).mono ?_; rintro e w2 ⟨rfl, hb2⟩; rw [HA.out]))
  have hb12 := hb1.then hb2
  clear c0 c1 c2
  go_loopw [3, 4, 13] (fun v i j wr => ∃ (k : Nat) (vs : List Value), k ≤ ar0 xs ∧ j = .int .i64 k ∧ i = .int .i64 (aN xs k) ∧ wr.ownsRow w.heap.size 30 1 v k vs ∧ Below w.heap.size w wr ∧ Hid (SlRows (hide v.ownBlock wr) vs ((List.range k).map (partJ xs)))) (fun v i j wr => ar0 xs - (intOf j).toNat)
  case atStart => exact ⟨0, [], Nat.zero_le _, rfl, by unfold aN; rw [afterI_zero (by omega)]; rfl, World.ownsRow_nil _ _ _ _, hb12, SlRows.nil _⟩
  case round =>
    obtain ⟨k, vs, hk, rfl, rfl, hown, hbl, HS⟩ := hrel
    by_cases hlt : k < ar0 xs
    · have hra := (right_after HR.out hk).2
      have hrb := (right_after HR.out (show k + 1 ≤ ar0 xs from hlt)).2
      have hrn := (right_next HR.out hlt).1
      have HP := mkHid (passI_at HR.out hlt)
      obtain ⟨q1, q2, _⟩ := hra
      obtain ⟨q3, q4, _⟩ := hrb
      have hr1 := hr.below hbl
      go_wp2_with (go_at_call 181; refine (behind_any _ cap (aN xs k) _ xs hr1 (by omega) (by omega) (by omega)).mono ?_; rintro e w3 ⟨rfl, hb3⟩; rw [HP.out])
      have hrow3 := (hr1.below hb3).slice (i := aN xs k) (j := aN xs (k + 1)) (by omega) q4
      have hfit : ∀ c ∈ partJ xs k, c.fit := hrow3.fit
      refine (clone_any' _ _ _ _ (partJ xs k) (take_drop_len HR.out hlt) hrow3 (by have := partJ_length HR.out hlt; omega)).mono ?_
      rintro e w4 ⟨v1, rfl, hown4, hb4⟩
      have hown1 := own_below (own_below hown hb3) hb4
      have hlt4 := hown4.lt
      obtain ⟨a1, cap1, rfl, hrow4⟩ := own_row (own_hide (r := u3.ownBlock) hown4 (fun g hg => (own_below hown hb3).lt g hg |>.2)) hfit
      have hbl4 := (hbl.then hb3).then hb4
      have HS4 := mkHid (((HS.out.keeps (below_hide hb3 _)).keeps (below_hide hb4 _)).snoc hrow4)
      go_wp2_with (at_builtin; refine wpList_app2 rfl _ _ 22 rfl w.heap.size 30 1 24 _ Try.underlying22 Try.infoSl rfl (by decide) (by decide) _ k _ rfl (hown1.alloc _) ⟨_, 0, none⟩ 1 1 [.slice a1 (partJ xs k).length cap1] rfl (src_new _ #[.slice a1 (partJ xs k).length cap1] _ 1 rfl (by simp [Value.oneCell'])) (by omega) (Nat.le_trans hbl4.size (by simp)) ?_; intro v' w5 hown5 _ hb5 hk5)
      go_round
      case rel => exact ⟨k + 1, vs ++ [.slice a1 (partJ xs k).length cap1], by omega, by go_num, rfl, hown5, (hbl4.new _).trans hb5, by rw [parts_succ]; exact (HS4.out.keeps (alloc_hide _ _ _)).keeps hk5⟩
      case measure => simp [intOf]; omega
    · obtain rfl : k = ar0 xs := by omega
      have hS := HS.out.keeps (hide_keeps _ _)
      have hl : (partsL xs).length = ar0 xs := by simp [partsL]
      obtain ⟨a', cap', rfl, hrow'⟩ := own_rowL (e := 30) (B := w.heap.size) (v := u3) (ps := partsL xs) (by rw [hl]; exact hown) hS
      have HL := mkHid hl
      clear hl
      go_wp2
      go_ret
      exact ⟨a', cap', rfl, hrow', hbl⟩
end Go.Proofs.Ytnpffificfghpaa
namespace Go.Proofs.Ytnpffificfghpaa
open Go.RowKit

set_option maxHeartbeats 1600000 in
theorem refparts_any (a : Option Addr) (cap : Nat) (w : World) (xs : List Cel) (hr : Row w a cap xs) (hR : rightB xs = true) :
    Calls Try.prog 158 #[.slice a xs.length cap] w fun e w' => ∃ a' cap', e = .returned (.slice a' (partsL xs).length cap') ∧ Row w' a' cap' (partsL xs) ∧ Below w.heap.size w w' := by
  have hm := hr.max
  have hle := hr.le
  have h6 := ar_le6 hR
  obtain ⟨c, l, e0, hc, _, h200⟩ := right_sk hR
  have h0 : 0 < xs.length := by rw [e0]; simp
  have hc0 : xs[0] = c := by simp [e0]
  have har : ar0 xs = ar xs[0] := by rw [hc0, e0]; rfl
  have hm0 := World.ownsRow_made (base := w.heap.size) (e := 30) (size := 1) w #[] 0 (Nat.le_refl _) (by unfold maxLen; omega) rfl
  have hb0 := (Below.refl w.heap.size w).new (.cells #[] 30)
  have hl0 : ((xs.length : Int) == 0) = false := by simp; intro e; simp [e] at h0
  obtain ⟨b, off, rfl, hb, hat⟩ := hr.cases.resolve_left (fun e => by simp [e] at h0)
  obtain ⟨c0, c1, c2, hf⟩ := cel_at hat (Below.refl _ _) h0
  simp only [Nat.zero_mul, Nat.add_zero] at c0 c1 c2
  by_cases h3 : xs[0].k = 3
  · have t3 : (xs[0].k != 3) = false := by simp [h3]
    have hn : xs[0].n = ar0 xs := by
      have := arI_ar hc; rw [← hc0] at this; rw [har, ← this]; unfold arI; rw [if_pos h3]
    have HN := mkHid hn
    have HR := mkHid hR
    clear hR e0 hc hc0 har h3 hn
    go_enter Try.func158, Try.ntmps158
    go_wp2_with fail
    go_loopw [3, 4, 5] (fun v i j wr => ∃ (k : Nat) (vs : List Value), k ≤ ar0 xs ∧ j = .int .i64 k ∧ i = .int .i64 (aN xs k) ∧ wr.ownsRow w.heap.size 30 1 v k vs ∧ Below w.heap.size w wr ∧ Hid (SlRows w vs ((List.range k).map (partJ xs)))) (fun v i j wr => ar0 xs - (intOf j).toNat)
    case atStart => exact ⟨0, [], Nat.zero_le _, rfl, by unfold aN; rw [afterI_zero (by omega)]; rfl, hm0, hb0, SlRows.nil _⟩
    case round =>
      obtain ⟨k, vs, hk, rfl, rfl, hown, hbl, HS⟩ := hrel
      have d2 : wr.cell? ⟨b, off + 2, none⟩ = some (.int .i64 (ar0 xs)) := by rw [← HN.out]; exact keep c2 hbl
      clear c0 c1 c2
      by_cases hlt : k < ar0 xs
      · have hra := (right_after HR.out hk).2
        have hrb := (right_after HR.out (show k + 1 ≤ ar0 xs from hlt)).2
        have hrn := (right_next HR.out hlt).1
        have HP := mkHid (right_next HR.out hlt).2
        obtain ⟨q1, q2, _⟩ := hra
        obtain ⟨q3, q4, _⟩ := hrb
        have hr1 := hr.below hbl
        have hrow3 := hr.slice (i := aN xs k) (j := aN xs (k + 1)) (by omega) q4
        have HS4 := mkHid (HS.out.snoc hrow3)
        have HL := mkHid (take_drop_len HR.out hlt)
        go_wp2_with (first
          | (go_at_call 105; refine (refend_any _ cap (aN xs k) _ xs hr1 (by omega) (by omega)).mono ?_; rintro e w3 ⟨rfl, hb3⟩; rw [HP.out]; have hown3 := own_below hown hb3; have hbl3 := hbl.then hb3)
          | (at_builtin; refine wpList_app rfl _ _ 22 rfl w.heap.size 30 1 24 _ Try.underlying22 Try.infoSl rfl (by decide) (by decide) _ k _ rfl (hown3.alloc _) (some ⟨_, 0, none⟩) 1 1 [.slice (some ⟨b, off + aN xs k * 3, none⟩) (aN xs (k + 1) - aN xs k) (cap - aN xs k)] rfl (src_new _ #[.slice (some ⟨b, off + aN xs k * 3, none⟩) (aN xs (k + 1) - aN xs k) (cap - aN xs k)] _ 1 rfl (by simp [Value.oneCell'])) (by omega) (Nat.le_trans hbl3.size (by simp)) ?_; intro v' w5 hown5 _ hb5))
        go_round
        case rel => exact ⟨k + 1, vs ++ [.slice (some ⟨b, off + aN xs k * 3, none⟩) (aN xs (k + 1) - aN xs k) (cap - aN xs k)], by omega, by go_num, rfl, hown5, (hbl3.new _).trans hb5, by rw [parts_succ, HL.out]; exact HS4.out⟩
        case measure => simp [intOf]; omega
      · obtain rfl : k = ar0 xs := by omega
        have hl : (partsL xs).length = ar0 xs := by simp [partsL]
        obtain ⟨a', cap', rfl, hrow'⟩ := own_rowL (e := 30) (B := w.heap.size) (v := u3) (ps := partsL xs) (by rw [hl]; exact hown) (HS.out.keeps (Keeps.of hbl))
        have HL := mkHid hl
        clear hl
        go_wp2
        go_ret
        exact ⟨a', cap', rfl, hrow', hbl⟩
  · have t3 : (xs[0].k != 3) = true := by simp [h3]
    have hp : partsL xs = [] := by unfold partsL; rw [har]; unfold ar; rw [if_neg h3]; rfl
    have HP := mkHid hp
    clear hR e0 hc hc0 har h3 hp
    go_enter Try.func158, Try.ntmps158
    go_wp2_with fail
    go_ret
    rw [HP.out]
    exact ⟨_, _, rfl, Row.empty _ _ _ (by omega) (by simp), hb0⟩

theorem sameall_ne {xs ys : List (List Cel)} {k : Nat} (hx : k < xs.length) (hy : k < ys.length) (h : ¬ xs[k] = ys[k]) : ¬ xs = ys := by
  intro e; subst e; exact h rfl
set_option maxHeartbeats 800000 in
theorem sameall_any (a : Option Addr) (cap : Nat) (a' : Option Addr) (cap' : Nat) (w : World) (xs ys : List (List Cel)) (hx : Row w a cap xs) (hy : Row w a' cap' ys) :
    Calls Try.prog 27 #[.slice a xs.length cap, .slice a' ys.length cap'] w fun e w' => e = .returned (.bool (decide (xs = ys))) ∧ Below w.heap.size w w' := by
  have hm := hx.max
  have hm2 := hx.le
  have hm3 := hy.max
  have hm4 := hy.le
  by_cases hlen : xs.length = ys.length
  · have hlt2 : ys.length ≤ xs.length := by omega
    have hlt3 : xs.length ≤ ys.length := by omega
    have hne : ((xs.length : Int) != (ys.length : Int)) = false := by simp [hlen]
    clear hlen
    go_enter Try.func27, Try.ntmps27
    go_wp2
    go_loopw [5] (fun i wr => ∃ k : Nat, k ≤ xs.length ∧ i = .int .i64 k ∧ Below w.heap.size w wr ∧ Hid (xs.take k = ys.take k)) (fun i wr => xs.length - (intOf i).toNat)
    case atStart => exact ⟨0, Nat.zero_le _, rfl, Below.refl _ _, rfl⟩
    case round =>
      obtain ⟨k, hk, rfl, hbl, HS⟩ := hrel
      by_cases hlt : k < xs.length
      · have hlt' : k < ys.length := by omega
        obtain ⟨b, off, rfl, hb, hat⟩ := hx.cases.resolve_left (fun e => by simp [e] at hlt)
        obtain ⟨b', off', rfl, hb', hat'⟩ := hy.cases.resolve_left (fun e => by simp [e] at hlt')
        obtain ⟨a1, cap1, c0, hr1⟩ := list_at hat hbl hlt
        obtain ⟨a2, cap2, d0, hr2⟩ := list_at hat' hbl hlt'
        have e0 : ∀ x : Later wr, x.w'.cell? ⟨b, off + k, none⟩ = some (.slice a1 xs[k].length cap1) := keepL c0
        have f0 : ∀ x : Later wr, x.w'.cell? ⟨b', off' + k, none⟩ = some (.slice a2 ys[k].length cap2) := keepL d0
        by_cases he : xs[k] = ys[k]
        · have HT : Hid (xs.take (k + 1) = ys.take (k + 1)) := take_eq_snoc HS.out hlt hlt' he
          have HD := mkHid (decide_eq_true he)
          have hcall : ∀ x : Later wr, Calls Try.prog 60 #[.slice a1 xs[k].length cap1, .slice a2 ys[k].length cap2] x.w' fun e w'' => e = .returned (.bool true) ∧ Below x.w'.heap.size x.w' w'' := fun x =>
            (refsame_any a1 cap1 a2 cap2 _ xs[k] ys[k] (hr1.below x.ok) (hr2.below x.ok)).mono fun e w' ⟨he, hb⟩ => ⟨by rw [he, HD.out], hb⟩
          clear he HS
          go_wp2
          refine wp_region_calm (by kernel_rfl) (by kernel_rfl) ?_
          repeat (go_big_quiet_step (exact Calls.calm_of (hcall _)))
          refine wpQuiet_nil ?_
          rintro _ ⟨x, rfl⟩
          go_wp2
          go_round
          case rel => exact ⟨k + 1, by omega, by go_num, hbl.then x.ok, HT⟩
          case measure => simp [intOf]; omega
        · have HE : Hid (false = decide (xs = ys)) := by
            rw [Hid, decide_eq_false (sameall_ne hlt hlt' he)]
          have HD := mkHid (decide_eq_false he)
          have hcall : ∀ x : Later wr, Calls Try.prog 60 #[.slice a1 xs[k].length cap1, .slice a2 ys[k].length cap2] x.w' fun e w'' => e = .returned (.bool false) ∧ Below x.w'.heap.size x.w' w'' := fun x =>
            (refsame_any a1 cap1 a2 cap2 _ xs[k] ys[k] (hr1.below x.ok) (hr2.below x.ok)).mono fun e w' ⟨he, hb⟩ => ⟨by rw [he, HD.out], hb⟩
          clear he HS
          go_wp2
          refine wp_region_calm (by kernel_rfl) (by kernel_rfl) ?_
          repeat (go_big_quiet_step (exact Calls.calm_of (hcall _)))
          refine wpQuiet_nil ?_
          rintro _ ⟨x, rfl⟩
          go_wp2
          go_ret
          exact ⟨ret_bool HE.out, hbl.then x.ok⟩
      · have HE : Hid (true = decide (xs = ys)) := by
          rw [Hid, decide_eq_true (take_all HS.out (by omega) (by omega))]
        clear HS
        go_wp2
        go_ret
        exact ⟨ret_bool HE.out, hbl⟩
  · have HE : Hid (false = decide (xs = ys)) := by
      rw [Hid, decide_eq_false]; intro e; rw [e] at hlen; exact hlen rfl
    have hne : ((xs.length : Int) != (ys.length : Int)) = true := by simp; omega
    clear hlen
    go_enter Try.func27, Try.ntmps27
    go_wp2
    go_ret
    exact ⟨ret_bool HE.out, Below.refl _ _⟩
end Go.Proofs.Ytnpffificfghpaa
namespace Go.Proofs.Ytnpffificfghpaa
open Go.RowKit

/-- a term as a tree -/
inductive Tm where
  | mk (c : Cel) (args : List Tm)
def Tm.hd : Tm → Cel | .mk c _ => c
def Tm.args : Tm → List Tm | .mk _ ts => ts
mutual
def Tm.flat : Tm → List Cel
  | .mk c ts => c :: flats ts
def flats : List Tm → List Cel
  | [] => []
  | t :: ts => t.flat ++ flats ts
end
mutual
def Tm.ok : Tm → Prop
  | .mk c ts => cellOk c = true ∧ ts.length = ar c ∧ oks ts
def oks : List Tm → Prop
  | [] => True
  | t :: ts => t.ok ∧ oks ts
end
mutual
def Tm.depth : Tm → Nat
  | .mk _ ts => depths ts + 1
def depths : List Tm → Nat
  | [] => 0
  | t :: ts => max t.depth (depths ts)
end
theorem flats_append (a b : List Tm) : flats (a ++ b) = flats a ++ flats b := by
  induction a with
  | nil => simp [flats]
  | cons t a ih => simp [flats, ih]
theorem depths_append (a b : List Tm) : depths (a ++ b) = max (depths a) (depths b) := by
  induction a with
  | nil => simp [depths]
  | cons t a ih => simp [depths, ih, Nat.max_assoc]
theorem oks_append {a b : List Tm} : oks (a ++ b) ↔ oks a ∧ oks b := by
  induction a with
  | nil => simp [oks]
  | cons t a ih => simp [oks, ih, and_assoc]
theorem oks_mem {ts : List Tm} (h : oks ts) : ∀ t ∈ ts, t.ok := by
  induction ts with
  | nil => intro t ht; simp at ht
  | cons t ts ih =>
    intro u hu
    rcases List.mem_cons.1 hu with rfl | hu
    · exact h.1
    · exact ih h.2 u hu
theorem flat_cons (t : Tm) : t.flat = t.hd :: flats t.args := by cases t; rfl
theorem ok_iff (t : Tm) : t.ok ↔ cellOk t.hd = true ∧ t.args.length = ar t.hd ∧ oks t.args := by cases t; rfl
theorem depth_eq (t : Tm) : t.depth = depths t.args + 1 := by cases t; rfl
theorem flat_pos (t : Tm) : 0 < t.flat.length := by rw [flat_cons]; simp

/-- what is skipped is made of terms -/
theorem sk_parse (l : List Cel) : ∀ (m : Nat) (r : List Cel), sk m l = some r → ∃ ts : List Tm, ts.length = m ∧ oks ts ∧ l = flats ts ++ r := by
  induction l with
  | nil =>
    intro m r h
    cases m with
    | zero => simp [sk] at h; subst h; exact ⟨[], rfl, trivial, rfl⟩
    | succ m => simp [sk] at h
  | cons c l ih =>
    intro m r h
    cases m with
    | zero => simp [sk] at h; subst h; exact ⟨[], rfl, trivial, rfl⟩
    | succ m =>
      simp only [sk] at h
      split at h
      · rename_i hc
        obtain ⟨ts, hl, ho, e⟩ := ih _ _ h
        have hsplit : ts = ts.take (ar c) ++ ts.drop (ar c) := (List.take_append_drop _ _).symm
        rw [hsplit] at ho e
        rw [oks_append] at ho
        refine ⟨.mk c (ts.take (ar c)) :: ts.drop (ar c), by simp; omega, ⟨⟨hc, by simp; omega, ho.1⟩, ho.2⟩, ?_⟩
        rw [e, flats_append]
        simp [flats, Tm.flat]
      · cases h
mutual
theorem sk_flat : ∀ (t : Tm), t.ok → ∀ (m : Nat) (r : List Cel), sk (m + 1) (t.flat ++ r) = sk m r
  | .mk c ts, h, m, r => by
    obtain ⟨h1, h2, h3⟩ := h
    simp only [Tm.flat, List.cons_append, sk, h1, if_true]
    rw [← h2, Nat.add_comm, sk_flats ts h3]
theorem sk_flats : ∀ (ts : List Tm), oks ts → ∀ (m : Nat) (r : List Cel), sk (ts.length + m) (flats ts ++ r) = sk m r
  | [], _, m, r => by simp [flats]
  | t :: ts, h, m, r => by
    obtain ⟨h1, h2⟩ := h
    simp only [flats, List.append_assoc, List.length_cons]
    rw [show ts.length + 1 + m = ts.length + m + 1 by omega, sk_flat t h1, sk_flats ts h2]
end
theorem right_flat {t : Tm} (h : t.ok) (hl : t.flat.length ≤ 200) : rightB t.flat = true := by
  have h' := (ok_iff t).1 h
  rw [flat_cons] at hl ⊢
  refine right_of_sk h'.1 ?_ hl
  have := sk_flats t.args h'.2.2 0 []
  rw [List.append_nil, Nat.add_zero, h'.2.1] at this
  rw [this]; rfl
theorem right_tm {xs : List Cel} (h : rightB xs = true) : ∃ t : Tm, t.ok ∧ xs = t.flat ∧ xs.length ≤ 200 := by
  obtain ⟨c, l, rfl, hc, hs, hl⟩ := right_sk h
  obtain ⟨ts, h1, h2, h3⟩ := sk_parse l _ _ hs
  exact ⟨.mk c ts, ⟨hc, h1, h2⟩, by rw [h3]; simp [Tm.flat], hl⟩

/-- where the arguments lie -/
theorem after_flat {t : Tm} (h : t.ok) {j : Nat} (hj : j ≤ t.args.length) : afterI t.flat 1 j = 1 + (flats (t.args.take j)).length := by
  obtain ⟨_, _, h3⟩ := (ok_iff t).1 h
  have hs : t.args = t.args.take j ++ t.args.drop j := (List.take_append_drop _ _).symm
  have ho : oks (t.args.take j) := by rw [hs] at h3; exact (oks_append.1 h3).1
  have e := sk_flats (t.args.take j) ho 0 (flats (t.args.drop j))
  rw [Nat.add_zero, List.length_take, Nat.min_eq_left hj, ← flats_append, ← hs] at e
  unfold afterI
  rw [flat_cons, List.drop_one, List.tail_cons, e]
  simp only [sk, List.length_cons]
  have := congrArg List.length (congrArg flats hs)
  rw [flats_append, List.length_append] at this
  omega
theorem aN_flat {t : Tm} (h : t.ok) {j : Nat} (hj : j ≤ t.args.length) : aN t.flat j = 1 + (flats (t.args.take j)).length := by
  unfold aN; rw [after_flat h hj]; omega
theorem part_flat {t : Tm} (h : t.ok) {j : Nat} (hj : j < t.args.length) : partJ t.flat j = t.args[j].flat := by
  unfold partJ
  rw [aN_flat h (Nat.le_of_lt hj), aN_flat h hj]
  have hs : t.args = t.args.take j ++ (t.args[j] :: t.args.drop (j + 1)) := by
    rw [← List.drop_eq_getElem_cons hj, List.take_append_drop]
  have hf : flats t.args = flats (t.args.take j) ++ (t.args[j].flat ++ flats (t.args.drop (j + 1))) := by
    conv => lhs; rw [hs]
    rw [flats_append]; rfl
  have ht : flats (t.args.take (j + 1)) = flats (t.args.take j) ++ t.args[j].flat := by
    rw [List.take_succ_eq_append_getElem hj, flats_append]; simp [flats]
  rw [ht, flat_cons t, hf, Nat.add_comm 1 (flats (t.args.take j)).length, List.drop_succ_cons, List.drop_left, List.length_append]
  rw [show 1 + ((flats (t.args.take j)).length + t.args[j].flat.length) - ((flats (t.args.take j)).length + 1) = t.args[j].flat.length by omega]
  exact List.take_left
theorem ar0_flat {t : Tm} (h : t.ok) : ar0 t.flat = t.args.length := by
  rw [flat_cons]; exact ((ok_iff t).1 h).2.1.symm
theorem parts_flat {t : Tm} (h : t.ok) : partsL t.flat = t.args.map Tm.flat := by
  unfold partsL
  rw [ar0_flat h]
  refine List.ext_getElem (by simp) (fun j h1 h2 => ?_)
  simp at h1
  simp [part_flat h h1]
theorem flat_arg_lt {t : Tm} {u : Tm} (hu : u ∈ t.args) : u.flat.length < t.flat.length := by
  rw [flat_cons t]
  have : ∀ ts : List Tm, u ∈ ts → u.flat.length ≤ (flats ts).length := by
    intro ts h
    induction ts with
    | nil => simp at h
    | cons v ts ih =>
      simp only [flats, List.length_append]
      rcases List.mem_cons.1 h with e | h
      · rw [e]; omega
      · have := ih h; omega
  have := this _ hu
  simp only [List.length_cons]; omega
mutual
theorem depth_le : ∀ t : Tm, t.depth ≤ t.flat.length
  | .mk c ts => by
    have := depths_le ts
    simp only [Tm.depth, Tm.flat, List.length_cons]; omega
theorem depths_le : ∀ ts : List Tm, depths ts ≤ (flats ts).length
  | [] => by simp [depths]
  | t :: ts => by
    have h1 := depth_le t
    have h2 := depths_le ts
    simp only [depths, flats, List.length_append]; omega
end
theorem depth_pos (t : Tm) : 1 ≤ t.depth := by rw [depth_eq]; omega
end Go.Proofs.Ytnpffificfghpaa
namespace Go.Proofs.Ytnpffificfghpaa
open Go.RowKit

theorem grown_trans {a b c : World} {r : Option Nat} (h : a.grownBy b r) (k : b.grownBy c r) : a.grownBy c r :=
  ⟨k.os.trans h.os, k.tape.trans h.tape, k.output.trans h.output, Nat.le_trans h.size k.size, fun i hi hn => (k.block i (Nat.lt_of_lt_of_le hi h.size) hn).trans (h.block i hi hn)⟩
theorem grown_set (w : World) (g o : Nat) (v : Value) : w.grownBy (w.setCell ⟨g, o, none⟩ v) (some g) :=
  ⟨rfl, rfl, rfl, by simp [World.setCell], fun k _ hn => Below.heap_setCell w ⟨g, o, none⟩ v k (fun e => hn (by rw [e]))⟩
theorem max_nat (a b : Nat) : ((max a b : Nat) : Int) = if (a : Int) < b then (b : Int) else a := by omega

theorem drop_arg {xs r : List Cel} {i : Nat} {t : Tm} (h : xs.drop i = t.flat ++ r) {k : Nat} (hk : k < t.args.length) : xs.drop (i + 1 + (flats (t.args.take k)).length) = t.args[k].flat ++ (flats (t.args.drop (k + 1)) ++ r) := by
  have hs : t.args = t.args.take k ++ (t.args[k] :: t.args.drop (k + 1)) := by
    rw [← List.drop_eq_getElem_cons hk, List.take_append_drop]
  have hf : flats t.args = flats (t.args.take k) ++ (t.args[k].flat ++ flats (t.args.drop (k + 1))) := by
    conv => lhs; rw [hs]
    rw [flats_append]; rfl
  rw [Nat.add_assoc, ← List.drop_drop, h, flat_cons t, hf, Nat.add_comm 1, List.cons_append, List.drop_succ_cons, List.append_assoc, List.drop_left, List.append_assoc]
theorem depths_take (t : Tm) {k : Nat} (hk : k < t.args.length) : depths (t.args.take (k + 1)) = max (depths (t.args.take k)) t.args[k].depth := by
  rw [List.take_succ_eq_append_getElem hk, depths_append]; simp [depths]
theorem flats_take (t : Tm) {k : Nat} (hk : k < t.args.length) : (flats (t.args.take (k + 1))).length = (flats (t.args.take k)).length + t.args[k].flat.length := by
  rw [List.take_succ_eq_append_getElem hk, flats_append]; simp [flats]
theorem depths_small (t : Tm) (k : Nat) (h : t.flat.length ≤ 1000) : depths (t.args.take k) ≤ 1000 := by
  have h1 := depths_le (t.args.take k)
  have hs : t.args = t.args.take k ++ t.args.drop k := (List.take_append_drop _ _).symm
  have := congrArg List.length (congrArg flats hs)
  rw [flats_append, List.length_append] at this
  rw [flat_cons t, List.length_cons] at h
  omega

theorem args_le6 {t : Tm} (h : t.ok) : t.args.length ≤ 6 := by
  have h := (ok_iff t).1 h
  rw [h.2.1]; exact ar_le _ h.1

set_option maxHeartbeats 1600000 in
theorem depthc_any (xs : List Cel) (a : Option Addr) (cap b0 b1 b2 : Nat) (_h01 : ¬ b0 = b1) (_h10 : ¬ b1 = b0) (_h12 : ¬ b1 = b2) (_h21 : ¬ b2 = b1) (hl : xs.length ≤ 200) (n : Nat) : ∀ (t : Tm) (i : Nat) (r : List Cel) (w : World), t.flat.length ≤ n → t.ok → xs.drop i = t.flat ++ r →
    Row (hide (some b1) w) a cap xs → (hide (some b1) w).cell? ⟨b0, 0, none⟩ = some (.slice a xs.length cap) → w.heap[b1]? = some (.cells #[.int .i64 i] 3 (0, 0)) →
    (hide (some b1) w).cell? ⟨b2, 0, none⟩ = some (.func (.func 196) #[] #[.pointer (some ⟨b0, 0, none⟩), .pointer (some ⟨b1, 0, none⟩), .pointer (some ⟨b2, 0, none⟩)]) →
    Calls Try.prog 196 #[.pointer (some ⟨b0, 0, none⟩), .pointer (some ⟨b1, 0, none⟩), .pointer (some ⟨b2, 0, none⟩)] w fun e w' => e = .returned (.int .i64 t.depth) ∧ w.grownBy w' (some b1) ∧ w'.heap[b1]? = some (.cells #[.int .i64 ((i + t.flat.length : Nat) : Int)] 3 (0, 0)) := by
  induction n with
  | zero => intro t i r w hn; have := flat_pos t; omega
  | succ n ih =>
    intro t i r w hn ht hd hR h0 h1 h2
    have hm := hR.max
    have hle := hR.le
    have hlen := congrArg List.length hd
    rw [List.length_drop, List.length_append] at hlen
    have hfp := flat_pos t
    have hi : i < xs.length := by omega
    have hx : xs[i] = t.hd := by
      have := (List.drop_eq_getElem_cons hi).symm.trans (hd.trans (by rw [flat_cons, List.cons_append]))
      exact (List.cons.inj this).1
    obtain ⟨b, off, rfl, hb, hat⟩ := hR.cases.resolve_left (fun e => by simp [e] at hi)
    obtain ⟨c0, c1, c2, hf⟩ := (cel_at hat (Below.refl _ _) hi).keeps (hide_keeps _ _)
    have k0 := hide_keeps _ _ _ _ _ h0
    have k2 := hide_keeps _ _ _ _ _ h2
    have k1 : w.cell? ⟨b1, 0, none⟩ = some (.int .i64 i) := by simp [World.cell?, h1]
    have hfz : w.frozen? ⟨b1, 0, none⟩ = false := by simp [World.frozen?, h1]
    have hlt1 := cell_lt k1
    have hargs := args_le6 ht
    have hd0 := depths_small t t.args.length (by omega)
    rw [List.take_length] at hd0
    have hH := mkHid h1
    have HA : Hid (arI t.hd = t.args.length) := by
      have h := (ok_iff t).1 ht
      rw [Hid, arI_ar h.1, h.2.1]
    clear h1
    go_enter Try.func196, Try.ntmps196
    go_wp2_with (go_at_call 197; refine (arguments_any t.hd _).mono ?_; rintro e w1 ⟨rfl, hb1⟩; rw [HA.out])
    have g1 : w.grownBy w1 (some b1) := grown_trans (grown_trans (grown_set w b1 0 _) (World.grownBy_alloc _ _ _)) (below_grown hb1 _)
    have p1 : Hid (w1.heap[b1]? = some (.cells #[.int .i64 ((i + 1 + (flats (t.args.take 0)).length : Nat) : Int)] 3 (0, 0))) := by
      have q := one_setCell (u := .int .i64 ((i : Int) + 1)) hH.out
      have q2 := (Below.heap_alloc _ (.cells #[.int .i64 t.hd.k, .string t.hd.s, .int .i64 t.hd.n] 93) b1 (lt_of_block q)).trans q
      exact (hb1.block b1 (lt_of_block q2)).trans q2
    clear hH k0 k1 k2 hfz c0 c1 c2
    go_loopw [5, 14] (fun m j wr => ∃ (k : Nat), k ≤ t.args.length ∧ j = .int .i64 k ∧ m = .int .i64 (depths (t.args.take k)) ∧ w.grownBy wr (some b1) ∧ Hid (wr.heap[b1]? = some (.cells #[.int .i64 ((i + 1 + (flats (t.args.take k)).length : Nat) : Int)] 3 (0, 0)))) (fun m j wr => t.args.length - (intOf j).toNat)
    case atStart => exact ⟨0, Nat.zero_le _, rfl, rfl, g1, p1⟩
    case round =>
      obtain ⟨k, hk, rfl, rfl, hg, hp⟩ := hrel
      have hG := grown_keeps hg
      have h0' := hG _ _ _ h0
      have h2' := hG _ _ _ h2
      have hR' := hR.keeps hG
      have q2 := hide_keeps _ _ _ _ _ h2'
      have hd1 := depths_small t k (by omega)
      by_cases hlt : k < t.args.length
      · have hsm := flat_arg_lt (List.getElem_mem hlt)
        have hok := oks_mem ((ok_iff t).1 ht).2.2 _ (List.getElem_mem hlt)
        have hda := drop_arg hd hlt
        have hT := mkHid (depths_take t hlt)
        have hF := mkHid (flats_take t hlt)
        have hd2 := depth_le t.args[k]
        by_cases hmx : depths (t.args.take k) < t.args[k].depth
        · have hT' : Hid (depths (t.args.take (k + 1)) = t.args[k].depth) := by rw [Hid, hT.out]; omega
          go_wp2_with (go_at_call 196; refine (ih t.args[k] _ _ _ (by omega) hok hda hR' h0' hp.out h2').mono ?_; rintro e w3 ⟨rfl, hg3, hp3⟩; have hp4 := mkHid hp3; clear hp3)
          go_round
          case rel => exact ⟨k + 1, by omega, by go_num, by rw [hT'.out], grown_trans hg hg3, by rw [Hid, hp4.out, hF.out]; congr 5; omega⟩
          case measure => simp [intOf]; omega
        · have hT' : Hid (depths (t.args.take (k + 1)) = depths (t.args.take k)) := by rw [Hid, hT.out]; omega
          go_wp2_with (go_at_call 196; refine (ih t.args[k] _ _ _ (by omega) hok hda hR' h0' hp.out h2').mono ?_; rintro e w3 ⟨rfl, hg3, hp3⟩; have hp4 := mkHid hp3; clear hp3)
          go_round
          case rel => exact ⟨k + 1, by omega, by go_num, by rw [hT'.out], grown_trans hg hg3, by rw [Hid, hp4.out, hF.out]; congr 5; omega⟩
          case measure => simp [intOf]; omega
      · obtain rfl : k = t.args.length := by omega
        have hD : Hid (((depths t.args : Nat) : Int) + 1 = t.depth) := by rw [Hid, depth_eq]; omega
        have hE : Hid (i + 1 + (flats (t.args.take t.args.length)).length = i + t.flat.length) := by rw [Hid, List.take_length, flat_cons t, List.length_cons]; omega
        go_wp2
        go_ret
        exact ⟨ret_int hD.out, hg, by rw [← hE.out]; exact hp.out⟩
end Go.Proofs.Ytnpffificfghpaa
namespace Go.Proofs.Ytnpffificfghpaa
open Go.RowKit

set_option maxHeartbeats 800000 in
theorem depth_any (t : Tm) (ht : t.ok) (h200 : t.flat.length ≤ 200) (a : Option Addr) (cap : Nat) (w : World) (hr : Row w a cap t.flat) :
    Calls Try.prog 141 #[.slice a t.flat.length cap] w fun e w' => e = .returned (.int .i64 t.depth) ∧ Below w.heap.size w w' := by
  have hmf : ∀ (fn : Fn) (first cap : Array Value) (w : World), (Instr.makeFunc fn first cap).run Try.prog w = .ok (.func fn first cap) w := fun _ _ _ _ => rfl
  have hm := hr.max
  have hle := hr.le
  have HR := mkHid (right_flat ht h200)
  have hb0 := (Below.refl w.heap.size w).new (.cells #[.slice a t.flat.length cap] 30)
  go_enter Try.func141, Try.ntmps141
  go_wp2_with (first
    | (go_at_call 107; refine (right_any _ cap _ t.flat (hr.below hb0)).mono ?_; rintro e w1 ⟨rfl, hb1⟩; rw [HR.out]; have d0 : w1.cell? ⟨w.heap.size, 0, none⟩ = some (.slice a t.flat.length cap) := keep (by go_simp) hb1; have hsz := hb1.size; simp only [World.size_alloc] at hsz))
  have hl0 := cell_lt d0
  refine (depthc_any t.flat a cap w.heap.size w1.heap.size (w1.heap.size + 1) (by omega) (by omega) (by omega) (by omega) h200 t.flat.length t 0 [] _ (Nat.le_refl _) ht (by simp) ?_ ?_ ?_ ?_).mono ?_
  · exact (hr.below (hb0.then hb1)).keeps (fresh_keeps (Keeps.of (((Below.refl _ _).new _).new _)) (Nat.le_refl _))
  · exact fresh_keeps (Keeps.of (((Below.refl _ _).new _).new _)) (Nat.le_refl _) _ _ _ d0
  · exact (Below.heap_alloc _ _ _ (by simp)).trans (heap_alloc_new w1 _)
  · exact hide_of_ne (by omega) (by go_simp)
  rintro e w2 ⟨rfl, hg, _⟩
  go_wp2
  go_ret
  have hb4 := ((hb0.then hb1).new (.cells #[.int .i64 0] 3)).new (.cells #[.func (.func 196) #[] #[.pointer (some ⟨w.heap.size, 0, none⟩), .pointer (some ⟨w1.heap.size, 0, none⟩), .pointer (some ⟨w1.heap.size + 1, 0, none⟩)]] 229)
  exact ⟨rfl, hb4.trans (grown_at hg hb4.size (by omega))⟩

set_option maxHeartbeats 800000 in
theorem refdepth_any (n : Nat) : ∀ (t : Tm) (a : Option Addr) (cap : Nat) (w : World), t.flat.length ≤ n → t.ok → t.flat.length ≤ 200 → Row w a cap t.flat →
    Calls Try.prog 83 #[.slice a t.flat.length cap] w fun e w' => e = .returned (.int .i64 t.depth) ∧ Below w.heap.size w w' := by
  induction n with
  | zero => intro t a cap w hn; have := flat_pos t; omega
  | succ n ih =>
    intro t a cap w hn ht h200 hr
    have HR := mkHid (right_flat ht h200)
    have HP : Hid (partsL t.flat = t.args.map Tm.flat) := parts_flat ht
    have hargs := args_le6 ht
    have hd0 := depths_small t t.args.length (by omega)
    rw [List.take_length] at hd0
    go_enter Try.func83, Try.ntmps83
    go_wp2_with (go_at_call 158; refine (refparts_any a cap _ t.flat hr HR.out).mono ?_; rintro e w1 ⟨a', cap', rfl, hr1, hb1⟩; rw [HP.out] at hr1 ⊢; rw [List.length_map])
    go_loopw [4, 5] (fun m j wr => ∃ (k : Nat), k ≤ t.args.length ∧ j = .int .i64 k ∧ m = .int .i64 (depths (t.args.take k)) ∧ Below w1.heap.size w1 wr) (fun m j wr => t.args.length - (intOf j).toNat)
    case atStart => exact ⟨0, Nat.zero_le _, rfl, rfl, Below.refl _ _⟩
    case round =>
      obtain ⟨k, hk, rfl, rfl, hbl⟩ := hrel
      have hd1 := depths_small t k (by omega)
      by_cases hlt : k < t.args.length
      · have hlt' : k < (t.args.map Tm.flat).length := by simpa using hlt
        obtain ⟨b, off, rfl, hb, hat⟩ := hr1.cases.resolve_left (fun e => by rw [e] at hlt'; simp at hlt')
        obtain ⟨a1, cap1, c0, hr2⟩ := list_at hat hbl hlt'
        rw [List.getElem_map] at c0 hr2
        have hsm := flat_arg_lt (List.getElem_mem hlt)
        have hok := oks_mem ((ok_iff t).1 ht).2.2 _ (List.getElem_mem hlt)
        have hT := mkHid (depths_take t hlt)
        have hd2 := depth_le t.args[k]
        by_cases hmx : depths (t.args.take k) < t.args[k].depth
        · have hT' : Hid (depths (t.args.take (k + 1)) = t.args[k].depth) := by rw [Hid, hT.out]; omega
          go_wp2_with (go_at_call 83; refine (ih t.args[k] _ _ _ (by omega) hok (by omega) hr2).mono ?_; rintro e w3 ⟨rfl, hb3⟩)
          go_round
          case rel => exact ⟨k + 1, by omega, by go_num, by rw [hT'.out], hbl.then hb3⟩
          case measure => simp [intOf]; omega
        · have hT' : Hid (depths (t.args.take (k + 1)) = depths (t.args.take k)) := by rw [Hid, hT.out]; omega
          go_wp2_with (go_at_call 83; refine (ih t.args[k] _ _ _ (by omega) hok (by omega) hr2).mono ?_; rintro e w3 ⟨rfl, hb3⟩)
          go_round
          case rel => exact ⟨k + 1, by omega, by go_num, by rw [hT'.out], hbl.then hb3⟩
          case measure => simp [intOf]; omega
      · obtain rfl : k = t.args.length := by omega
        have hD : Hid (((depths t.args : Nat) : Int) + 1 = t.depth) := by rw [Hid, depth_eq]; omega
        go_wp2
        go_ret
        exact ⟨ret_int hD.out, hb1.then hbl⟩
end Go.Proofs.Ytnpffificfghpaa
namespace Go.Proofs.Ytnpffificfghpaa
open Go.RowKit

/-- cells changed one by one: the first k of them -/
def upTo (f : Cel → Cel) (xs : List Cel) (k : Nat) : List Cel := (xs.take k).map f ++ xs.drop k
theorem upTo_length (f : Cel → Cel) (xs : List Cel) (k : Nat) : (upTo f xs k).length = xs.length := by
  simp [upTo]; omega
theorem upTo_zero (f : Cel → Cel) (xs : List Cel) : upTo f xs 0 = xs := by simp [upTo]
theorem upTo_all (f : Cel → Cel) (xs : List Cel) {k : Nat} (h : xs.length ≤ k) : upTo f xs k = xs.map f := by
  simp [upTo, List.take_of_length_le h, List.drop_eq_nil_of_le h]
theorem upTo_at (f : Cel → Cel) (xs : List Cel) {k : Nat} (h : k < xs.length) : (upTo f xs k)[k]? = some xs[k] := by
  unfold upTo
  rw [List.getElem?_append_right (by simp; omega), List.length_map, List.length_take, Nat.min_eq_left (Nat.le_of_lt h), Nat.sub_self, List.getElem?_drop]
  simp
theorem upTo_succ (f : Cel → Cel) (xs : List Cel) {k : Nat} (h : k < xs.length) : upTo f xs (k + 1) = (upTo f xs k).set k (f xs[k]) := by
  unfold upTo
  rw [List.take_succ_eq_append_getElem h, List.map_append, List.drop_eq_getElem_cons h, List.append_assoc]
  rw [List.set_append_right _ _ (by simp; omega), List.length_map, List.length_take, Nat.min_eq_left (Nat.le_of_lt h), Nat.sub_self]
  rfl
theorem upTo_same (f : Cel → Cel) (xs : List Cel) {k : Nat} (h : k < xs.length) (e : f xs[k] = xs[k]) : upTo f xs (k + 1) = upTo f xs k := by
  rw [upTo_succ f xs h, e]
  refine List.ext_getElem? fun i => ?_
  rw [List.getElem?_set]
  split
  · rename_i hi
    subst hi
    rw [if_pos (by rw [upTo_length]; exact h), upTo_at f xs h]
  · rfl
theorem flat_set (xs : List Cel) (i : Nat) (hi : i < xs.length) (m : Int) : (flat xs).set (i * 3 + 2) (.int .i64 m) = flat (xs.set i { xs[i] with n := m }) := by
  induction xs generalizing i with
  | nil => simp at hi
  | cons c xs ih =>
    cases i with
    | zero => simp [flat]
    | succ i =>
      have := ih i (by simpa using hi)
      have hf : flat (c :: xs) = .int .i64 c.k :: .string c.s :: .int .i64 c.n :: flat xs := rfl
      rw [hf, show (i + 1) * 3 + 2 = i * 3 + 2 + 1 + 1 + 1 by omega]
      simp only [List.set_cons_succ, List.getElem_cons_succ]
      rw [this]; rfl
theorem wrap64_range (n : Int) : -9223372036854775808 ≤ wrap64 n ∧ wrap64 n ≤ 9223372036854775807 := by
  unfold wrap64; omega
/-- one variable shifted -/
def shiftC (d : Int) (c : Cel) : Cel := if c.k = 1 then { c with n := wrap64 (c.n + d) } else c
def shiftL (xs : List Cel) (d : Int) : List Cel := if rightB (xs.map (shiftC d)) then xs.map (shiftC d) else []
theorem shiftC_fit {d : Int} {c : Cel} (h : c.fit) : (shiftC d c).fit := by
  unfold shiftC
  have hw := wrap64_range (c.n + d)
  split
  · exact ⟨h.k1, h.k2, hw.1, hw.2, h.s⟩
  · exact h
theorem upTo_fit {f : Cel → Cel} {xs : List Cel} {k : Nat} (hf : ∀ c ∈ xs, c.fit) (h : ∀ c : Cel, c.fit → (f c).fit) : ∀ c ∈ upTo f xs k, c.fit := by
  intro c hc
  unfold upTo at hc
  rcases List.mem_append.1 hc with h1 | h1
  · obtain ⟨d, hd, rfl⟩ := List.mem_map.1 h1
    exact h d (hf d (List.mem_of_mem_take hd))
  · exact hf c (List.mem_of_mem_drop h1)
/-- a row of the call's own that holds something -/
theorem own_form {w : World} {B e size : Nat} {v : Value} {n : Nat} {vs : List Value} (h : w.ownsRow B e size v n vs) (hn : 0 < n) :
    ∃ g cap, v = .slice (some ⟨g, 0, none⟩) n cap ∧ B ≤ g ∧ g < w.heap.size ∧ n ≤ cap ∧ cap ≤ 9223372036854775807 := by
  rcases h.2 with ⟨_, h0⟩ | ⟨g, cap, cur, rfl, hb, hg, hc, hm, _⟩
  · omega
  · exact ⟨g, cap, rfl, hb, (Array.getElem?_eq_some_iff.1 hg).1, hc, by unfold maxLen at hm; omega⟩
theorem own_cel {w : World} {B e g n cap : Nat} {ys : List Cel} (h : w.ownsRow B e 3 (.slice (some ⟨g, 0, none⟩) n cap) n (flat ys)) {k : Nat} {c : Cel} (hc : ys[k]? = some c) :
    w.cell? ⟨g, k * 3, none⟩ = some (.int .i64 c.k) ∧ w.cell? ⟨g, k * 3 + 1, none⟩ = some (.string c.s) ∧ w.cell? ⟨g, k * 3 + 2, none⟩ = some (.int .i64 c.n) := by
  have hl : k < ys.length := (List.getElem?_eq_some_iff.1 hc).1
  have he : ys[k] = c := by rw [List.getElem?_eq_getElem hl] at hc; exact Option.some.inj hc
  obtain ⟨f0, f1, f2⟩ := flat_at ys k hl
  rw [he] at f0 f1 f2
  exact ⟨own_cells h _ _ f0, own_cells h _ _ f1, own_cells h _ _ f2⟩
/-- one number stored into a row of cells -/
theorem own_store {w : World} {B e g n cap : Nat} {f : Cel → Cel} {xs : List Cel} {k : Nat} (h : w.ownsRow B e 3 (.slice (some ⟨g, 0, none⟩) n cap) n (flat (upTo f xs k))) (hk : k < xs.length) {m : Int} (hf : f xs[k] = ⟨xs[k].k, xs[k].s, m⟩) :
    (w.setCell ⟨g, k * 3 + 2, none⟩ (.int .i64 m)).ownsRow B e 3 (.slice (some ⟨g, 0, none⟩) n cap) n (flat (upTo f xs (k + 1))) := by
  have := (h.stored (k * 3 + 2) (.int .i64 m)).1
  have hl : k < (upTo f xs k).length := by rw [upTo_length]; exact hk
  have he : (upTo f xs k)[k] = xs[k] := by
    have := upTo_at f xs hk; rw [List.getElem?_eq_getElem hl] at this; exact Option.some.inj this
  rw [flat_set _ _ hl, he] at this
  have hf' : f xs[k] = { xs[k] with n := m } := hf
  rw [← hf', ← upTo_succ f xs hk] at this
  exact this
theorem own_free {w : World} {B e size g n cap : Nat} {vs : List Value} (h : w.ownsRow B e size (.slice (some ⟨g, 0, none⟩) n cap) n vs) (j : Nat) : w.frozen? ⟨g, j, none⟩ = false := h.frozenAt j
end Go.Proofs.Ytnpffificfghpaa
namespace Go.Proofs.Ytnpffificfghpaa
open Go.RowKit

end Go.Proofs.Ytnpffificfghpaa
