import Derived.Test.YtabjghmfjoefpaaDoorRows
import Derived.WalkKit
import Derived.Below
import Derived.BigQuiet
import Derived.WalkSpells
import Derived.Laws.AppendOwnNone
import Derived.Lib.Builder
import Derived.Lib.Strings
import Derived.Lib.Slices
import Derived.Lib.Walk
import Derived.Lib.AppendStr
import Derived.Lib.UnsafeStr
import Derived.Laws.Externs
import Derived.Laws.IdiomCopy
import Derived.Laws.BitsLemmas
import Derived.Shelf.RegionOpenPlain
import Derived.Laws.EntriesVeiled
namespace Go.RowKit
/-- chains of Below -/
theorem Below.then {a b c : World} (h : Below a.heap.size a b) (k : Below b.heap.size b c) : Below a.heap.size a c :=
  h.trans (k.mono h.size)
theorem Below.new {a b : World} (h : Below a.heap.size a b) (o : Obj) : Below a.heap.size a (b.alloc o) := h.alloc h.size o
end Go.RowKit
namespace Go.Proofs.YtabjghmfjoefpaaDoor
open Go.RowKit

theorem mkHid {p : Prop} (h : p) : Hid p := h
theorem ret_bool {a b : Bool} (h : a = b) : Ending.returned (.bool a) = .returned (.bool b) := by rw [h]
theorem ret_int {k : IntKind} {a b : Int} (h : a = b) : Ending.returned (.int k a) = .returned (.int k b) := by rw [h]

theorem cell_lt {w : World} {b o : Nat} {v : Value} (h : w.cell? ⟨b, o, none⟩ = some v) : b < w.heap.size :=
  World.block_lt_of_cell? w ⟨b, o, none⟩ h
/-- a cell that was there reads as it did -/
theorem keep {w w' : World} {b o : Nat} {v : Value} (h : w.cell? ⟨b, o, none⟩ = some v) (hb : Below w.heap.size w w') : w'.cell? ⟨b, o, none⟩ = some v :=
  (hb.cell (p := ⟨b, o, none⟩) (cell_lt h)).trans h
/-- all cells that could be read read as they did -/
def Keeps (w w' : World) : Prop := ∀ b o v, w.cell? ⟨b, o, none⟩ = some v → w'.cell? ⟨b, o, none⟩ = some v
theorem Keeps.of {w w' : World} (h : Below w.heap.size w w') : Keeps w w' := fun _ _ _ hc => keep hc h
theorem Keeps.refl (w : World) : Keeps w w := fun _ _ _ h => h
theorem Keeps.trans {a b c : World} (h : Keeps a b) (k : Keeps b c) : Keeps a c := fun _ _ _ hc => k _ _ _ (h _ _ _ hc)
/-- the world without one block -/
def hide (r : Option Nat) (w : World) : World := match r with
  | none => w
  | some g => { w with heap := w.heap.setIfInBounds g (.cells #[] 0) }
theorem hide_heap (g : Nat) (w : World) (b : Nat) (h : b ≠ g) : (hide (some g) w).heap[b]? = w.heap[b]? := by
  simp [hide, Ne.symm h]
theorem hide_cell {g : Nat} {w : World} {b o : Nat} {v : Value} (h : (hide (some g) w).cell? ⟨b, o, none⟩ = some v) : b ≠ g ∧ w.cell? ⟨b, o, none⟩ = some v := by
  by_cases hb : b = g
  · subst hb
    simp only [World.cell?, hide, Array.getElem?_setIfInBounds] at h
    by_cases hs : b < w.heap.size <;> simp [hs] at h
  · refine ⟨hb, ?_⟩
    rwa [World.cell?, hide_heap g w b hb] at h
theorem hide_keeps (r : Option Nat) (w : World) : Keeps (hide r w) w := by
  cases r with
  | none => exact Keeps.refl _
  | some g => exact fun b o v h => (hide_cell h).2
theorem hide_of_ne {g : Nat} {w : World} {b o : Nat} {v : Value} (hb : b ≠ g) (h : w.cell? ⟨b, o, none⟩ = some v) : (hide (some g) w).cell? ⟨b, o, none⟩ = some v := by
  rwa [World.cell?, hide_heap g w b hb]
theorem grown_keeps {w w' : World} {r : Option Nat} (h : w.grownBy w' r) : Keeps (hide r w) (hide r w') := by
  intro b o v hc
  cases r with
  | none => exact (World.cell?_of_block (w := w) (a := ⟨b, o, none⟩) (h.block b (cell_lt hc) (by simp))).trans hc
  | some g =>
    obtain ⟨hb, hc'⟩ := hide_cell hc
    exact hide_of_ne hb ((World.cell?_of_block (w := w) (a := ⟨b, o, none⟩) (h.block b (cell_lt hc') (by simp; exact hb))).trans hc')
/-- what was there before a block was made is read without it -/
theorem fresh_keeps {w w' : World} {g : Nat} (h : Keeps w w') (hg : w.heap.size ≤ g) : Keeps w (hide (some g) w') := by
  intro b o v hc
  have := cell_lt hc
  exact hide_of_ne (by omega) (h _ _ _ hc)

/-- data of a kind, laid at a place of memory -/
class Rep (α : Type) where
  sz : Nat
  E : World → Nat → Nat → α → Prop
  mono : ∀ {w w' : World} {b o : Nat} {x : α}, E w b o x → Keeps w w' → E w' b o x
  lt : ∀ {w : World} {b o : Nat} {x : α}, E w b o x → b < w.heap.size

/-- a slice reads as a list -/
structure Row {α : Type} [Rep α] (w : World) (a : Option Addr) (cap : Nat) (xs : List α) : Prop where
  le : xs.length ≤ cap
  max : cap ≤ 9223372036854775807
  nil : a = none → cap = 0
  at_ : ∀ i x, xs[i]? = some x → ∃ b off, a = some ⟨b, off, none⟩ ∧ Rep.E w b (off + i * Rep.sz α) x

section
variable {α : Type} [Rep α]
theorem Row.keeps {w w' : World} {a : Option Addr} {cap : Nat} {xs : List α} (h : Row w a cap xs) (hb : Keeps w w') : Row w' a cap xs :=
  ⟨h.le, h.max, h.nil, fun i c hi => let ⟨b, off, e, hc⟩ := h.at_ i c hi; ⟨b, off, e, Rep.mono hc hb⟩⟩
theorem Row.below {w w' : World} {a : Option Addr} {cap : Nat} {xs : List α} (h : Row w a cap xs) (hb : Below w.heap.size w w') : Row w' a cap xs :=
  h.keeps (Keeps.of hb)
/-- empty, or at a block -/
theorem Row.cases {w : World} {a : Option Addr} {cap : Nat} {xs : List α} (h : Row w a cap xs) :
    xs = [] ∨ ∃ b off, a = some ⟨b, off, none⟩ ∧ b < w.heap.size ∧ ∀ i (hi : i < xs.length), Rep.E w b (off + i * Rep.sz α) xs[i] := by
  by_cases hx : xs = []
  · exact .inl hx
  · right
    have h0 : 0 < xs.length := List.length_pos_iff.2 hx
    obtain ⟨b, off, e, hc⟩ := h.at_ 0 xs[0] (List.getElem?_eq_getElem h0)
    refine ⟨b, off, e, Rep.lt hc, fun i hi => ?_⟩
    obtain ⟨b', off', e', hc'⟩ := h.at_ i xs[i] (List.getElem?_eq_getElem hi)
    rw [e] at e'
    simp at e'
    obtain ⟨rfl, rfl⟩ := e'
    exact hc'
theorem Row.empty (w : World) (a : Option Addr) (cap : Nat) (h : cap ≤ 9223372036854775807) (hn : a = none → cap = 0) : Row w a cap ([] : List α) :=
  ⟨Nat.zero_le _, h, hn, fun i x hi => by simp at hi⟩
end

structure IntE (w : World) (b o : Nat) (n : Int) : Prop where
  c : w.cell? ⟨b, o, none⟩ = some (.int .i64 n)
  lo : -9223372036854775808 ≤ n
  hi : n ≤ 9223372036854775807
instance : Rep Int where
  sz := 1
  E := IntE
  mono h hb := ⟨hb _ _ _ h.c, h.lo, h.hi⟩
  lt h := cell_lt h.c
structure StrE (w : World) (b o : Nat) (s : ByteArray) : Prop where
  c : w.cell? ⟨b, o, none⟩ = some (.string s)
  hi : s.size ≤ 9223372036854775807
instance : Rep ByteArray where
  sz := 1
  E := StrE
  mono h hb := ⟨hb _ _ _ h.c, h.hi⟩
  lt h := cell_lt h.c
structure BoolE (w : World) (b o : Nat) (s : Bool) : Prop where
  c : w.cell? ⟨b, o, none⟩ = some (.bool s)
instance : Rep Bool where
  sz := 1
  E := BoolE
  mono h hb := ⟨hb _ _ _ h.c⟩
  lt h := cell_lt h.c
structure ListE {α : Type} [Rep α] (w : World) (b o : Nat) (xs : List α) : Prop where
  ex : ∃ a cap, w.cell? ⟨b, o, none⟩ = some (.slice a xs.length cap) ∧ Row w a cap xs
instance {α : Type} [Rep α] : Rep (List α) where
  sz := 1
  E := ListE
  mono h hb := let ⟨a, cap, hc, hr⟩ := h.ex; ⟨a, cap, hb _ _ _ hc, hr.keeps hb⟩
  lt h := let ⟨_, _, hc, _⟩ := h.ex; cell_lt hc

/-- a cell of a term -/
structure Cel where
  k : Int
  s : ByteArray
  n : Int
  deriving DecidableEq
abbrev Cel.v (c : Cel) : Value := .agg #[.int .i64 c.k, .string c.s, .int .i64 c.n]
structure Cel.fit (c : Cel) : Prop where
  k1 : -9223372036854775808 ≤ c.k
  k2 : c.k ≤ 9223372036854775807
  n1 : -9223372036854775808 ≤ c.n
  n2 : c.n ≤ 9223372036854775807
  s : c.s.size ≤ 9223372036854775807
structure CelAt (w : World) (b o : Nat) (c : Cel) : Prop where
  c0 : w.cell? ⟨b, o, none⟩ = some (.int .i64 c.k)
  c1 : w.cell? ⟨b, o + 1, none⟩ = some (.string c.s)
  c2 : w.cell? ⟨b, o + 2, none⟩ = some (.int .i64 c.n)
  fit : c.fit
theorem CelAt.keeps {w w' : World} {b o : Nat} {c : Cel} (h : CelAt w b o c) (hb : Keeps w w') : CelAt w' b o c :=
  ⟨hb _ _ _ h.c0, hb _ _ _ h.c1, hb _ _ _ h.c2, h.fit⟩
theorem CelAt.below {w w' : World} {b o : Nat} {c : Cel} (h : CelAt w b o c) (hb : Below w.heap.size w w') : CelAt w' b o c := h.keeps (Keeps.of hb)
instance : Rep Cel where
  sz := 3
  E := CelAt
  mono := CelAt.keeps
  lt h := cell_lt h.c0
theorem Row.fit {w : World} {a : Option Addr} {cap : Nat} {xs : List Cel} (h : Row w a cap xs) : ∀ c ∈ xs, c.fit := by
  intro c hc
  obtain ⟨i, hi, rfl⟩ := List.getElem_of_mem hc
  obtain ⟨b, off, _, he⟩ := h.at_ i xs[i] (List.getElem?_eq_getElem hi)
  exact CelAt.fit he
/-- a slice of cells at a block -/
theorem cel_at {w wr : World} {b off : Nat} {xs : List Cel} (hat : ∀ i (hi : i < xs.length), Rep.E w b (off + i * Rep.sz Cel) xs[i]) (hb : Below w.heap.size w wr) {k : Nat} (hk : k < xs.length) : CelAt wr b (off + k * 3) xs[k] :=
  CelAt.below (hat k hk) hb
theorem int_at {w wr : World} {b off : Nat} {xs : List Int} (hat : ∀ i (hi : i < xs.length), Rep.E w b (off + i * Rep.sz Int) xs[i]) (hb : Below w.heap.size w wr) {k : Nat} (hk : k < xs.length) : IntE wr b (off + k) xs[k] := by
  have h : IntE w b (off + k * 1) xs[k] := hat k hk
  rw [Nat.mul_one] at h
  exact ⟨keep h.c hb, h.lo, h.hi⟩
theorem list_at {α : Type} [Rep α] {w wr : World} {b off : Nat} {xs : List (List α)} (hat : ∀ i (hi : i < xs.length), Rep.E w b (off + i * Rep.sz (List α)) xs[i]) (hb : Below w.heap.size w wr) {k : Nat} (hk : k < xs.length) :
    ∃ a cap, wr.cell? ⟨b, off + k, none⟩ = some (.slice a xs[k].length cap) ∧ Row wr a cap xs[k] := by
  have h : ListE w b (off + k * 1) xs[k] := hat k hk
  rw [Nat.mul_one] at h
  obtain ⟨a, cap, hc, hr⟩ := h.ex
  exact ⟨a, cap, keep hc hb, hr.below hb⟩
theorem Cel.eq_iff (x y : Cel) : x = y ↔ x.k = y.k ∧ x.s = y.s ∧ x.n = y.n := by
  cases x; cases y; simp
theorem toList_inj (a b : ByteArray) : (a.toList = b.toList) ↔ a = b := by
  rw [ByteArray.toList_eq, ByteArray.toList_eq]
  constructor
  · intro e
    cases a; cases b
    simp at e
    rw [e]
  · intro e; rw [e]
set_option maxHeartbeats 400000 in
theorem run_neq_cel (x y : Cel) (w : World) : (binOp .neq 62 (.agg #[.int .i64 x.k, .string x.s, .int .i64 x.n]) (.agg #[.int .i64 y.k, .string y.s, .int .i64 y.n])).run Tryd.prog w = .ok (.bool (!decide (x = y))) w := by
  by_cases h1 : x.k = y.k
  · by_cases h2 : x.s = y.s
    · by_cases h3 : x.n = y.n
      · go_simp
        exact (Cel.eq_iff x y).2 ⟨h1, h2, h3⟩
      · have h4 : ¬ x = y := fun e => h3 (by rw [e])
        have h5 : (x.n == y.n) = false := by simp [h3]
        go_simp
    · have h4 : ¬ x = y := fun e => h2 (by rw [e])
      have h5 : (x.s.toList == y.s.toList) = false := by simp [toList_inj, h2]
      go_simp
  · have h4 : ¬ x = y := fun e => h1 (by rw [e])
    have h5 : (x.k == y.k) = false := by simp [h1]
    go_simp
theorem take_eq_snoc {α : Type} {xs ys : List α} {k : Nat} (h : xs.take k = ys.take k) (hx : k < xs.length) (hy : k < ys.length) (e : xs[k] = ys[k]) : xs.take (k + 1) = ys.take (k + 1) := by
  rw [List.take_succ_eq_append_getElem hx, List.take_succ_eq_append_getElem hy, h, e]
theorem take_all {α : Type} {xs ys : List α} {k : Nat} (h : xs.take k = ys.take k) (hx : xs.length ≤ k) (hy : ys.length ≤ k) : xs = ys := by
  rwa [List.take_of_length_le hx, List.take_of_length_le hy] at h

/-! ### rows that a call makes and appends to -/
/-- the source of an append -/
structure Src (w : World) (size : Nat) (sa : Option Addr) (m c : Nat) (news : List Value) : Prop where
  len : news.length = m * size
  nil : sa = none → m = 0 ∧ c = 0
  cells : ∀ ad, sa = some ad → ∀ j u, news[j]? = some u → w.cell? (ad.add j) = some u
  one : ∀ u ∈ news, u.oneCell' = true

theorem grown_below {w w' : World} {B e size : Nat} {v : Value} {n : Nat} {xs : List Value} (hg : w.grownBy w' v.ownBlock) (hown : w.ownsRow B e size v n xs) (hB : B ≤ w.heap.size) : Below B w w' :=
  (Below.refl B w).grown hg hB (fun k hk => (hown.lt k hk).1)

theorem wpList_app {P : Program} {w : World} {ops : Array Oper} {rest : List Oper} {o : Oper} {a : Act} {Q : Exit → Act → World → Prop} (hgd : o.guard = none) (s x : Operand) (t : TypeId)
    (ho : o.op = .call { callee := .builtin .append, args := #[s, x], argTypes := #[t, t] })
    (B e size bytes : Nat) (z : Value) (ht : P.underlying t = some (.slice e)) (hinfo : (P.info? e).map (fun i => (i.zero, i.size, i.bytes)) = some (some z, size, bytes))
    (hzs : z.cells.size = size) (hsz : 0 < size) (hby : bytes ≤ 1000)
    (v : Value) (n : Nat) (xs : List Value) (hs : a.eval s = v) (hown : w.ownsRow B e size v n xs)
    (sa : Option Addr) (m c : Nat) (news : List Value) (hx : a.eval x = .slice sa m c) (hsrc : Src w size sa m c news)
    (hmax : n + m ≤ 1000000000) (hB : B ≤ w.heap.size)
    (h : ∀ v' w', w'.ownsRow B e size v' (n + m) (xs ++ news) → w.grownBy w' v.ownBlock → Below B w w' → wpList P ops Q rest (a.put o.dst v') w') : wpList P ops Q (o :: rest) a w := by
  obtain ⟨i, hi, hz0, hz1, hz2⟩ := info_parts hinfo
  have hb : (n + m) * bytes ≤ 140737488355328 := Nat.le_trans (Nat.mul_le_mul hmax hby) (by decide)
  cases sa with
  | none =>
    obtain ⟨rfl, rfl⟩ := hsrc.nil rfl
    have hn : news = [] := List.eq_nil_of_length_eq_zero (by have := hsrc.len; simpa using this)
    subst hn
    refine wpList_append_own_none hgd s x t ho B e i size ht hi v n xs hs hown hx ?_
    exact h v w (by simpa using hown) ⟨rfl, rfl, rfl, Nat.le_refl _, fun _ _ _ => rfl⟩ (Below.refl _ _)
  | some ad =>
    refine wpList_append_own w hgd s x t ho B e i z size bytes ht hi hz0 hz1 hz2 hzs hsz v n xs hs hown ad m c news hx hsrc.len (hsrc.cells ad rfl) hsrc.one (by unfold maxLen; omega) hb hB ?_
    intro v' w' h1 h2 _
    exact h v' w' h1 h2 (grown_below h2 hown hB)

/-- the cells of a row of cells of terms -/
def flat (xs : List Cel) : List Value := xs.flatMap fun c => [.int .i64 c.k, .string c.s, .int .i64 c.n]
theorem flat_length (xs : List Cel) : (flat xs).length = xs.length * 3 := by
  induction xs with
  | nil => rfl
  | cons c xs ih => simp only [flat, List.flatMap_cons, List.length_append, List.length_cons, List.length_nil] at ih ⊢; omega
theorem flat_append (xs ys : List Cel) : flat (xs ++ ys) = flat xs ++ flat ys := by simp [flat]
theorem flat_at (xs : List Cel) (i : Nat) (hi : i < xs.length) : (flat xs)[i * 3]? = some (.int .i64 xs[i].k) ∧ (flat xs)[i * 3 + 1]? = some (.string xs[i].s) ∧ (flat xs)[i * 3 + 2]? = some (.int .i64 xs[i].n) := by
  induction xs generalizing i with
  | nil => simp at hi
  | cons c xs ih =>
    cases i with
    | zero => simp [flat]
    | succ i =>
      have := ih i (by simpa using hi)
      have hf : flat (c :: xs) = .int .i64 c.k :: .string c.s :: .int .i64 c.n :: flat xs := rfl
      rw [hf, show (i + 1) * 3 = i * 3 + 1 + 1 + 1 by omega]
      simp only [List.getElem_cons_succ, List.getElem?_cons_succ, Nat.add_right_comm _ 1]
      exact this
theorem flat_one (xs : List Cel) : ∀ u ∈ flat xs, u.oneCell' = true := by
  intro u hu
  simp [flat] at hu
  obtain ⟨c, _, rfl | rfl | rfl⟩ := hu <;> rfl
theorem Row.src {w : World} {a : Option Addr} {cap : Nat} {xs : List Cel} (h : Row w a cap xs) : Src w 3 a xs.length cap (flat xs) := by
  refine ⟨flat_length xs, fun e => ⟨?_, h.nil e⟩, ?_, flat_one xs⟩
  · have := h.le; have := h.nil e; omega
  · intro ad e j u hj
    have hl : j < xs.length * 3 := by rw [← flat_length]; exact (List.getElem?_eq_some_iff.1 hj).1
    have hi : j / 3 < xs.length := by omega
    obtain ⟨b, off, e', hc⟩ := h.at_ (j / 3) _ (List.getElem?_eq_getElem hi)
    rw [e] at e'
    simp at e'
    subst e'
    have hc' : CelAt w b (off + j / 3 * 3) xs[j / 3] := hc
    have ha : (Addr.mk b off none).add j = ⟨b, off + j, none⟩ := by unfold Addr.add; split <;> simp_all
    rw [ha]
    obtain ⟨f0, f1, f2⟩ := flat_at xs (j / 3) hi
    have : j = j / 3 * 3 ∨ j = j / 3 * 3 + 1 ∨ j = j / 3 * 3 + 2 := by omega
    rcases this with e | e | e
    · rw [e, f0] at hj; rw [e, ← Option.some.inj hj]; exact hc'.c0
    · rw [e, f1] at hj; rw [e, ← Option.some.inj hj]; exact hc'.c1
    · rw [e, f2] at hj; rw [e, ← Option.some.inj hj]; exact hc'.c2

/-- a row of the call's own reads as a row -/
theorem own_row {w : World} {B e : Nat} {v : Value} {xs : List Cel} (h : w.ownsRow B e 3 v xs.length (flat xs)) (hf : ∀ c ∈ xs, c.fit) : ∃ a cap, v = .slice a xs.length cap ∧ Row w a cap xs := by
  rcases h.2 with ⟨rfl, hn⟩ | ⟨g, cap, cur, rfl, hb, hg, hn, hm, hs, ht⟩
  · obtain rfl : xs = [] := List.eq_nil_of_length_eq_zero hn
    exact ⟨none, 0, rfl, Row.empty _ _ _ (by omega) (fun _ => rfl)⟩
  · refine ⟨_, cap, rfl, ⟨hn, by unfold maxLen at hm; omega, (fun e => by cases e), fun i x hi => ⟨g, 0, rfl, ?_⟩⟩⟩
    have hl : i < xs.length := (List.getElem?_eq_some_iff.1 hi).1
    have hx : xs[i] = x := by rw [List.getElem?_eq_getElem hl] at hi; exact Option.some.inj hi
    have hc : ∀ j u, (flat xs)[j]? = some u → w.cell? ⟨g, j, none⟩ = some u := by
      intro j u hu
      have := World.ownsRow.cells h (g := g) rfl j u hu
      have ha : (Addr.mk g 0 none).add j = ⟨g, j, none⟩ := by unfold Addr.add; split <;> simp_all
      rwa [ha] at this
    obtain ⟨f0, f1, f2⟩ := flat_at xs i hl
    subst hx
    show CelAt w g (0 + i * 3) xs[i]
    rw [Nat.zero_add]
    exact ⟨hc _ _ f0, hc _ _ f1, hc _ _ f2, hf _ (List.getElem_mem hl)⟩

/-- one new element, in a block of its own -/
theorem src_new (w : World) (cs : Array Value) (T size : Nat) (hs : cs.size = size) (h1 : ∀ u ∈ cs.toList, u.oneCell' = true) : Src (w.alloc (.cells cs T)) size (some ⟨w.heap.size, 0, none⟩) 1 1 cs.toList := by
  refine ⟨by simp [hs], (fun e => by cases e), ?_, h1⟩
  intro ad e j u hu
  simp at e
  subst e
  have ha : (Addr.mk w.heap.size 0 none).add j = ⟨w.heap.size, j, none⟩ := by unfold Addr.add; split <;> simp_all
  rw [ha, World.cell?_alloc_at _ _ _ _ rfl]
  simpa using hu

theorem own_cells {w : World} {B e size : Nat} {g n cap : Nat} {vs : List Value} (h : w.ownsRow B e size (.slice (some ⟨g, 0, none⟩) n cap) n vs) : ∀ j u, vs[j]? = some u → w.cell? ⟨g, j, none⟩ = some u := by
  intro j u hu
  have := World.ownsRow.cells h (g := g) rfl j u hu
  have ha : (Addr.mk g 0 none).add j = ⟨g, j, none⟩ := by unfold Addr.add; split <;> simp_all
  rwa [ha] at this

theorem own_rowI {w : World} {B e : Nat} {v : Value} {xs : List Int} (h : w.ownsRow B e 1 v xs.length (xs.map (Value.int .i64))) (hf : ∀ n ∈ xs, -9223372036854775808 ≤ n ∧ n ≤ 9223372036854775807) : ∃ a cap, v = .slice a xs.length cap ∧ Row w a cap xs := by
  rcases h.2 with ⟨rfl, hn⟩ | ⟨g, cap, cur, rfl, hb, hg, hn, hm, hs, ht⟩
  · obtain rfl : xs = [] := List.eq_nil_of_length_eq_zero hn
    exact ⟨none, 0, rfl, Row.empty _ _ _ (by omega) (fun _ => rfl)⟩
  · refine ⟨_, cap, rfl, ⟨hn, by unfold maxLen at hm; omega, (fun e => by cases e), fun i x hi => ⟨g, 0, rfl, ?_⟩⟩⟩
    have hl : i < xs.length := (List.getElem?_eq_some_iff.1 hi).1
    have hx : xs[i] = x := by rw [List.getElem?_eq_getElem hl] at hi; exact Option.some.inj hi
    show IntE w g (0 + i * 1) x
    rw [Nat.zero_add, Nat.mul_one]
    have hm := hf x (hx ▸ List.getElem_mem hl)
    exact ⟨own_cells h i _ (by rw [List.getElem?_map, hi]; rfl), hm.1, hm.2⟩
end Go.Proofs.YtabjghmfjoefpaaDoor
set_option linter.unusedVariables false
namespace Go.Proofs.YtabjghmfjoefpaaDoor
open Go.RowKit

/-- the writer that holds the bytes bs -/
abbrev IsW (B b : Nat) (bs : List Value) (w : World) : Prop := Lib.IsBuilder 70 5 B b bs w
/-- .. and has been written -/
abbrev WAt (B b : Nat) (bs : List Value) (w : World) : Prop := Lib.BuilderAt 70 5 B b (.pointer (some ⟨b, 0, none⟩)) bs w

theorem w_size : (Tryd.prog.info? 68).map (·.size) = some 2 := by kernel_rfl
theorem w_lies : liesAt Tryd.prog Tryd.prog.depth 70 (2 / Tryd.prog.cellsOf 70) 0 68 1 = true := by kernel_rfl
theorem w_ptr : Tryd.prog.underlying 65 = some (.pointer 68) := by kernel_rfl
theorem w_unsafe : Tryd.prog.underlying 114 = some .unsafePointer := by kernel_rfl
theorem w_bytes : Tryd.prog.underlying 66 = some (.slice 5) := by kernel_rfl
theorem w_string : Tryd.prog.underlying 9 = some .string := by kernel_rfl
theorem w_byte : (Tryd.prog.info? 5).map (fun i => (i.zero, i.size, i.bytes)) = some (some (.int .u8 0), 1, 1) := by kernel_rfl
theorem w_pbyte : Tryd.prog.underlying 102 = some (.pointer 5) := by kernel_rfl
theorem w_cellsByte : Tryd.prog.cellsOf 5 = 1 := by kernel_rfl

set_option maxHeartbeats 1000000 in
set_option maxRecDepth 100000 in
theorem check_used (b : Nat) (w : World) (h0 : w.cell? ⟨b, 0, none⟩ = some (.pointer (some ⟨b, 0, none⟩))) :
    Calls Tryd.prog 58 #[.pointer (some ⟨b, 0, none⟩)] w fun e w' => e = .returned (.tuple #[]) ∧ w' = w := by
  obtain ⟨j, hj, _⟩ := Option.map_eq_some_iff.1 w_size
  go_enter Tryd.func58, Tryd.ntmps58
  go_wp2
  rw [Lib.run_neq_ptr_same w _ w_ptr hj]
  go_wp2
  go_end0
  exact ⟨rfl, rfl⟩

set_option maxHeartbeats 1000000 in
set_option maxRecDepth 100000 in
theorem check_fresh (b : Nat) (w : World) (h0 : w.cell? ⟨b, 0, none⟩ = some (.pointer none)) (hsh : w.shape? b = some (70, 2)) (hfz : w.frozen? ⟨b, 0, none⟩ = false) :
    Calls Tryd.prog 58 #[.pointer (some ⟨b, 0, none⟩)] w fun e w' => e = .returned (.tuple #[]) ∧ w' = w.setCell ⟨b, 0, none⟩ (.pointer (some ⟨b, 0, none⟩)) := by
  obtain ⟨j, hj, hjs⟩ := Option.map_eq_some_iff.1 w_size
  go_enter Tryd.func58, Tryd.ntmps58
  go_wp2
  rw [Lib.run_to_unsafe w ⟨b, 0, none⟩ w_ptr w_unsafe hj (by rw [hjs]; decide) hsh (Nat.zero_lt_succ 1)]
  simp only [Result.andThen]
  rw [Oper.upon_value]
  go_wp2
  rw [run_callFunc_extern Tryd.func82 (by kernel_rfl) (by kernel_rfl) (by kernel_rfl) (e := Extern.AbiNoEscape.same) (by kernel_rfl)]
  rw [Lib.run_noEscape]
  simp only [Result.andThen]
  rw [Oper.upon_value]
  go_wp2
  rw [Lib.run_from_unsafe w ⟨b, 0, none⟩ w_unsafe w_ptr hj hsh w_lies]
  simp only [Result.andThen]
  rw [Oper.upon_value]
  go_wp2
  go_end0
  exact ⟨rfl, rfl⟩

theorem check_any (B b : Nat) (bs : List Value) (w : World) (h : IsW B b bs w) :
    Calls Tryd.prog 58 #[.pointer (some ⟨b, 0, none⟩)] w fun e w' => e = .returned (.tuple #[]) ∧ (WAt B b bs w' ∧ Below B w w') := by
  rcases h with h | h
  · refine (check_fresh b w h.cell0 h.shape h.frozen0).mono ?_
    rintro e w' ⟨rfl, rfl⟩
    exact ⟨rfl, h.used _, (Below.refl B w).setCell (p := ⟨b, 0, none⟩) h.1 _⟩
  · refine (check_used b w h.cell0).mono ?_
    rintro e w' ⟨rfl, rfl⟩
    exact ⟨rfl, h, Below.refl B _⟩
end Go.Proofs.YtabjghmfjoefpaaDoor
set_option linter.unusedVariables false
namespace Go.Proofs.YtabjghmfjoefpaaDoor
open Go.RowKit

set_option maxHeartbeats 2000000 in
set_option maxRecDepth 100000 in
/-- WriteByte on the writer -/
theorem writeByte_any (B b : Nat) (bs : List Value) (c : Int) (w : World) (h : IsW B b bs w) (hlen : bs.length + 1 ≤ 140737488355328) (hBw : B ≤ w.heap.size) :
    Calls Tryd.prog 41 #[.pointer (some ⟨b, 0, none⟩), .int .u8 c] w fun e w' => e = .returned .nilIface ∧ (WAt B b (bs ++ [.int .u8 c]) w' ∧ Below B w w') := by
  obtain ⟨i0, hi, hz0, hz1, hz2⟩ := info_parts w_byte
  go_enter Tryd.func41, Tryd.ntmps41
  go_wp2_with fail
  refine (check_any B b bs _ h).mono ?_
  rintro e w1 ⟨rfl, h1, hb1⟩
  obtain ⟨hB, v, hbk, hown, hne⟩ := h1
  have c0 : w1.cell? ⟨b, 0, none⟩ = some (.pointer (some ⟨b, 0, none⟩)) := by rw [Lib.cell_of_heap hbk]; rfl
  have c1 : w1.cell? ⟨b, 1, none⟩ = some v := by rw [Lib.cell_of_heap hbk]; rfl
  go_wp2_with (at_builtin; refine wpList_append_own _ rfl _ _ 66 rfl B 5 i0 (.int .u8 0) 1 1 w_bytes hi hz0 hz1 hz2 rfl (by decide) _ _ _ rfl (hown.alloc _) ⟨w1.heap.size, 0, none⟩ 1 1 [.int .u8 c] rfl rfl ?c1 ?c2 ?c3 ?c4 ?c5 ?_)
  case c1 =>
    intro j u hj
    match j, hj with
    | 0, hj => simp at hj; subst hj; simp [Addr.add]
  case c2 => intro u hu; simp at hu; subst hu; rfl
  case c3 => unfold maxLen; omega
  case c4 => omega
  case c5 => have := hb1.size; simp; omega
  intro v' w2 hown' hgrow _
  have hlt : b < w1.heap.size := by
    rcases Nat.lt_or_ge b w1.heap.size with h' | h'
    · exact h'
    · simp [Array.getElem?_eq_none h'] at hbk
  have hb2 : w2.heap[b]? = some (.cells #[.pointer (some ⟨b, 0, none⟩), v] 70 (0, 0)) := by
    rw [hgrow.block b (by simp; omega) (fun e => hne e.symm), Lib.alloc_old w1 _ b hlt]
    exact hbk
  have d0 : w2.cell? ⟨b, 0, none⟩ = some (.pointer (some ⟨b, 0, none⟩)) := by rw [Lib.cell_of_heap hb2]; rfl
  have d1 : w2.cell? ⟨b, 1, none⟩ = some v := by rw [Lib.cell_of_heap hb2]; rfl
  have f1 : w2.frozen? ⟨b, 1, none⟩ = false := Lib.frozen_of_heap hb2 1
  obtain ⟨g, cap, rfl⟩ : ∃ g cap, v' = .slice (some ⟨g, 0, none⟩) (bs.length + 1) cap := by
    rcases hown'.2 with ⟨_, h0⟩ | ⟨g, cap, cur, hv, _⟩
    · omega
    · exact ⟨g, cap, hv⟩
  go_wp2
  go_ret
  refine ⟨rfl, ?_, ?_⟩
  · exact Lib.BuilderAt.put (T := 70) (e := 5) hB hb2 (bs' := bs ++ [.int .u8 c]) (by simpa using hown') (by decide)
  · exact ((hb1.alloc (by have := hb1.size; omega) _).grown hgrow (by have := hb1.size; simp; omega) (fun k hk => (hown.lt k hk).1)).setCell (p := ⟨b, 1, none⟩) hB _

set_option maxHeartbeats 2000000 in
set_option maxRecDepth 100000 in
/-- WriteString on the writer -/
theorem writeString_any (B b : Nat) (bs : List Value) (s : ByteArray) (w : World) (h : IsW B b bs w) (hlen : bs.length + s.size ≤ 140737488355328) (hBw : B ≤ w.heap.size) :
    Calls Tryd.prog 52 #[.pointer (some ⟨b, 0, none⟩), .string s] w fun e w' => e = .returned (.tuple #[.int .i64 s.size, .nilIface]) ∧ (WAt B b (bs ++ Lib.strCells s) w' ∧ Below B w w') := by
  obtain ⟨i0, hi, hz0, hz1, hz2⟩ := info_parts w_byte
  go_enter Tryd.func52, Tryd.ntmps52
  go_wp2_with fail
  refine (check_any B b bs _ h).mono ?_
  rintro e w1 ⟨rfl, h1, hb1⟩
  obtain ⟨hB, v, hbk, hown, hne⟩ := h1
  have c0 : w1.cell? ⟨b, 0, none⟩ = some (.pointer (some ⟨b, 0, none⟩)) := by rw [Lib.cell_of_heap hbk]; rfl
  have c1 : w1.cell? ⟨b, 1, none⟩ = some v := by rw [Lib.cell_of_heap hbk]; rfl
  go_wp2_with (at_builtin; refine Lib.wpList_append_own_string _ rfl _ _ 66 9 rfl B 5 i0 w_bytes w_string hi hz0 hz1 hz2 _ _ _ rfl hown s rfl ?c3 ?c4 ?c5 ?_)
  case c3 => unfold maxLen; omega
  case c4 => omega
  case c5 => have := hb1.size; omega
  intro v' w2 hown' hgrow _
  have hlt : b < w1.heap.size := by
    rcases Nat.lt_or_ge b w1.heap.size with h' | h'
    · exact h'
    · simp [Array.getElem?_eq_none h'] at hbk
  have hb2 : w2.heap[b]? = some (.cells #[.pointer (some ⟨b, 0, none⟩), v] 70 (0, 0)) := by
    rw [hgrow.block b hlt (fun e => hne e.symm)]
    exact hbk
  have d0 : w2.cell? ⟨b, 0, none⟩ = some (.pointer (some ⟨b, 0, none⟩)) := by rw [Lib.cell_of_heap hb2]; rfl
  have d1 : w2.cell? ⟨b, 1, none⟩ = some v := by rw [Lib.cell_of_heap hb2]; rfl
  have f1 : w2.frozen? ⟨b, 1, none⟩ = false := Lib.frozen_of_heap hb2 1
  obtain ⟨ao, n', cap, rfl⟩ : ∃ ao n' cap, v' = .slice ao n' cap := by
    rcases hown'.2 with ⟨hv, _⟩ | ⟨g, cap, cur, hv, _⟩
    · exact ⟨_, _, _, hv⟩
    · exact ⟨_, _, _, hv⟩
  go_wp2
  go_ret2
  refine ⟨rfl, ?_, ?_⟩
  · exact Lib.BuilderAt.put (T := 70) (e := 5) hB hb2 (bs' := bs ++ Lib.strCells s) (by simpa [Lib.strCells_length] using hown') (by decide)
  · exact (hb1.grown hgrow (by have := hb1.size; omega) (fun k hk => (hown.lt k hk).1)).setCell (p := ⟨b, 1, none⟩) hB _
end Go.Proofs.YtabjghmfjoefpaaDoor
set_option linter.unusedVariables false
namespace Go.Proofs.YtabjghmfjoefpaaDoor
open Go.RowKit

set_option maxHeartbeats 1000000 in
set_option maxRecDepth 100000 in
theorem str_some (B b : Nat) (l : List UInt8) (w : World) (h : IsW B b (Lib.byteCells l) w) (h0 : l ≠ []) :
    Calls Tryd.prog 35 #[.pointer (some ⟨b, 0, none⟩)] w fun e w' => e = .returned (.string ⟨l.toArray⟩) ∧ Below B w w' := by
  obtain ⟨p, hB, v, hbk, hown, hne⟩ : ∃ p, Lib.BuilderAt 70 5 B b p (Lib.byteCells l) w := by
    rcases h with h | h
    · exact ⟨_, h⟩
    · exact ⟨_, h⟩
  have hl0 : l.length ≠ 0 := by simpa using h0
  rw [Lib.byteCells_length] at hown
  obtain ⟨g, cap, cur, rfl, hbg, hg, hnc, hcm, hcs, htake⟩ : ∃ g cap cur, v = .slice (some ⟨g, 0, none⟩) l.length cap ∧ B ≤ g ∧ w.heap[g]? = some (.cells cur 5 (0, 0)) ∧ l.length ≤ cap ∧ cap ≤ maxLen ∧ cur.size = cap * 1 ∧ cur.toList.take (l.length * 1) = Lib.byteCells l := by
    rcases hown.2 with ⟨_, hz⟩ | ⟨g, cap, cur, hv, r⟩
    · exact absurd hz hl0
    · exact ⟨g, cap, cur, hv, r⟩
  have c1 : w.drew.cell? ⟨b, 1, none⟩ = some (.slice (some ⟨g, 0, none⟩) l.length cap) := by
    have : w.drew.heap[b]? = some (.cells #[p, .slice (some ⟨g, 0, none⟩) l.length cap] 70 (0, 0)) := hbk
    rw [Lib.cell_of_heap this]; rfl
  have hSD : (Builtin.unsafeSliceData_ #[66] 102 #[.slice (some ⟨g, 0, none⟩) l.length cap]).run Tryd.prog w.drew = .ok (.pointer (some ⟨g, 0, none⟩)) w.drew :=
    Lib.run_unsafeSliceData_row _ _ _ _ _ _ (by omega)
  have hUS : (Builtin.unsafeString_ #[102, 3] 9 #[.pointer (some ⟨g, 0, none⟩), .int .i64 l.length]).run Tryd.prog w.drew = .ok (.string ⟨l.toArray⟩) (w.drew.freeze ⟨g, 0, none⟩ l.length) := by
    refine Lib.run_unsafeString_row w.drew 102 3 9 5 w_pbyte w_cellsByte g cur.size (by have hg' : w.drew.heap[g]? = some (.cells cur 5 (0, 0)) := hg; simp [World.shape?, hg']) l h0 (by omega) (by unfold maxLen at hcm; omega) ?_
    intro j x hx
    have := hown.cells (g := g) rfl j (.int .u8 x.toNat) (by simp [Lib.byteCells, hx])
    exact this
  have mixed : Tryd.prog.follows Departure.mixedOrders = true := by kernel_rfl
  clear htake hcs hg hbk
  go_enter Tryd.func35, Tryd.ntmps35
  go_wp2
  go_region_o
  all_goals (go_wp2; go_ret; exact ⟨rfl, Lib.below_freeze (Below.drew (Below.refl B w)) (p := ⟨g, 0, none⟩) hbg _⟩)

set_option maxHeartbeats 2000000 in
set_option maxRecDepth 100000 in
theorem str_nil (B b : Nat) (p : Value) (w : World) (hbk : w.heap[b]? = some (.cells #[p, .slice none 0 0] 70 (0, 0))) :
    Calls Tryd.prog 35 #[.pointer (some ⟨b, 0, none⟩)] w fun e w' => e = .returned (.string ⟨#[]⟩) ∧ Below B w w' := by
  have hUS : ∀ (W : World) (q : Option Addr), (Builtin.unsafeString_ #[102, 3] 9 #[.pointer q, .int .i64 0]).run Tryd.prog W = .ok (.string .empty) W := fun W q => Lib.run_unsafeString_none W _ _ _ q
  have c1 : w.drew.cell? ⟨b, 1, none⟩ = some (.slice none 0 0) := by
    have : w.drew.heap[b]? = some (.cells #[p, .slice none 0 0] 70 (0, 0)) := hbk
    rw [Lib.cell_of_heap this]; rfl
  have hSD : (Builtin.unsafeSliceData_ #[66] 102 #[.slice none 0 0]).run Tryd.prog w.drew = .ok (.pointer none) w.drew := rfl
  have mixed : Tryd.prog.follows Departure.mixedOrders = true := by kernel_rfl
  go_enter Tryd.func35, Tryd.ntmps35
  go_wp2
  go_region_o
  all_goals (go_wp2; go_ret; exact ⟨rfl, Below.drew (Below.refl B w)⟩)

set_option maxHeartbeats 2000000 in
set_option maxRecDepth 100000 in
theorem str_noroom (B b g : Nat) (p : Value) (cur : Array Value) (w : World) (hBw : B ≤ w.heap.size) (hbk : w.heap[b]? = some (.cells #[p, .slice (some ⟨g, 0, none⟩) 0 0] 70 (0, 0))) (hg : w.heap[g]? = some (.cells cur 5 (0, 0))) :
    Calls Tryd.prog 35 #[.pointer (some ⟨b, 0, none⟩)] w fun e w' => e = .returned (.string ⟨#[]⟩) ∧ Below B w w' := by
  have hUS : ∀ (W : World) (q : Option Addr), (Builtin.unsafeString_ #[102, 3] 9 #[.pointer q, .int .i64 0]).run Tryd.prog W = .ok (.string .empty) W := fun W q => Lib.run_unsafeString_none W _ _ _ q
  have hlt : b < w.heap.size := by
    rcases Nat.lt_or_ge b w.heap.size with h' | h'
    · exact h'
    · simp [Array.getElem?_eq_none h'] at hbk
  have c1 : w.drew.cell? ⟨b, 1, none⟩ = some (.slice (some ⟨g, 0, none⟩) 0 0) := by
    have : w.drew.heap[b]? = some (.cells #[p, .slice (some ⟨g, 0, none⟩) 0 0] 70 (0, 0)) := hbk
    rw [Lib.cell_of_heap this]; rfl
  have hSD : (Builtin.unsafeSliceData_ #[66] 102 #[.slice (some ⟨g, 0, none⟩) 0 0]).run Tryd.prog w.drew = .ok (.pointer (some ⟨w.drew.heap.size, 0, none⟩)) (w.drew.alloc (.view ⟨g, 0, none⟩ 5)) :=
    Lib.run_unsafeSliceData_zero w.drew _ _ 5 w_pbyte ⟨g, 0, none⟩ 0 (5, cur.size) (by have hg' : w.drew.heap[g]? = some (.cells cur 5 (0, 0)) := hg; simp [World.shape?, hg'])
  have c2 : (w.drew.alloc (.view ⟨g, 0, none⟩ 5)).cell? ⟨b, 1, none⟩ = some (.slice (some ⟨g, 0, none⟩) 0 0) := by
    have : (w.drew.alloc (.view ⟨g, 0, none⟩ 5)).heap[b]? = _ := (Lib.alloc_old w.drew _ b hlt).trans hbk
    rw [Lib.cell_of_heap this]; rfl
  have c3 : (w.alloc (.view ⟨g, 0, none⟩ 5)).drew.cell? ⟨b, 1, none⟩ = some (.slice (some ⟨g, 0, none⟩) 0 0) := c2
  have c0 : w.cell? ⟨b, 1, none⟩ = some (.slice (some ⟨g, 0, none⟩) 0 0) := c1
  have mixed : Tryd.prog.follows Departure.mixedOrders = true := by kernel_rfl
  go_enter Tryd.func35, Tryd.ntmps35
  go_wp2
  go_region_o
  all_goals (go_wp2; go_ret; exact ⟨rfl, (Below.drew (Below.refl B w)).alloc hBw _⟩)

set_option maxHeartbeats 2000000 in
set_option maxRecDepth 100000 in
theorem str_room (B b g cap : Nat) (p : Value) (w : World) (hc0 : cap ≠ 0) (hbk : w.heap[b]? = some (.cells #[p, .slice (some ⟨g, 0, none⟩) 0 cap] 70 (0, 0))) :
    Calls Tryd.prog 35 #[.pointer (some ⟨b, 0, none⟩)] w fun e w' => e = .returned (.string ⟨#[]⟩) ∧ Below B w w' := by
  have hUS : ∀ (W : World) (q : Option Addr), (Builtin.unsafeString_ #[102, 3] 9 #[.pointer q, .int .i64 0]).run Tryd.prog W = .ok (.string .empty) W := fun W q => Lib.run_unsafeString_none W _ _ _ q
  have c1 : w.drew.cell? ⟨b, 1, none⟩ = some (.slice (some ⟨g, 0, none⟩) 0 cap) := by
    have : w.drew.heap[b]? = some (.cells #[p, .slice (some ⟨g, 0, none⟩) 0 cap] 70 (0, 0)) := hbk
    rw [Lib.cell_of_heap this]; rfl
  have hSD : (Builtin.unsafeSliceData_ #[66] 102 #[.slice (some ⟨g, 0, none⟩) 0 cap]).run Tryd.prog w.drew = .ok (.pointer (some ⟨g, 0, none⟩)) w.drew :=
    Lib.run_unsafeSliceData_row _ _ _ _ _ _ hc0
  clear hc0
  have mixed : Tryd.prog.follows Departure.mixedOrders = true := by kernel_rfl
  go_enter Tryd.func35, Tryd.ntmps35
  go_wp2
  go_region_o
  all_goals (go_wp2; go_ret; exact ⟨rfl, Below.drew (Below.refl B w)⟩)

theorem str_empty (B b : Nat) (w : World) (h : IsW B b [] w) (hBw : B ≤ w.heap.size) :
    Calls Tryd.prog 35 #[.pointer (some ⟨b, 0, none⟩)] w fun e w' => e = .returned (.string ⟨#[]⟩) ∧ Below B w w' := by
  obtain ⟨p, hB, v, hbk, hown, hne⟩ : ∃ p, Lib.BuilderAt 70 5 B b p [] w := by
    rcases h with h | h
    · exact ⟨_, h⟩
    · exact ⟨_, h⟩
  rcases hown.2 with ⟨rfl, _⟩ | ⟨g, cap, cur, rfl, hbg, hg, _, _, _, _⟩
  · exact str_nil B b p w hbk
  · by_cases hc0 : cap = 0
    · subst hc0
      exact str_noroom B b g p cur w hBw hbk hg
    · exact str_room B b g cap p w hc0 hbk

/-- String on the writer: what it holds -/
theorem str_any (B b : Nat) (l : List UInt8) (w : World) (h : IsW B b (Lib.byteCells l) w) (hBw : B ≤ w.heap.size) :
    Calls Tryd.prog 35 #[.pointer (some ⟨b, 0, none⟩)] w fun e w' => e = .returned (.string ⟨l.toArray⟩) ∧ Below B w w' := by
  cases l with
  | nil => exact str_empty B b w h hBw
  | cons x r => exact str_some B b (x :: r) w h (by simp)
end Go.Proofs.YtabjghmfjoefpaaDoor
namespace Go.Proofs.YtabjghmfjoefpaaDoor
open Go.RowKit

/-- A world that comes later: what was there is as it was. -/
structure Later (w : World) where
  w' : World
  ok : Below w.heap.size w w'
instance (w : World) : Nonempty (Later w) := ⟨⟨w, Below.refl _ _⟩⟩

/-- A region that draws its order, whose operations read, and whose callees leave what was there as it was, each with one value: one walk serves every order. -/
theorem wp_region_calm {P : Program} {id : Nat} {Q : Exit → Act → World → Prop} {a : Act} {w : World} {l : List Oper} (hm : P.follows .mixedOrders = true) (hB : Region.lexB .any l.toArray = true)
    (h : wpQuiet P l.toArray (fun w' => ∃ x : Later w, w' = x.w') (fun a' => ∀ w', (∃ x : Later w, w' = x.w') → Q .normal a' w') l a) : (Code.region id l.toArray true).wp P Q a w :=
  wp_region_quiet (C := fun w' => ∃ x : Later w, w' = x.w') hm hB ⟨⟨{ w with drawn := w.drawn + 1 }, ⟨rfl, rfl, rfl, Nat.le_refl _, fun _ _ => rfl⟩⟩, rfl⟩ (by simpa using h)

theorem Calls.calm_of {P : Program} {f : FuncId} {args : Array Value} {w : World} {x : Later w} {v : Value}
    (h : Calls P f args x.w' fun e w'' => e = .returned v ∧ Below x.w'.heap.size x.w' w'') : Calls P f args x.w' fun e w'' => e = .returned v ∧ ∃ y : Later w, w'' = y.w' :=
  h.mono fun _ w'' ⟨he, hb⟩ => ⟨he, ⟨w'', x.ok.then hb⟩, rfl⟩
theorem keepL {w : World} {b o : Nat} {v : Value} (h : w.cell? ⟨b, o, none⟩ = some v) (x : Later w) : x.w'.cell? ⟨b, o, none⟩ = some v := keep h x.ok
end Go.Proofs.YtabjghmfjoefpaaDoor
namespace Go.Proofs.YtabjghmfjoefpaaDoor
open Go.RowKit

/-- where the new row lies: where the old one lay, or in a new block -/
theorem run_append_where {P : Program} (w : World) (B : Nat) (t ty e : TypeId) (i : TypeInfo) (z : Value) (size bytes : Nat) (ht : P.underlying t = some (.slice e)) (hi : P.info? e = some i) (hz : i.zero = some z)
    (hsize : i.size = size) (hby : i.bytes = bytes) (hzs : z.cells.size = size) (hsz : 0 < size)
    (v : Value) (n : Nat) (xs : List Value) (hown : w.ownsRow B e size v n xs)
    (a : Addr) (m c : Nat) (news : List Value) (hl : news.length = m * size) (hnews : ∀ j u, news[j]? = some u → w.cell? (a.add j) = some u) (h1 : ∀ u ∈ news, u.oneCell' = true)
    (h63 : n + m ≤ maxLen) (hbytes : (n + m) * bytes ≤ 140737488355328) (hbase : B ≤ w.heap.size) :
    ∃ v' w', (Builtin.append_ #[t, t] ty #[v, .slice (some a) m c]).run P w = .ok v' w' ∧ w'.ownsRow B e size v' (n + m) (xs ++ news) ∧ w.grownBy w' v.ownBlock ∧
      (v'.ownBlock = v.ownBlock ∨ v'.ownBlock = some w.heap.size) := by
  obtain ⟨v', w', hr, h2, h3, h4⟩ := run_append_own (P := P) w B t ty e i z size bytes ht hi hz hsize hby hzs hsz v n xs hown a m c news hl hnews h1 h63 hbytes hbase
  refine ⟨v', w', hr, h2, h3, ?_⟩
  have h63' : n + m ≤ 9223372036854775807 := by unfold maxLen at h63; omega
  rcases hown.2 with ⟨rfl, rfl⟩ | ⟨g, cap, cur, rfl, hb, hg, hn, hm, hs, htk⟩
  · by_cases hm : m = 0
    · left
      rw [(h4.2 ⟨rfl, hm⟩)]
    · right
      have hr2 := run_append_nil (P := P) w t ty e i z ht hi hz a m c news (by rw [hsize]; exact hl) hnews (by omega) (by omega) (by rw [hby]; rw [Nat.zero_add] at hbytes; omega)
      rw [hr] at hr2
      injection hr2 with e1 e2
      rw [e1]; rfl
  · by_cases hroom : n + m ≤ cap
    · left
      have hr2 := run_append_room (P := P) w t ty e i ht hi g n cap cur hg a m c news (by rw [hsize]; exact hl) hnews h1 hroom (by
        rw [hsize, hl, hs, ← Nat.add_mul]; exact Nat.mul_le_mul_right _ hroom)
      rw [hr] at hr2
      injection hr2 with e1 e2
      rw [e1]; rfl
    · right
      have hr2 := run_append_grow (P := P) w t ty e i z ht hi hz ⟨g, 0, none⟩ n cap xs (by rw [hsize]; exact hown.1) (hown.cells (g := g) rfl) a m c news (by rw [hsize]; exact hl) hnews (by omega) (by omega) (by
        rw [hby]; exact growslice_fits (by omega) hbytes)
      rw [hr] at hr2
      injection hr2 with e1 e2
      rw [e1]; rfl

/-- what was read beside the old row is read beside the new one -/
theorem hide_next {w w' : World} {r r' : Option Nat} (hg : w.grownBy w' r) (h : r' = r ∨ r' = some w.heap.size) : Keeps (hide r w) (hide r' w') := by
  rcases h with rfl | rfl
  · exact grown_keeps hg
  · intro b o v hc
    have hl := cell_lt (hide_keeps r w b o v hc)
    have h1 := grown_keeps hg b o v hc
    exact hide_of_ne (by omega) (hide_keeps r w' b o v h1)

theorem wpList_app2 {P : Program} {w : World} {ops : Array Oper} {rest : List Oper} {o : Oper} {a : Act} {Q : Exit → Act → World → Prop} (hgd : o.guard = none) (s x : Operand) (t : TypeId)
    (ho : o.op = .call { callee := .builtin .append, args := #[s, x], argTypes := #[t, t] })
    (B e size bytes : Nat) (z : Value) (ht : P.underlying t = some (.slice e)) (hinfo : (P.info? e).map (fun i => (i.zero, i.size, i.bytes)) = some (some z, size, bytes))
    (hzs : z.cells.size = size) (hsz : 0 < size) (hby : bytes ≤ 1000)
    (v : Value) (n : Nat) (xs : List Value) (hs : a.eval s = v) (hown : w.ownsRow B e size v n xs)
    (sa : Addr) (m c : Nat) (news : List Value) (hx : a.eval x = .slice (some sa) m c) (hsrc : Src w size (some sa) m c news)
    (hmax : n + m ≤ 1000000000) (hB : B ≤ w.heap.size)
    (h : ∀ v' w', w'.ownsRow B e size v' (n + m) (xs ++ news) → w.grownBy w' v.ownBlock → Below B w w' → Keeps (hide v.ownBlock w) (hide v'.ownBlock w') → wpList P ops Q rest (a.put o.dst v') w') : wpList P ops Q (o :: rest) a w := by
  obtain ⟨i, hi, hz0, hz1, hz2⟩ := info_parts hinfo
  have hb : (n + m) * bytes ≤ 140737488355328 := Nat.le_trans (Nat.mul_le_mul hmax hby) (by decide)
  refine wpList_plain hgd fun K hK => ?_
  obtain ⟨v', w', hr, h2, h3, h4⟩ := run_append_where (P := P) w B t o.type e i z size bytes ht hi hz0 hz1 hz2 hzs hsz v n xs hown sa m c news hsrc.len (hsrc.cells sa rfl) hsrc.one (by unfold maxLen; omega) hb hB
  unfold Oper.wp execOp
  simp only [ho, resolve, invoke, builtin, Sem.run_bind, Sem.run_pure, Result.andThen_ok, List.map_toArray, List.map_cons, List.map_nil, hs, hx, hr]
  exact hK _ _ (h v' w' h2 h3 (grown_below h3 hown hB) (hide_next h3 h4))

/-- values of slices, each of which reads as a list -/
structure SlRows {α : Type} [Rep α] (w : World) (vs : List Value) (ps : List (List α)) : Prop where
  len : vs.length = ps.length
  row : ∀ (i : Nat) (v : Value) (p : List α), vs[i]? = some v → ps[i]? = some p → ∃ a cap, v = Value.slice a p.length cap ∧ Row w a cap p
section
variable {α : Type} [Rep α]
theorem SlRows.nil (w : World) : SlRows w [] ([] : List (List α)) := ⟨rfl, fun i v p h => by simp at h⟩
theorem SlRows.keeps {w w' : World} {vs : List Value} {ps : List (List α)} (h : SlRows w vs ps) (hk : Keeps w w') : SlRows w' vs ps :=
  ⟨h.len, fun i v p hv hp => let ⟨a, cap, e, hr⟩ := h.row i v p hv hp; ⟨a, cap, e, hr.keeps hk⟩⟩
theorem SlRows.snoc {w : World} {vs : List Value} {ps : List (List α)} (h : SlRows w vs ps) {a : Option Addr} {cap : Nat} {p : List α} (hr : Row w a cap p) : SlRows w (vs ++ [.slice a p.length cap]) (ps ++ [p]) := by
  refine ⟨by simp [h.len], fun i v q hv hq => ?_⟩
  by_cases hi : i < vs.length
  · rw [List.getElem?_append_left hi] at hv
    rw [List.getElem?_append_left (by rw [← h.len]; exact hi)] at hq
    exact h.row i v q hv hq
  · rw [List.getElem?_append_right (by omega)] at hv
    rw [List.getElem?_append_right (by rw [← h.len]; omega), ← h.len] at hq
    by_cases h0 : i - vs.length = 0
    · rw [h0] at hv hq
      simp at hv hq
      subst hv; subst hq
      exact ⟨a, cap, rfl, hr⟩
    · rw [List.getElem?_eq_none (by simp; omega)] at hv; cases hv
theorem SlRows.one {w : World} {vs : List Value} {ps : List (List α)} (h : SlRows w vs ps) : ∀ u ∈ vs, u.oneCell' = true := by
  intro u hu
  obtain ⟨i, hi, rfl⟩ := List.getElem_of_mem hu
  obtain ⟨a, cap, e, _⟩ := h.row i vs[i] (ps[i]'(by rw [← h.len]; exact hi)) (List.getElem?_eq_getElem hi) (List.getElem?_eq_getElem _)
  rw [e]; rfl
theorem own_rowL {w : World} {B e : Nat} {v : Value} {vs : List Value} {ps : List (List α)} (h : w.ownsRow B e 1 v ps.length vs) (hs : SlRows w vs ps) : ∃ a cap, v = .slice a ps.length cap ∧ Row w a cap ps := by
  rcases h.2 with ⟨rfl, hn⟩ | ⟨g, cap, cur, rfl, hb, hg, hn, hm, hsz, ht⟩
  · obtain rfl : ps = [] := List.eq_nil_of_length_eq_zero hn
    exact ⟨none, 0, rfl, Row.empty _ _ _ (by omega) (fun _ => rfl)⟩
  · refine ⟨_, cap, rfl, ⟨hn, by unfold maxLen at hm; omega, (fun e => by cases e), fun i x hi => ⟨g, 0, rfl, ?_⟩⟩⟩
    show ListE w g (0 + i * 1) x
    rw [Nat.zero_add, Nat.mul_one]
    have hl : i < ps.length := (List.getElem?_eq_some_iff.1 hi).1
    have hl' : i < vs.length := by rw [hs.len]; exact hl
    obtain ⟨a, cap, e, hr⟩ := hs.row i vs[i] x (List.getElem?_eq_getElem hl') hi
    exact ⟨a, cap, own_cells h i _ (by rw [List.getElem?_eq_getElem hl', e]), hr⟩
end
theorem below_grown {w w' : World} (hb : Below w.heap.size w w') (r : Option Nat) : w.grownBy w' r := ⟨hb.os, hb.tape, hb.output, hb.size, fun k hk _ => hb.block k hk⟩
theorem below_hide {w w' : World} (hb : Below w.heap.size w w') (r : Option Nat) : Keeps (hide r w) (hide r w') := grown_keeps (below_grown hb r)
theorem alloc_hide (w : World) (o : Obj) (r : Option Nat) : Keeps (hide r w) (hide r (w.alloc o)) := grown_keeps (World.grownBy_alloc w o r)
theorem own_hide {w : World} {B e size : Nat} {v : Value} {n : Nat} {xs : List Value} {r : Option Nat} (h : w.ownsRow B e size v n xs) (hr : ∀ g, r = some g → g < B) : (hide r w).ownsRow B e size v n xs := by
  cases r with
  | none => exact h
  | some g0 =>
    refine ⟨h.1, ?_⟩
    rcases h.2 with h | ⟨g, cap, cur, rfl, hb, hg, rest⟩
    · exact .inl h
    · have := hr g0 rfl
      exact .inr ⟨g, cap, cur, rfl, hb, by rw [hide_heap _ _ _ (by omega)]; exact hg, rest⟩
/-- a part of a row -/
theorem Row.slice {α : Type} [Rep α] {w : World} {b off cap : Nat} {xs : List α} (h : Row w (some ⟨b, off, none⟩) cap xs) {i j : Nat} (hij : i ≤ j) (hj : j ≤ xs.length) :
    Row w (some ⟨b, off + i * Rep.sz α, none⟩) (cap - i) ((xs.drop i).take (j - i)) := by
  refine ⟨?_, by have := h.max; omega, (fun e => by cases e), fun k x hk => ?_⟩
  · have := h.le; simp; omega
  · have hl : k < ((xs.drop i).take (j - i)).length := (List.getElem?_eq_some_iff.1 hk).1
    have hk2 : k < j - i := by simp at hl; omega
    rw [List.getElem?_take_of_lt hk2, List.getElem?_drop] at hk
    obtain ⟨b', off', e, hE⟩ := h.at_ (i + k) x hk
    simp at e
    obtain ⟨rfl, rfl⟩ := e
    refine ⟨b, off + i * Rep.sz α, rfl, ?_⟩
    rw [Nat.add_assoc, ← Nat.add_mul]; exact hE
end Go.Proofs.YtabjghmfjoefpaaDoor
namespace Go.Proofs.YtabjghmfjoefpaaDoor
open Go.RowKit

/-- data of a kind, whose cells are told by a list of values -/
class RepC (α : Type) extends Rep α where
  C : World → List Value → α → Prop
  len : ∀ {w : World} {cs : List Value} {x : α}, C w cs x → cs.length = Rep.sz α
  one : ∀ {w : World} {cs : List Value} {x : α}, C w cs x → ∀ u ∈ cs, u.oneCell' = true
  cmono : ∀ {w w' : World} {cs : List Value} {x : α}, C w cs x → Keeps w w' → C w' cs x
  toE : ∀ {w : World} {cs : List Value} {x : α} {b o : Nat}, C w cs x → (∀ j u, cs[j]? = some u → w.cell? ⟨b, o + j, none⟩ = some u) → Rep.E w b o x
  ofE : ∀ {w : World} {x : α} {b o : Nat}, Rep.E w b o x → ∃ cs, C w cs x ∧ ∀ j u, cs[j]? = some u → w.cell? ⟨b, o + j, none⟩ = some u
  pos : 0 < sz

/-- values that read as a list, element by element -/
inductive CRows {α : Type} [RepC α] (w : World) : List Value → List α → Prop where
  | nil : CRows w [] []
  | cons {cs : List Value} {x : α} {vs : List Value} {xs : List α} : RepC.C w cs x → CRows w vs xs → CRows w (cs ++ vs) (x :: xs)

section
variable {α : Type} [RepC α]
theorem CRows.len {w : World} {vs : List Value} {xs : List α} (h : CRows w vs xs) : vs.length = xs.length * Rep.sz α := by
  induction h with
  | nil => simp
  | cons hc _ ih => rw [List.length_append, RepC.len hc, ih, List.length_cons, Nat.succ_mul, Nat.add_comm]
theorem CRows.one {w : World} {vs : List Value} {xs : List α} (h : CRows w vs xs) : ∀ u ∈ vs, u.oneCell' = true := by
  induction h with
  | nil => intro u hu; simp at hu
  | cons hc _ ih =>
    intro u hu
    rcases List.mem_append.1 hu with hu | hu
    · exact RepC.one hc u hu
    · exact ih u hu
theorem CRows.keeps {w w' : World} {vs : List Value} {xs : List α} (h : CRows w vs xs) (hk : Keeps w w') : CRows w' vs xs := by
  induction h with
  | nil => exact .nil
  | cons hc _ ih => exact .cons (RepC.cmono hc hk) ih
theorem CRows.append {w : World} {vs us : List Value} {xs ys : List α} (h : CRows w vs xs) (k : CRows w us ys) : CRows w (vs ++ us) (xs ++ ys) := by
  induction h with
  | nil => exact k
  | cons hc _ ih => rw [List.append_assoc]; exact .cons hc ih
theorem CRows.single {w : World} {cs : List Value} {x : α} (h : RepC.C w cs x) : CRows w cs [x] := by
  have := CRows.cons h (CRows.nil (w := w) (α := α))
  rwa [List.append_nil] at this
theorem CRows.snoc {w : World} {vs cs : List Value} {xs : List α} {x : α} (h : CRows w vs xs) (k : RepC.C w cs x) : CRows w (vs ++ cs) (xs ++ [x]) := h.append (CRows.single k)
/-- at a block -/
theorem CRows.at_ {w : World} {vs : List Value} {xs : List α} (h : CRows w vs xs) : ∀ {b o : Nat}, (∀ j u, vs[j]? = some u → w.cell? ⟨b, o + j, none⟩ = some u) → ∀ i x, xs[i]? = some x → Rep.E w b (o + i * Rep.sz α) x := by
  induction h with
  | nil => intro b o _ i x hi; simp at hi
  | @cons cs x vs xs hc _ ih =>
    intro b o hat i y hi
    cases i with
    | zero =>
      simp at hi
      subst hi
      rw [Nat.zero_mul, Nat.add_zero]
      refine RepC.toE hc fun j u hj => hat j u ?_
      rw [List.getElem?_append_left (List.getElem?_eq_some_iff.1 hj).1]; exact hj
    | succ i =>
      rw [List.getElem?_cons_succ] at hi
      have := ih (b := b) (o := o + Rep.sz α) (fun j u hj => by
        have := hat (Rep.sz α + j) u (by rw [List.getElem?_append_right (by rw [RepC.len hc]; omega), RepC.len hc, Nat.add_sub_cancel_left]; exact hj)
        rwa [← Nat.add_assoc] at this) i y hi
      rwa [show o + (i + 1) * Rep.sz α = o + Rep.sz α + i * Rep.sz α by rw [Nat.succ_mul]; omega]
/-- a row of the call's own reads as a row -/
theorem own_rowG {w : World} {B e : Nat} {v : Value} {vs : List Value} {xs : List α} (h : w.ownsRow B e (Rep.sz α) v xs.length vs) (hs : CRows w vs xs) : ∃ a cap, v = .slice a xs.length cap ∧ Row w a cap xs := by
  rcases h.2 with ⟨rfl, hn⟩ | ⟨g, cap, cur, rfl, hb, hg, hn, hm, hsz, ht⟩
  · obtain rfl : xs = [] := List.eq_nil_of_length_eq_zero hn
    exact ⟨none, 0, rfl, Row.empty _ _ _ (by omega) (fun _ => rfl)⟩
  · refine ⟨_, cap, rfl, ⟨hn, by unfold maxLen at hm; omega, (fun e => by cases e), fun i x hi => ⟨g, 0, rfl, ?_⟩⟩⟩
    exact hs.at_ (fun j u hj => by rw [Nat.zero_add]; exact own_cells h j u hj) i x hi
/-- the cells of a row -/
theorem crows_of {w : World} {b : Nat} : ∀ (xs : List α) (o : Nat), (∀ i x, xs[i]? = some x → Rep.E w b (o + i * Rep.sz α) x) → ∃ vs, CRows w vs xs ∧ ∀ j u, vs[j]? = some u → w.cell? ⟨b, o + j, none⟩ = some u
  | [], _, _ => ⟨[], .nil, fun j u h => by simp at h⟩
  | x :: xs, o, h => by
    have h0 := h 0 x rfl
    rw [Nat.zero_mul, Nat.add_zero] at h0
    obtain ⟨cs, hc, hat⟩ := RepC.ofE h0
    obtain ⟨vs, hv, hvat⟩ := crows_of xs (o + Rep.sz α) (fun i y hi => by
      have := h (i + 1) y (by rw [List.getElem?_cons_succ]; exact hi)
      rwa [show o + (i + 1) * Rep.sz α = o + Rep.sz α + i * Rep.sz α by rw [Nat.succ_mul]; omega] at this)
    refine ⟨cs ++ vs, .cons hc hv, fun j u hj => ?_⟩
    by_cases hl : j < cs.length
    · rw [List.getElem?_append_left hl] at hj
      exact hat j u hj
    · rw [List.getElem?_append_right (by omega)] at hj
      have := hvat _ u hj
      rw [RepC.len hc] at this
      rwa [show o + Rep.sz α + (j - Rep.sz α) = o + j by have := RepC.len hc; omega] at this
theorem Row.srcG {w : World} {a : Option Addr} {cap : Nat} {xs : List α} (h : Row w a cap xs) : ∃ vs, CRows w vs xs ∧ Src w (Rep.sz α) a xs.length cap vs := by
  rcases h.cases with rfl | ⟨b, off, rfl, _, hat⟩
  · refine ⟨[], .nil, ⟨by simp, fun e => ⟨rfl, h.nil e⟩, fun ad _ j u hj => by simp at hj, fun u hu => by simp at hu⟩⟩
  · obtain ⟨vs, hv, hvat⟩ := crows_of (w := w) (b := b) xs off (fun i x hi => by
      obtain ⟨hl, rfl⟩ := List.getElem?_eq_some_iff.1 hi
      exact hat i hl)
    refine ⟨vs, hv, ⟨hv.len, (fun e => by cases e), ?_, hv.one⟩⟩
    intro ad e j u hj
    simp at e
    subst e
    have ha : (Addr.mk b off none).add j = ⟨b, off + j, none⟩ := by unfold Addr.add; split <;> simp_all
    rw [ha]
    exact hvat j u hj
/-- an element that was laid in a new block, as the source of an append -/
theorem CRows.takeL {w : World} {vs : List Value} {xs : List α} (h : CRows w vs xs) (k : Nat) : CRows w (vs.take (k * Rep.sz α)) (xs.take k) := by
  induction h generalizing k with
  | nil => simp; exact .nil
  | @cons cs x vs xs hc _ ih =>
    cases k with
    | zero => simp; exact .nil
    | succ k =>
      rw [List.take_succ_cons, List.take_append, RepC.len hc, List.take_of_length_le (by rw [RepC.len hc, Nat.succ_mul]; omega), show (k + 1) * Rep.sz α - Rep.sz α = k * Rep.sz α by rw [Nat.succ_mul]; omega]
      exact .cons hc (ih k)
end

instance {α : Type} [Rep α] : RepC (List α) where
  C w cs xs := ∃ a cap, cs = [.slice a xs.length cap] ∧ Row w a cap xs
  len := by rintro w cs xs ⟨a, cap, rfl, _⟩; rfl
  one := by rintro w cs xs ⟨a, cap, rfl, _⟩ u hu; simp at hu; subst hu; rfl
  cmono := by rintro w w' cs xs ⟨a, cap, rfl, h⟩ hk; exact ⟨a, cap, rfl, h.keeps hk⟩
  toE := by
    rintro w cs xs b o ⟨a, cap, rfl, h⟩ hat
    exact ⟨a, cap, hat 0 _ rfl, h⟩
  ofE := by
    rintro w xs b o ⟨a, cap, hc, h⟩
    refine ⟨_, ⟨a, cap, rfl, h⟩, fun j u hj => ?_⟩
    cases j with
    | zero => simp at hj; subst hj; exact hc
    | succ j => simp at hj
  pos := Nat.one_pos
instance : RepC Cel where
  C _ cs c := cs = [.int .i64 c.k, .string c.s, .int .i64 c.n] ∧ c.fit
  len := by rintro w cs c ⟨rfl, _⟩; rfl
  one := by rintro w cs c ⟨rfl, _⟩ u hu; simp at hu; rcases hu with rfl | rfl | rfl <;> rfl
  cmono := by rintro w w' cs c h _; exact h
  toE := by
    rintro w cs c b o ⟨rfl, hf⟩ hat
    exact ⟨hat 0 _ rfl, hat 1 _ rfl, hat 2 _ rfl, hf⟩
  ofE := by
    rintro w c b o ⟨h0, h1, h2, hf⟩
    refine ⟨_, ⟨rfl, hf⟩, fun j u hj => ?_⟩
    match j with
    | 0 => simp at hj; subst hj; exact h0
    | 1 => simp at hj; subst hj; exact h1
    | 2 => simp at hj; subst hj; exact h2
    | j + 3 => simp at hj
  pos := by decide
instance : RepC Int where
  C _ cs n := cs = [.int .i64 n] ∧ -9223372036854775808 ≤ n ∧ n ≤ 9223372036854775807
  len := by rintro w cs c ⟨rfl, _⟩; rfl
  one := by rintro w cs c ⟨rfl, _⟩ u hu; simp at hu; subst hu; rfl
  cmono := by rintro w w' cs c h _; exact h
  toE := by
    rintro w cs c b o ⟨rfl, h1, h2⟩ hat
    exact ⟨hat 0 _ rfl, h1, h2⟩
  ofE := by
    rintro w c b o ⟨h0, h1, h2⟩
    refine ⟨_, ⟨rfl, h1, h2⟩, fun j u hj => ?_⟩
    cases j with
    | zero => simp at hj; subst hj; exact h0
    | succ j => simp at hj
  pos := by decide

section
variable {α : Type} [RepC α]
/-- a slice literal, laid in a new block -/
theorem row_new (w : World) (cs : Array Value) (T : TypeId × Nat) {xs : List α} (h : CRows (w.alloc (.cells cs T.1)) cs.toList xs) (hl : xs.length ≤ 9223372036854775807) :
    Row (w.alloc (.cells cs T.1)) (some ⟨w.heap.size, 0, none⟩) xs.length xs :=
  ⟨Nat.le_refl _, hl, (fun e => by cases e), fun i x hi => ⟨w.heap.size, 0, rfl, h.at_ (fun j u hj => by
    rw [Nat.zero_add, World.cell?_alloc_at _ _ _ _ rfl]; simpa using hj) i x hi⟩⟩
theorem Row.lit {w : World} {a : Option Addr} {cap : Nat} {xs ys : List α} (h : Row w a cap xs) (e : xs = ys) : Row w a cap ys := e ▸ h
end

/-- the world without all blocks below B -/
def under (B : Nat) (w : World) : World := { w with heap := w.heap.mapIdx fun i o => if i < B then .cells #[] 0 else o }
theorem under_size (B : Nat) (w : World) : (under B w).heap.size = w.heap.size := by simp [under]
theorem under_heap {B : Nat} {w : World} {b : Nat} (h : B ≤ b) : (under B w).heap[b]? = w.heap[b]? := by
  unfold under
  rw [Array.getElem?_mapIdx]
  cases hw : w.heap[b]? with
  | none => rfl
  | some o => simp; intro; omega
theorem under_cell {B : Nat} {w : World} {b o : Nat} {v : Value} (h : (under B w).cell? ⟨b, o, none⟩ = some v) : B ≤ b ∧ w.cell? ⟨b, o, none⟩ = some v := by
  by_cases hb : B ≤ b
  · refine ⟨hb, ?_⟩
    rwa [World.cell?, under_heap hb] at h
  · exfalso
    unfold under at h
    simp only [World.cell?, Array.getElem?_mapIdx] at h
    cases hw : w.heap[b]? with
    | none => rw [hw] at h; simp at h
    | some o => rw [hw] at h; simp [show b < B by omega] at h
theorem under_of {B : Nat} {w : World} {b o : Nat} {v : Value} (hb : B ≤ b) (h : w.cell? ⟨b, o, none⟩ = some v) : (under B w).cell? ⟨b, o, none⟩ = some v := by
  rwa [World.cell?, under_heap hb]
theorem under_keeps (B : Nat) (w : World) : Keeps (under B w) w := fun _ _ _ h => (under_cell h).2
theorem under_mono {B B' : Nat} (h : B' ≤ B) (w : World) : Keeps (under B w) (under B' w) := fun _ _ _ hc => under_of (Nat.le_trans h (under_cell hc).1) (under_cell hc).2
theorem under_hide {B : Nat} (w : World) {r : Option Nat} (hr : ∀ g, r = some g → g < B) : Keeps (under B w) (hide r w) := by
  intro b o v hc
  obtain ⟨h1, h2⟩ := under_cell hc
  cases r with
  | none => exact h2
  | some g => exact hide_of_ne (by have := hr g rfl; omega) h2
theorem under_grown {B : Nat} {w w' : World} {r : Option Nat} (hg : w.grownBy w' r) (hr : ∀ g, r = some g → g < B) : Keeps (under B w) (under B w') := by
  intro b o v hc
  obtain ⟨h1, h2⟩ := under_cell hc
  refine under_of h1 ?_
  exact (World.cell?_of_block (w := w) (a := ⟨b, o, none⟩) (hg.block b (cell_lt h2) (fun e => by have := hr b e.symm; omega))).trans h2
theorem under_below {B : Nat} {w w' : World} (hb : Below w.heap.size w w') : Keeps (under B w) (under B w') := under_grown (below_grown hb none) (fun g e => by cases e)
theorem under_own {w : World} {B e size : Nat} {v : Value} {n : Nat} {xs : List Value} (h : w.ownsRow B e size v n xs) : (under B w).ownsRow B e size v n xs := by
  refine ⟨h.1, ?_⟩
  rcases h.2 with h | ⟨g, cap, cur, rfl, hb, hg, rest⟩
  · exact .inl h
  · exact .inr ⟨g, cap, cur, rfl, hb, by rw [under_heap hb]; exact hg, rest⟩
theorem under_new {w0 w : World} (h : Keeps w0 w) {B : Nat} (hn : ∀ b o v, w0.cell? ⟨b, o, none⟩ = some v → B ≤ b) : Keeps w0 (under B w) := fun b o v hc => under_of (hn b o v hc) (h _ _ _ hc)

/-- a slice that lies in no block below B -/
def NewRow {α : Type} [Rep α] (B : Nat) (w : World) (a : Option Addr) (cap : Nat) (xs : List α) : Prop := Row (under B w) a cap xs
section
variable {α : Type} [Rep α] {B : Nat} {w w' : World} {a : Option Addr} {cap : Nat} {xs : List α}
theorem NewRow.row (h : NewRow B w a cap xs) : Row w a cap xs := Row.keeps h (under_keeps B w)
theorem NewRow.hide (h : NewRow B w a cap xs) {r : Option Nat} (hr : ∀ g, r = some g → g < B) : Row (hide r w) a cap xs := Row.keeps h (under_hide w hr)
theorem NewRow.below (h : NewRow B w a cap xs) (hb : Below w.heap.size w w') : NewRow B w' a cap xs := Row.keeps h (under_below hb)
theorem NewRow.grown (h : NewRow B w a cap xs) {r : Option Nat} (hg : w.grownBy w' r) (hr : ∀ g, r = some g → g < B) : NewRow B w' a cap xs := Row.keeps h (under_grown hg hr)
theorem NewRow.mono {B' : Nat} (h : NewRow B w a cap xs) (hb : B' ≤ B) : NewRow B' w a cap xs := Row.keeps h (under_mono hb w)
theorem NewRow.empty (B : Nat) (w : World) (a : Option Addr) (cap : Nat) (h : cap ≤ 9223372036854775807) (hn : a = none → cap = 0) : NewRow B w a cap ([] : List α) := Row.empty _ _ _ h hn
theorem NewRow.lit {ys : List α} (h : NewRow B w a cap xs) (e : xs = ys) : NewRow B w a cap ys := e ▸ h
end
theorem own_newG {α : Type} [RepC α] {w : World} {B e : Nat} {v : Value} {vs : List Value} {xs : List α} (h : w.ownsRow B e (Rep.sz α) v xs.length vs) (hs : CRows (under B w) vs xs) :
    ∃ a cap, v = .slice a xs.length cap ∧ NewRow B w a cap xs := own_rowG (under_own h) hs
theorem crows_flat (w : World) {xs : List Cel} (h : ∀ c ∈ xs, c.fit) : CRows w (flat xs) xs := by
  induction xs with
  | nil => exact .nil
  | cons c xs ih => exact .cons (cs := [.int .i64 c.k, .string c.s, .int .i64 c.n]) ⟨rfl, h c (by simp)⟩ (ih fun d hd => h d (by simp [hd]))
theorem crows_ints (w : World) {xs : List Int} (h : ∀ n ∈ xs, -9223372036854775808 ≤ n ∧ n ≤ 9223372036854775807) : CRows w (xs.map (Value.int .i64)) xs := by
  induction xs with
  | nil => exact .nil
  | cons c xs ih => exact .cons (cs := [.int .i64 c]) ⟨rfl, h c (by simp)⟩ (ih fun d hd => h d (by simp [hd]))
theorem own_new {w : World} {B e : Nat} {v : Value} {xs : List Cel} (h : w.ownsRow B e 3 v xs.length (flat xs)) (hf : ∀ c ∈ xs, c.fit) : ∃ a cap, v = .slice a xs.length cap ∧ NewRow B w a cap xs :=
  own_newG h (crows_flat _ hf)

theorem fresh_own {w wr : World} {e size n : Nat} {v : Value} {xs : List Value} (hb : Below w.heap.size w wr) (h : wr.ownsRow w.heap.size e size v n xs) : Keeps w (hide v.ownBlock wr) := by
  cases hv : v.ownBlock with
  | none => exact Keeps.of hb
  | some g => exact fresh_keeps (Keeps.of hb) (h.lt g hv).1
end Go.Proofs.YtabjghmfjoefpaaDoor
namespace Go.Proofs.YtabjghmfjoefpaaDoor
open Go.RowKit

theorem own_belowA {w w' : World} {B e size : Nat} {v : Value} {n : Nat} {xs : List Value} (h : w.ownsRow B e size v n xs) (hb : Below w.heap.size w w') : w'.ownsRow B e size v n xs :=
  h.kept (row := none) ⟨hb.os, hb.tape, hb.output, hb.size, fun k hk _ => hb.block k hk⟩ (by cases hv : v.ownBlock <;> simp)

/-- a row of the call's own that is appended to -/
structure AccInv {α : Type} [RepC α] (B e : Nat) (acc : List α) (v : Value) (w : World) : Prop where
  ex : ∃ vs, w.ownsRow B e (Rep.sz α) v acc.length vs ∧ CRows (hide v.ownBlock w) vs acc
section
variable {α : Type} [RepC α] {B e : Nat} {acc : List α} {v : Value} {w w' : World}
theorem AccInv.nil (B e : Nat) (w : World) : AccInv B e ([] : List α) (.slice none 0 0) w := ⟨[], World.ownsRow_nil _ _ _ _, .nil⟩
theorem AccInv.made {T : Nat} (w : World) (hB : B ≤ w.heap.size) (he : e = T) : AccInv B e ([] : List α) (.slice (some ⟨w.heap.size, 0, none⟩) 0 0) (w.alloc (.cells #[] T)) :=
  ⟨[], by subst he; simpa using World.ownsRow_made (base := B) (e := e) (size := Rep.sz α) w #[] 0 hB (by unfold maxLen; omega) (by simp), .nil⟩
theorem AccInv.below (h : AccInv B e acc v w) (hb : Below w.heap.size w w') : AccInv B e acc v w' :=
  let ⟨vs, ho, hc⟩ := h.ex
  ⟨vs, own_belowA ho hb, hc.keeps (below_hide hb _)⟩
theorem AccInv.lt (h : AccInv B e acc v w) : ∀ g, v.ownBlock = some g → B ≤ g ∧ g < w.heap.size := let ⟨_, ho, _⟩ := h.ex; fun g hg => ho.lt g hg
theorem AccInv.row (h : AccInv B e acc v w) : ∃ a cap, v = .slice a acc.length cap ∧ Row w a cap acc :=
  let ⟨_, ho, hc⟩ := h.ex; own_rowG ho (hc.keeps (hide_keeps _ _))
theorem AccInv.lit {acc' : List α} (h : AccInv B e acc v w) (e1 : acc = acc') : AccInv B e acc' v w := e1 ▸ h
/-- what was there when the call began is read beside the row -/
theorem AccInv.fresh {w0 : World} (h : AccInv w0.heap.size e acc v w) (hb : Below w0.heap.size w0 w) : Keeps w0 (hide v.ownBlock w) := by
  obtain ⟨_, ho, _⟩ := h.ex
  cases hv : v.ownBlock with
  | none => exact Keeps.of hb
  | some g => exact fresh_keeps (Keeps.of hb) (ho.lt g hv).1
/-- a slice that is newer than the row is read beside it -/
theorem AccInv.newer {β : Type} [Rep β] {B2 : Nat} {w2 : World} {a : Option Addr} {cap : Nat} {ys : List β} (h : AccInv B e acc v w) (hB : w.heap.size ≤ B2) (hr : NewRow B2 w2 a cap ys) : Row (hide v.ownBlock w2) a cap ys :=
  hr.hide fun g hg => Nat.lt_of_lt_of_le (h.lt g hg).2 hB
end

/-- append of one element, laid just ahead of it -/
theorem wpList_acc {α : Type} [RepC α] {P : Program} {w : World} {ops : Array Oper} {rest : List Oper} {o : Oper} {a : Act} {Q : Exit → Act → World → Prop} (hgd : o.guard = none) (s x : Operand) (t : TypeId)
    (ho : o.op = .call { callee := .builtin .append, args := #[s, x], argTypes := #[t, t] })
    (B e bytes : Nat) (z : Value) (ht : P.underlying t = some (.slice e)) (hinfo : (P.info? e).map (fun i => (i.zero, i.size, i.bytes)) = some (some z, Rep.sz α, bytes))
    (hzs : z.cells.size = Rep.sz α) (hby : bytes ≤ 1000)
    (v : Value) (acc : List α) (hacc : AccInv B e acc v w) (hs : a.eval s = v) (T : Nat) (cs : Array Value) (y : α) (hcs : RepC.C (hide v.ownBlock w) cs.toList y)
    (hx : a.eval x = .slice (some ⟨w.heap.size, 0, none⟩) 1 1)
    (hmax : acc.length + 1 ≤ 1000000000) (hB : B ≤ w.heap.size)
    (h : ∀ v' w', AccInv B e (acc ++ [y]) v' w' → Below B w w' → wpList P ops Q rest (a.put o.dst v') w') : wpList P ops Q (o :: rest) a (w.alloc (.cells cs T)) := by
  obtain ⟨vs, hown, hc⟩ := hacc.ex
  refine wpList_app2 hgd s x t ho B e (Rep.sz α) bytes z ht hinfo hzs RepC.pos hby v acc.length vs hs (hown.alloc _) ⟨w.heap.size, 0, none⟩ 1 1 cs.toList hx (src_new w cs T (Rep.sz α) (by have := RepC.len hcs; simpa using this) (fun u hu => RepC.one hcs u hu)) hmax (Nat.le_trans hB (by simp)) ?_
  intro v' w' h1 _ h3 h4
  refine h v' w' ⟨vs ++ cs.toList, by rw [List.length_append]; exact h1, ?_⟩ (((Below.refl B w).alloc hB _).trans h3)
  exact ((hc.keeps (alloc_hide w _ _)).keeps h4).snoc (RepC.cmono (RepC.cmono hcs (alloc_hide w _ _)) h4)
theorem Row.srcK {α : Type} [RepC α] {w w' : World} {a : Option Addr} {cap : Nat} {xs : List α} (h : Row w a cap xs) (hk : Keeps w w') : ∃ vs, CRows w vs xs ∧ Src w' (Rep.sz α) a xs.length cap vs := by
  rcases h.cases with rfl | ⟨b, off, rfl, _, hat⟩
  · refine ⟨[], .nil, ⟨by simp, fun e => ⟨rfl, h.nil e⟩, fun ad _ j u hj => by simp at hj, fun u hu => by simp at hu⟩⟩
  · obtain ⟨vs, hv, hvat⟩ := crows_of (w := w) (b := b) xs off (fun i x hi => by
      obtain ⟨hl, rfl⟩ := List.getElem?_eq_some_iff.1 hi
      exact hat i hl)
    refine ⟨vs, hv, ⟨hv.len, (fun e => by cases e), ?_, hv.one⟩⟩
    intro ad e j u hj
    simp at e
    subst e
    have ha : (Addr.mk b off none).add j = ⟨b, off + j, none⟩ := by unfold Addr.add; split <;> simp_all
    rw [ha]
    exact hk _ _ _ (hvat j u hj)
/-- append of all of a slice -/
theorem wpList_accs {α : Type} [RepC α] {P : Program} {w : World} {ops : Array Oper} {rest : List Oper} {o : Oper} {a : Act} {Q : Exit → Act → World → Prop} (hgd : o.guard = none) (s x : Operand) (t : TypeId)
    (ho : o.op = .call { callee := .builtin .append, args := #[s, x], argTypes := #[t, t] })
    (B e bytes : Nat) (z : Value) (ht : P.underlying t = some (.slice e)) (hinfo : (P.info? e).map (fun i => (i.zero, i.size, i.bytes)) = some (some z, Rep.sz α, bytes))
    (hzs : z.cells.size = Rep.sz α) (hby : bytes ≤ 1000)
    (v : Value) (acc : List α) (hacc : AccInv B e acc v w) (hs : a.eval s = v) (sa : Option Addr) (cap : Nat) (ys : List α) (hr : Row (hide v.ownBlock w) sa cap ys)
    (hx : a.eval x = .slice sa ys.length cap)
    (hmax : acc.length + ys.length ≤ 1000000000) (hB : B ≤ w.heap.size)
    (h : ∀ v' w', AccInv B e (acc ++ ys) v' w' → Below B w w' → wpList P ops Q rest (a.put o.dst v') w') : wpList P ops Q (o :: rest) a w := by
  obtain ⟨vs, hown, hc⟩ := hacc.ex
  obtain ⟨us, hu, hsrc⟩ := hr.srcK (hide_keeps _ _)
  cases sa with
  | none =>
    have h0 : ys.length = 0 := (hsrc.nil rfl).1
    have hc0 : cap = 0 := (hsrc.nil rfl).2
    obtain rfl : ys = [] := List.eq_nil_of_length_eq_zero h0
    obtain ⟨i, hi, hz0, hz1, hz2⟩ := info_parts hinfo
    subst hc0
    refine wpList_append_own_none hgd s x t ho B e i (Rep.sz α) ht hi v acc.length vs hs hown hx ?_
    exact h v w ⟨vs, by rw [List.append_nil]; exact hown, by rw [List.append_nil]; exact hc⟩ (Below.refl _ _)
  | some ad =>
    refine wpList_app2 hgd s x t ho B e (Rep.sz α) bytes z ht hinfo hzs RepC.pos hby v acc.length vs hs hown ad ys.length cap us hx hsrc hmax hB ?_
    intro v' w' h1 _ h3 h4
    exact h v' w' ⟨vs ++ us, by rw [List.length_append]; exact h1, (hc.keeps h4).append (hu.keeps h4)⟩ h3
end Go.Proofs.YtabjghmfjoefpaaDoor
namespace Go.Proofs.YtabjghmfjoefpaaDoor
open Go.RowKit

def okByte (c : UInt8) : Bool := decide (32 ≤ (c.toNat : Int)) && decide ((c.toNat : Int) ≤ 126) && !((c.toNat : Int) == 39)
def nameOk (s : ByteArray) : Bool := s.data.toList.all okByte && decide (1 ≤ (s.size : Int)) && decide ((s.size : Int) ≤ 12)
def cellOk (c : Cel) : Bool :=
  (decide (c.k = 1) && decide (c.s.toList = []) && decide (0 ≤ c.n) && decide (c.n ≤ 999)) ||
  (decide (c.k = 2) && decide (c.s.toList = []) && decide (-2147483647 ≤ c.n) && decide (c.n ≤ 2147483647)) ||
  (decide (c.k = 3) && nameOk c.s && decide (0 ≤ c.n) && decide (c.n ≤ 6))
def ar (c : Cel) : Nat := if c.k = 3 then c.n.toNat else 0
def sk : Nat → List Cel → Option (List Cel)
  | 0, l => some l
  | _ + 1, [] => none
  | m + 1, c :: l => if cellOk c then sk (m + ar c) l else none
def endI (xs : List Cel) (i : Nat) : Int := match sk 1 (xs.drop i) with
  | none => -1
  | some r => xs.length - r.length

theorem take_snoc (s : ByteArray) (k : Nat) (h : k < s.size) : s.data.toList.take (k + 1) = s.data.toList.take k ++ [s[k]] := by
  rw [List.take_succ_eq_append_getElem (by simpa using h)]; rfl
theorem okByte_true {c : UInt8} (h : okByte c = true) : 32 ≤ (c.toNat : Int) ∧ (c.toNat : Int) ≤ 126 ∧ ((c.toNat : Int) == 39) = false := by
  simp [okByte] at h ⊢; omega
theorem okByte_false {c : UInt8} (h : okByte c = false) : (c.toNat : Int) < 32 ∨ 32 ≤ (c.toNat : Int) ∧ 126 < (c.toNat : Int) ∨ 32 ≤ (c.toNat : Int) ∧ (c.toNat : Int) ≤ 126 ∧ ((c.toNat : Int) == 39) = true := by
  simp [okByte] at h ⊢; omega
theorem all_bad (s : ByteArray) (k : Nat) (h : k < s.size) (hb : okByte s[k] = false) : nameOk s = false := by
  have : s.data.toList.all okByte = false := by
    rw [List.all_eq_false]
    exact ⟨s[k], by simp [ByteArray.getElem_eq_getElem_data], by simp [hb]⟩
  simp [nameOk, this]
theorem all_snoc (s : ByteArray) (k : Nat) (h : k < s.size) (h1 : (s.data.toList.take k).all okByte = true) (hb : okByte s[k] = true) : (s.data.toList.take (k + 1)).all okByte = true := by
  rw [take_snoc s k h, List.all_append, h1]; simp [hb]
theorem nameOk_of (s : ByteArray) (h : s.data.toList.all okByte = true) : nameOk s = (decide (1 ≤ (s.size : Int)) && decide ((s.size : Int) ≤ 12)) := by
  simp [nameOk, h]

theorem sk_step (m : Nat) (xs : List Cel) (i : Nat) (h : i < xs.length) : sk (m + 1) (xs.drop i) = if cellOk xs[i] then sk (m + ar xs[i]) (xs.drop (i + 1)) else none := by
  rw [List.drop_eq_getElem_cons h]; rfl
theorem sk_end (m : Nat) (xs : List Cel) (i : Nat) (h : xs.length ≤ i) : sk (m + 1) (xs.drop i) = none := by
  rw [List.drop_eq_nil_of_le h]; rfl
theorem ar_le (c : Cel) (h : cellOk c = true) : ar c ≤ 6 := by
  unfold ar; simp [cellOk] at h; split <;> omega
theorem cellOk_fun (c : Cel) (h : cellOk c = true) (h3 : (c.k == 3) = true) : 0 ≤ c.n ∧ c.n ≤ 6 := by
  simp [cellOk] at h h3; omega
theorem endI_zero {xs : List Cel} {i j : Nat} (h : sk 1 (xs.drop i) = sk 0 (xs.drop j)) (hj : j ≤ xs.length) : endI xs i = j := by
  unfold endI; rw [h]; simp [sk]; omega
theorem endI_none {xs : List Cel} {i : Nat} (h : sk 1 (xs.drop i) = none) : endI xs i = -1 := by
  unfold endI; rw [h]
section
variable {xs : List Cel} {i0 k m : Nat}
theorem end_l1 (h : sk 1 (xs.drop i0) = sk (m + 1) (xs.drop k)) (hk : k < xs.length) (ho : cellOk xs[k] = false) : endI xs i0 = -1 :=
  endI_none (by rw [h, sk_step m xs k hk, ho]; rfl)
theorem end_l2 (hm : m ≤ 6 * k) (hk' : k ≤ 1048576) (h : sk 1 (xs.drop i0) = sk (m + 1) (xs.drop k)) (hk : k < xs.length) (ho : cellOk xs[k] = true) (h3 : (xs[k].k == 3) = true)
    (hz : (wrap64 ((m : Int) + xs[k].n) == 0) = true) : endI xs i0 = k + 1 := by
  have hn := cellOk_fun _ ho h3
  have : wrap64 ((m : Int) + xs[k].n) = (m : Int) + xs[k].n := IntWalk.wrap64_in _ (by constructor <;> omega)
  rw [this] at hz; simp at hz h3
  exact endI_zero (by rw [h, sk_step m xs k hk, ho]; simp only [if_true]; congr 1; unfold ar; rw [if_pos h3]; omega) hk
theorem end_l3 (hm : m ≤ 6 * k) (hk' : k ≤ 1048576) (h : sk 1 (xs.drop i0) = sk (m + 1) (xs.drop k)) (hk : k < xs.length) (ho : cellOk xs[k] = true) (h3 : (xs[k].k == 3) = true)
    (hz : (wrap64 ((m : Int) + xs[k].n) == 0) = false) : ∃ m' : Nat, wrap64 ((m : Int) + xs[k].n) = m' + 1 ∧ m' ≤ 6 * (k + 1) ∧ sk 1 (xs.drop i0) = sk (m' + 1) (xs.drop (k + 1)) := by
  have hn := cellOk_fun _ ho h3
  have : wrap64 ((m : Int) + xs[k].n) = (m : Int) + xs[k].n := IntWalk.wrap64_in _ (by constructor <;> omega)
  rw [this] at hz ⊢; simp at hz h3
  refine ⟨m + xs[k].n.toNat - 1, by omega, by omega, ?_⟩
  rw [h, sk_step m xs k hk, ho]; simp only [if_true]; congr 1; unfold ar; rw [if_pos h3]; omega
theorem end_l4 (h : sk 1 (xs.drop i0) = sk (m + 1) (xs.drop k)) (hk : k < xs.length) (ho : cellOk xs[k] = true) (h3 : (xs[k].k == 3) = false)
    (hz : ((m : Int) == 0) = true) : endI xs i0 = k + 1 := by
  simp at hz h3
  exact endI_zero (by rw [h, sk_step m xs k hk, ho]; simp only [if_true]; congr 1; unfold ar; rw [if_neg h3]; omega) hk
theorem end_l5 (h : sk 1 (xs.drop i0) = sk (m + 1) (xs.drop k)) (hk : k < xs.length) (ho : cellOk xs[k] = true) (h3 : (xs[k].k == 3) = false)
    (hz : ((m : Int) == 0) = false) : sk 1 (xs.drop i0) = sk (m - 1 + 1) (xs.drop (k + 1)) := by
  simp at hz h3
  rw [h, sk_step m xs k hk, ho]; simp only [if_true]; congr 1; unfold ar; rw [if_neg h3]; omega
end
def rightB (xs : List Cel) : Bool := decide ((xs.length : Int) ≤ 200) && decide (endI xs 0 = xs.length)
def arI (c : Cel) : Int := if c.k = 3 then c.n else 0
theorem rightB_pos {xs : List Cel} (h : xs.length < 1) : rightB xs = false := by
  obtain rfl : xs = [] := List.eq_nil_of_length_eq_zero (by omega)
  decide
theorem rightB_le {xs : List Cel} (h : (xs.length : Int) ≤ 200) : (endI xs 0 == xs.length) = rightB xs := by
  rw [rightB, decide_eq_true h, Bool.true_and]; rfl
theorem rightB_gt {xs : List Cel} (h : 200 < (xs.length : Int)) : false = rightB xs := by
  simp [rightB]; intros; omega

def afterI (xs : List Cel) (i j : Nat) : Int := match sk j (xs.drop i) with
  | none => -1
  | some r => xs.length - r.length
def passI (xs : List Cel) (i : Int) : Int := if 0 ≤ i then endI xs i.toNat else -1
theorem sk_add (a b : Nat) (l : List Cel) : sk (a + b) l = (sk a l).bind (sk b) := by
  induction l generalizing a with
  | nil => cases a with
    | zero => simp [sk]
    | succ a => rw [show a + 1 + b = a + b + 1 by omega]; rfl
  | cons c l ih => cases a with
    | zero => simp [sk]
    | succ a =>
      rw [show a + 1 + b = a + b + 1 by omega]
      simp only [sk]
      split
      · rw [show a + b + ar c = a + ar c + b by omega, ih]
      · rfl
theorem sk_suffix (m : Nat) (l r : List Cel) (h : sk m l = some r) : r.length ≤ l.length ∧ r = l.drop (l.length - r.length) := by
  induction l generalizing m with
  | nil => cases m with
    | zero => simp [sk] at h; subst h; simp
    | succ m => simp [sk] at h
  | cons c l ih => cases m with
    | zero => simp [sk] at h; subst h; simp
    | succ m =>
      simp only [sk] at h
      split at h
      · obtain ⟨h1, h2⟩ := ih _ h
        refine ⟨by simp; omega, ?_⟩
        rw [show (c :: l).length - r.length = (l.length - r.length) + 1 by simp; omega]
        exact h2
      · cases h
theorem sk_at {xs : List Cel} {i j : Nat} {r : List Cel} (hi : i ≤ xs.length) (h : sk j (xs.drop i) = some r) : r.length ≤ xs.length - i ∧ xs.drop (xs.length - r.length) = r := by
  obtain ⟨h1, h2⟩ := sk_suffix _ _ _ h
  rw [List.length_drop] at h1 h2
  refine ⟨h1, ?_⟩
  rw [List.drop_drop] at h2
  rw [show xs.length - r.length = i + (xs.length - i - r.length) by omega]
  exact h2.symm
theorem afterI_zero {xs : List Cel} {i : Nat} (h : i ≤ xs.length) : afterI xs i 0 = i := by
  simp [afterI, sk]; omega
theorem afterI_succ {xs : List Cel} {i j : Nat} (hi : i ≤ xs.length) : passI xs (afterI xs i j) = afterI xs i (j + 1) := by
  unfold afterI
  rw [sk_add]
  cases h : sk j (xs.drop i) with
  | none => rfl
  | some r =>
    obtain ⟨h1, h2⟩ := sk_at hi h
    simp only [Option.bind_some]
    unfold passI
    rw [if_pos (by omega), show ((xs.length : Int) - r.length).toNat = xs.length - r.length by omega]
    unfold endI
    rw [h2]
theorem endI_ok {xs : List Cel} {i : Nat} (hi : i < xs.length) (h : cellOk xs[i] = true) : endI xs i = afterI xs (i + 1) (ar xs[i]) := by
  unfold endI afterI
  have := sk_step 0 xs i hi
  rw [Nat.zero_add] at this
  rw [this, h]; simp
theorem endI_bad {xs : List Cel} {i : Nat} (hi : i < xs.length) (h : cellOk xs[i] = false) : endI xs i = -1 := by
  unfold endI
  have := sk_step 0 xs i hi
  rw [Nat.zero_add] at this
  rw [this, h]; simp
theorem endI_out {xs : List Cel} {i : Nat} (hi : xs.length ≤ i) : endI xs i = -1 := endI_none (sk_end 0 xs i hi)
theorem afterI_range {xs : List Cel} {i j : Nat} (hi : i ≤ xs.length) : afterI xs i j = -1 ∨ (i : Int) ≤ afterI xs i j ∧ afterI xs i j ≤ xs.length := by
  unfold afterI
  cases h : sk j (xs.drop i) with
  | none => exact .inl rfl
  | some r => obtain ⟨h1, _⟩ := sk_at hi h; right; simp only; omega
theorem arI_ar {c : Cel} (h : cellOk c = true) : arI c = ar c := by
  unfold arI ar
  by_cases h3 : c.k = 3
  · have := cellOk_fun c h (by simp [h3]); rw [if_pos h3, if_pos h3]; omega
  · rw [if_neg h3, if_neg h3]; rfl

def varsGo (acc : List Int) : List Cel → List Int
  | [] => acc
  | c :: l => varsGo (if c.k = 1 ∧ c.n ∉ acc then acc ++ [c.n] else acc) l
def varsL (xs : List Cel) : List Int := varsGo [] xs
theorem varsGo_step (acc : List Int) (xs : List Cel) (k : Nat) (h : k < xs.length) : varsGo acc (xs.drop k) = varsGo (if xs[k].k = 1 ∧ xs[k].n ∉ acc then acc ++ [xs[k].n] else acc) (xs.drop (k + 1)) := by
  rw [List.drop_eq_getElem_cons h]; rfl
theorem varsGo_fit (xs : List Cel) (hf : ∀ c ∈ xs, c.fit) : ∀ acc : List Int, (∀ n ∈ acc, -9223372036854775808 ≤ n ∧ n ≤ 9223372036854775807) → ∀ n ∈ varsGo acc xs, -9223372036854775808 ≤ n ∧ n ≤ 9223372036854775807 := by
  induction xs with
  | nil => intro acc h; exact h
  | cons c l ih =>
    intro acc h
    refine ih (fun d hd => hf d (List.mem_cons_of_mem _ hd)) _ ?_
    have hc := hf c List.mem_cons_self
    split
    · intro n hn
      rcases List.mem_append.1 hn with h' | h'
      · exact h n h'
      · simp at h'; subst h'; exact ⟨hc.n1, hc.n2⟩
    · exact h
theorem varsGo_length (xs : List Cel) : ∀ acc : List Int, (varsGo acc xs).length ≤ acc.length + xs.length := by
  induction xs with
  | nil => intro acc; simp [varsGo]
  | cons c l ih =>
    intro acc
    have h := ih (if c.k = 1 ∧ c.n ∉ acc then acc ++ [c.n] else acc)
    have h2 : (if c.k = 1 ∧ c.n ∉ acc then acc ++ [c.n] else acc).length ≤ acc.length + 1 := by split <;> simp
    simp only [varsGo, List.length_cons]
    omega
def groundB (xs : List Cel) : Bool := xs.all fun c => !decide (c.k = 1)
theorem varsGo_ne (xs : List Cel) : ∀ acc : List Int, acc ≠ [] → varsGo acc xs ≠ [] := by
  induction xs with
  | nil => intro acc h; exact h
  | cons c l ih =>
    intro acc h
    refine ih _ ?_
    split
    · simp
    · exact h
theorem ground_vars (xs : List Cel) : groundB xs = decide ((varsL xs).length = 0) := by
  unfold varsL
  induction xs with
  | nil => rfl
  | cons c l ih =>
    by_cases h : c.k = 1
    · have h1 : groundB (c :: l) = false := by simp [groundB, h]
      have h2 : varsGo [] (c :: l) = varsGo [c.n] l := by simp [varsGo, h]
      rw [h1, h2]
      have := varsGo_ne l [c.n] (by simp)
      simp [this]
    · have h1 : groundB (c :: l) = groundB l := by simp [groundB, h]
      have h2 : varsGo [] (c :: l) = varsGo [] l := by simp [varsGo, h]
      rw [h1, h2, ih]
end Go.Proofs.YtabjghmfjoefpaaDoor
namespace Go.Proofs.YtabjghmfjoefpaaDoor
open Go.RowKit

set_option maxHeartbeats 400000 in
theorem refname_any (s : ByteArray) (w : World) (hs : s.size ≤ 9223372036854775807) :
    Calls Tryd.prog 90 #[.string s] w fun e w' => e = .returned (.bool (nameOk s)) ∧ w = w' := by
  go_enter Tryd.func90, Tryd.ntmps90
  go_wp2
  go_loop [3] (fun i => ∃ k : Nat, k ≤ s.size ∧ i = .int .i64 k ∧ Hid ((s.data.toList.take k).all okByte = true)) (fun i => s.size - (intOf i).toNat)
  case atStart => exact ⟨0, Nat.zero_le _, rfl, rfl⟩
  case round =>
    obtain ⟨k, hk, rfl, Hall⟩ := hrel
    by_cases hlt : k < s.size
    · cases hb : okByte s[k] with
      | true =>
        obtain ⟨b1, b2, b3⟩ := okByte_true hb
        have HT : Hid ((s.data.toList.take (k+1)).all okByte = true) := all_snoc s k hlt Hall.out hb
        clear hb Hall
        go_wp2
        go_round
        case rel => exact ⟨k + 1, by omega, by go_num, HT⟩
        case measure => simp [intOf]; omega
      | false =>
        have HF : Hid (nameOk s = false) := all_bad s k hlt hb
        have hc := okByte_false hb
        clear hb Hall
        rcases hc with h | ⟨h1, h2⟩ | ⟨h1, h2, h3⟩
        all_goals
          go_wp2
          go_ret
          exact ⟨ret_bool HF.out.symm, rfl⟩
    · have HT : Hid (nameOk s = (decide (1 ≤ (s.size : Int)) && decide ((s.size : Int) ≤ 12))) := by
        have := Hall.out
        rw [List.take_of_length_le (by simp; omega)] at this
        exact nameOk_of s this
      clear Hall
      go_wp2
      all_goals
        go_ret
        refine ⟨ret_bool ?_, rfl⟩
        rw [HT.out]
        simp
        try omega

set_option maxHeartbeats 400000 in
theorem refcell_any (c : Cel) (w : World) (hf : c.fit) :
    Calls Tryd.prog 72 #[c.v] w fun e w' => e = .returned (.bool (cellOk c)) ∧ Below w.heap.size w w' := by
  obtain ⟨k, s, n⟩ := c
  obtain ⟨k1, k2, n1, n2, hs⟩ := hf
  dsimp only [Cel.v] at *
  go_enter Tryd.func72, Tryd.ntmps72
  go_wp2_with (go_at_call 90; refine (refname_any _ _ (by assumption)).mono ?_; rintro e w' ⟨rfl, rfl⟩)
  all_goals
    go_ret
    refine ⟨ret_bool ?_, (Below.refl _ _).alloc (Nat.le_refl _) _⟩
    simp_all [cellOk]
    try omega


set_option maxHeartbeats 400000 in
theorem refend_any (a : Option Addr) (cap : Nat) (i0 : Nat) (w : World) (xs : List Cel) (hr : Row w a cap xs) (hl : xs.length ≤ 1048576) (h0 : i0 ≤ 1048576) :
    Calls Tryd.prog 51 #[.slice a xs.length cap, .int .i64 i0] w fun e w' => e = .returned (.int .i64 (endI xs i0)) ∧ Below w.heap.size w w' := by
  rcases hr.cases with rfl | ⟨b, off, rfl, hb, hat⟩
  · have HE : Hid (endI [] i0 = -1) := endI_none (sk_end 0 [] i0 (by simp))
    have hcap := hr.max
    go_enter Tryd.func51, Tryd.ntmps51
    go_wp2
    go_loopw [5, 6] (fun o i wr => ∃ k : Nat, i = .int .i64 k ∧ Below w.heap.size w wr) (fun o i wr => 0)
    case atStart => exact ⟨i0, rfl, Below.refl _ _⟩
    case round =>
      obtain ⟨k, rfl, hbl⟩ := hrel
      go_wp2
      go_ret
      exact ⟨ret_int HE.out.symm, hbl⟩
  · go_enter Tryd.func51, Tryd.ntmps51
    go_wp2
    go_loopw [5, 6] (fun o i wr => ∃ k m : Nat, k ≤ 1048576 ∧ m ≤ 6 * k ∧ i = .int .i64 k ∧ o = .int .i64 (m + 1) ∧ Below w.heap.size w wr ∧ Hid (sk 1 (xs.drop i0) = sk (m + 1) (xs.drop k))) (fun o i wr => 1048576 - (intOf i).toNat)
    case atStart => exact ⟨i0, 0, h0, Nat.zero_le _, rfl, rfl, Below.refl _ _, rfl⟩
    case round =>
      obtain ⟨k, m, hk, hm, rfl, rfl, hbl, HS⟩ := hrel
      by_cases hlt : k < xs.length
      · obtain ⟨c0, c1, c2, hf⟩ := cel_at hat hbl hlt
        have n1 := hf.n1
        have n2 := hf.n2
        have HA : Hid (cellOk xs[k] = true → (xs[k].k == 3) = true → 0 ≤ xs[k].n ∧ xs[k].n ≤ 6) := cellOk_fun _
        go_wp2_with (go_at_call 72; refine (refcell_any xs[k] _ hf).mono ?_; rintro e w' ⟨rfl, hb1⟩; have d0 := keep c0 hb1; have d2 := keep c2 hb1; clear c0 c1 c2; cases hok : cellOk xs[k])
        · go_ret
          exact ⟨ret_int (end_l1 HS.out hlt hok).symm, hbl.then hb1⟩
        · have h3 : (xs[k].k == 3) = true := by assumption
          have hz : (wrap64 ((m : Int) + xs[k].n) == 0) = true := by assumption
          go_ret
          exact ⟨ret_int (end_l2 hm hk HS.out hlt hok h3 hz).symm, hbl.then hb1⟩
        · have h3 : (xs[k].k == 3) = true := by assumption
          have hz : (wrap64 ((m : Int) + xs[k].n) == 0) = false := by assumption
          obtain ⟨m', e1, e2, e3⟩ := end_l3 hm hk HS.out hlt hok h3 hz
          go_round
          case rel => exact ⟨k + 1, m', by omega, by omega, by go_num, by rw [e1], hbl.then hb1, e3⟩
          case measure => simp [intOf]; omega
        · have h3 : (xs[k].k == 3) = false := by assumption
          have hz : ((m : Int) == 0) = true := by assumption
          go_ret
          exact ⟨ret_int (end_l4 HS.out hlt hok h3 hz).symm, hbl.then hb1⟩
        · have h3 : (xs[k].k == 3) = false := by assumption
          have hz : ((m : Int) == 0) = false := by assumption
          go_round
          case rel => exact ⟨k + 1, m - 1, by omega, by omega, by go_num, by simp at hz; congr 1; omega, hbl.then hb1, end_l5 HS.out hlt hok h3 hz⟩
          case measure => simp [intOf]; omega
      · have HE : Hid (endI xs i0 = -1) := endI_none (by rw [HS.out, sk_end _ _ _ (by omega)])
        go_wp2
        go_ret
        exact ⟨ret_int HE.out.symm, hbl⟩
end Go.Proofs.YtabjghmfjoefpaaDoor
namespace Go.Proofs.YtabjghmfjoefpaaDoor
open Go.RowKit

set_option maxHeartbeats 400000 in
theorem refright_any (a : Option Addr) (cap : Nat) (w : World) (xs : List Cel) (hr : Row w a cap xs) :
    Calls Tryd.prog 32 #[.slice a xs.length cap] w fun e w' => e = .returned (.bool (rightB xs)) ∧ Below w.heap.size w w' := by
  by_cases h1 : xs.length < 1
  · have HF := mkHid (rightB_pos h1)
    go_enter Tryd.func32, Tryd.ntmps32
    go_wp2
    go_ret
    exact ⟨ret_bool HF.out.symm, Below.refl _ _⟩
  · go_enter Tryd.func32, Tryd.ntmps32
    go_wp2_with (go_at_call 51; refine (refend_any a cap 0 _ xs hr (by omega) (by omega)).mono ?_; rintro e w' ⟨rfl, hb1⟩)
    · go_ret
      exact ⟨ret_bool (rightB_le (by assumption)), hb1⟩
    · go_ret
      exact ⟨ret_bool (rightB_gt (by assumption)), Below.refl _ _⟩

set_option maxHeartbeats 400000 in
theorem named_any (s : ByteArray) (w : World) (hs : s.size ≤ 9223372036854775807) :
    Calls Tryd.prog 104 #[.string s] w fun e w' => e = .returned (.bool (nameOk s)) ∧ Below w.heap.size w w' := by
  by_cases h1 : s.size < 1
  · have HF : Hid (nameOk s = false) := by simp [Hid, nameOk]; intros; omega
    go_enter Tryd.func104, Tryd.ntmps104
    go_wp2
    go_ret
    exact ⟨ret_bool HF.out.symm, Below.refl _ _⟩
  by_cases h2 : 12 < s.size
  · have HF : Hid (nameOk s = false) := by simp [Hid, nameOk]; intros; omega
    go_enter Tryd.func104, Tryd.ntmps104
    go_wp2
    go_ret
    exact ⟨ret_bool HF.out.symm, Below.refl _ _⟩
  go_enter Tryd.func104, Tryd.ntmps104
  go_wp2
  go_loopw [15] (fun i wr => ∃ k : Nat, k ≤ s.size ∧ i = .int .i64 k ∧ Below w.heap.size w wr ∧ Hid ((s.data.toList.take k).all okByte = true)) (fun i wr => s.size - (intOf i).toNat)
  case atStart => exact ⟨0, Nat.zero_le _, rfl, Below.refl _ _, rfl⟩
  case round =>
    obtain ⟨k, hk, rfl, hbl, Hall⟩ := hrel
    by_cases hlt : k < s.size
    · cases hb : okByte s[k] with
      | true =>
        obtain ⟨b1, b2, b3⟩ := okByte_true hb
        have HT : Hid ((s.data.toList.take (k+1)).all okByte = true) := all_snoc s k hlt Hall.out hb
        clear hb Hall
        go_wp2
        go_round
        case rel => exact ⟨k + 1, by omega, by go_num, hbl, HT⟩
        case measure => simp [intOf]; omega
      | false =>
        have HF : Hid (nameOk s = false) := all_bad s k hlt hb
        have hc := okByte_false hb
        clear hb Hall
        rcases hc with h | ⟨h1, h2⟩ | ⟨h1, h2, h3⟩
        all_goals
          go_wp2
          go_ret
          exact ⟨ret_bool HF.out.symm, hbl⟩
    · have HT : Hid (nameOk s = (decide (1 ≤ (s.size : Int)) && decide ((s.size : Int) ≤ 12))) := by
        have := Hall.out
        rw [List.take_of_length_le (by simp; omega)] at this
        exact nameOk_of s this
      clear Hall
      go_wp2
      go_ret
      refine ⟨ret_bool ?_, hbl⟩
      rw [HT.out]
      simp
      omega

set_option maxHeartbeats 400000 in
theorem may_any (c : Cel) (w : World) (hf : c.fit) :
    Calls Tryd.prog 93 #[c.v] w fun e w' => e = .returned (.bool (cellOk c)) ∧ Below w.heap.size w w' := by
  obtain ⟨k, s, n⟩ := c
  obtain ⟨k1, k2, n1, n2, hs⟩ := hf
  dsimp only [Cel.v] at *
  go_enter Tryd.func93, Tryd.ntmps93
  have hb0 : Below w.heap.size w w := Below.refl _ _
  go_wp2_with (go_at_call 104; refine (named_any _ _ (by assumption)).mono ?_; rintro e w' ⟨rfl, hb1⟩; replace hb0 := ((Below.refl w.heap.size w).new _).then hb1)
  all_goals
    go_ret
    refine ⟨ret_bool ?_, (by first | assumption | exact (Below.refl _ _).alloc (Nat.le_refl _) _)⟩
    simp_all [cellOk]
    try omega

set_option maxHeartbeats 400000 in
theorem arguments_any (c : Cel) (w : World) :
    Calls Tryd.prog 94 #[c.v] w fun e w' => e = .returned (.int .i64 (arI c)) ∧ Below w.heap.size w w' := by
  obtain ⟨k, s, n⟩ := c
  dsimp only [Cel.v] at *
  go_enter Tryd.func94, Tryd.ntmps94
  go_wp2
  all_goals
    go_ret
    refine ⟨ret_int ?_, (Below.refl _ _).alloc (Nat.le_refl _) _⟩
    simp_all [arI]
end Go.Proofs.YtabjghmfjoefpaaDoor
namespace Go.Proofs.YtabjghmfjoefpaaDoor
open Go.RowKit

def placeI (l : List Int) (n : Int) : Int := if n ∈ l then (l.idxOf n : Int) else -1
theorem not_mem_snoc {xs : List Int} {n : Int} {k : Nat} (hlt : k < xs.length) (h : n ∉ xs.take k) (he : ¬ xs[k] = n) : n ∉ xs.take (k + 1) := by
  rw [List.take_succ_eq_append_getElem hlt, List.mem_append]
  simp only [List.mem_singleton]
  rintro (h' | h')
  · exact h h'
  · exact he h'.symm
theorem idxOf_at {xs : List Int} {n : Int} {k : Nat} (hlt : k < xs.length) (h : n ∉ xs.take k) (he : xs[k] = n) : placeI xs n = k := by
  have hm : n ∈ xs := he ▸ List.getElem_mem hlt
  have hs : xs = xs.take k ++ (xs[k] :: xs.drop (k + 1)) := by
    rw [← List.drop_eq_getElem_cons hlt, List.take_append_drop]
  unfold placeI
  rw [if_pos hm, hs, List.idxOf_append, if_neg h, he]
  simp
  omega

set_option maxHeartbeats 400000 in
theorem refin_any (a : Option Addr) (cap : Nat) (n : Int) (w : World) (xs : List Int) (hx : Row w a cap xs) :
    Calls Tryd.prog 47 #[.slice a xs.length cap, .int .i64 n] w fun e w' => e = .returned (.bool (decide (n ∈ xs))) ∧ Below w.heap.size w w' := by
  have hm := hx.max
  have hm2 := hx.le
  go_enter Tryd.func47, Tryd.ntmps47
  go_wp2
  go_loopw [5] (fun i wr => ∃ k : Nat, k ≤ xs.length ∧ i = .int .i64 k ∧ Below w.heap.size w wr ∧ Hid (n ∉ xs.take k)) (fun i wr => xs.length - (intOf i).toNat)
  case atStart => exact ⟨0, Nat.zero_le _, rfl, Below.refl _ _, by simp [Hid]⟩
  case round =>
    obtain ⟨k, hk, rfl, hbl, HS⟩ := hrel
    by_cases hlt : k < xs.length
    · obtain ⟨b, off, rfl, hb, hat⟩ := hx.cases.resolve_left (fun e => by simp [e] at hlt)
      obtain ⟨c0, _, _⟩ := int_at hat hbl hlt
      by_cases he : xs[k] = n
      · have HE : Hid (true = (decide (n ∈ xs))) := by rw [← he]; simp [Hid]
        have ht : (xs[k] == n) = true := by simp [he]
        clear he HS
        go_wp2
        go_ret
        exact ⟨ret_bool HE.out, hbl⟩
      · have ht : (xs[k] == n) = false := by simp [he]
        have HT : Hid (n ∉ xs.take (k + 1)) := not_mem_snoc hlt HS.out he
        clear he HS
        go_wp2
        go_round
        case rel => exact ⟨k + 1, by omega, by go_num, hbl, HT⟩
        case measure => simp [intOf]; omega
    · have HE : Hid (false = (decide (n ∈ xs))) := by
        have := HS.out
        rw [List.take_of_length_le (by omega)] at this
        simp [Hid, this]
      clear HS
      go_wp2
      go_ret
      exact ⟨ret_bool HE.out, hbl⟩

set_option maxHeartbeats 400000 in
theorem refplace_any (a : Option Addr) (cap : Nat) (n : Int) (w : World) (xs : List Int) (hx : Row w a cap xs) :
    Calls Tryd.prog 48 #[.slice a xs.length cap, .int .i64 n] w fun e w' => e = .returned (.int .i64 (placeI xs n)) ∧ Below w.heap.size w w' := by
  have hm := hx.max
  have hm2 := hx.le
  go_enter Tryd.func48, Tryd.ntmps48
  go_wp2
  go_loopw [5] (fun i wr => ∃ k : Nat, k ≤ xs.length ∧ i = .int .i64 k ∧ Below w.heap.size w wr ∧ Hid (n ∉ xs.take k)) (fun i wr => xs.length - (intOf i).toNat)
  case atStart => exact ⟨0, Nat.zero_le _, rfl, Below.refl _ _, by simp [Hid]⟩
  case round =>
    obtain ⟨k, hk, rfl, hbl, HS⟩ := hrel
    by_cases hlt : k < xs.length
    · obtain ⟨b, off, rfl, hb, hat⟩ := hx.cases.resolve_left (fun e => by simp [e] at hlt)
      obtain ⟨c0, _, _⟩ := int_at hat hbl hlt
      by_cases he : xs[k] = n
      · have HE : Hid ((k : Int) = (placeI xs n)) := by exact (idxOf_at hlt HS.out he).symm
        have ht : (xs[k] == n) = true := by simp [he]
        clear he HS
        go_wp2
        go_ret
        exact ⟨ret_int HE.out, hbl⟩
      · have ht : (xs[k] == n) = false := by simp [he]
        have HT : Hid (n ∉ xs.take (k + 1)) := not_mem_snoc hlt HS.out he
        clear he HS
        go_wp2
        go_round
        case rel => exact ⟨k + 1, by omega, by go_num, hbl, HT⟩
        case measure => simp [intOf]; omega
    · have HE : Hid (-1 = (placeI xs n)) := by
        have := HS.out
        rw [List.take_of_length_le (by omega)] at this
        simp [Hid, placeI, this]
      clear HS
      go_wp2
      go_ret
      exact ⟨ret_int HE.out, hbl⟩

set_option maxHeartbeats 400000 in
theorem refsame_any (a : Option Addr) (cap : Nat) (a' : Option Addr) (cap' : Nat) (w : World) (xs ys : List Cel) (hx : Row w a cap xs) (hy : Row w a' cap' ys) :
    Calls Tryd.prog 26 #[.slice a xs.length cap, .slice a' ys.length cap'] w fun e w' => e = .returned (.bool (decide (xs = ys))) ∧ Below w.heap.size w w' := by
  have hm := hx.max
  have hm2 := hx.le
  have hm3 := hy.max
  have hm4 := hy.le
  by_cases hlen : xs.length = ys.length
  · have hlt2 : ys.length ≤ xs.length := by omega
    have hlt3 : xs.length ≤ ys.length := by omega
    have hne : ((xs.length : Int) != (ys.length : Int)) = false := by simp [hlen]
    clear hlen
    go_enter Tryd.func26, Tryd.ntmps26
    go_wp2
    go_loopw [5] (fun i wr => ∃ k : Nat, k ≤ xs.length ∧ i = .int .i64 k ∧ Below w.heap.size w wr ∧ Hid (xs.take k = ys.take k)) (fun i wr => xs.length - (intOf i).toNat)
    case atStart => exact ⟨0, Nat.zero_le _, rfl, Below.refl _ _, rfl⟩
    case round =>
      obtain ⟨k, hk, rfl, hbl, HS⟩ := hrel
      by_cases hlt : k < xs.length
      · have hlt' : k < ys.length := by omega
        obtain ⟨b, off, rfl, hb, hat⟩ := hx.cases.resolve_left (fun e => by simp [e] at hlt)
        obtain ⟨b', off', rfl, hb', hat'⟩ := hy.cases.resolve_left (fun e => by simp [e] at hlt')
        obtain ⟨c0, c1, c2, hf⟩ := cel_at hat hbl hlt
        obtain ⟨d0, d1, d2, hf2⟩ := cel_at hat' hbl hlt'
        by_cases he : xs[k] = ys[k]
        · have HT : Hid (xs.take (k + 1) = ys.take (k + 1)) := take_eq_snoc HS.out hlt hlt' he
          have hd : decide (xs[k] = ys[k]) = true := decide_eq_true he
          have hne := fun w => run_neq_cel xs[k] ys[k] w
          rw [hd] at hne
          clear he HS hd
          go_wp2
          go_quiet (fail)
          go_wp2
          go_round
          case rel => exact ⟨k + 1, by omega, by go_num, ⟨hbl.os, hbl.tape, hbl.output, hbl.size, hbl.block⟩, HT⟩
          case measure => simp [intOf]; omega
        · have HE : Hid (false = decide (xs = ys)) := by
            rw [Hid, decide_eq_false]; intro e; subst e; exact he rfl
          have hd : decide (xs[k] = ys[k]) = false := decide_eq_false he
          have hne := fun w => run_neq_cel xs[k] ys[k] w
          rw [hd] at hne
          clear he HS hd
          go_wp2
          go_quiet (fail)
          go_wp2
          go_ret
          exact ⟨ret_bool HE.out, ⟨hbl.os, hbl.tape, hbl.output, hbl.size, hbl.block⟩⟩
      · have HE : Hid (true = decide (xs = ys)) := by
          rw [Hid, decide_eq_true (take_all HS.out (by omega) (by omega))]
        clear HS
        go_wp2
        go_ret
        exact ⟨ret_bool HE.out, hbl⟩
  · have HE : Hid (false = decide (xs = ys)) := by
      rw [Hid, decide_eq_false]; intro e; rw [e] at hlen; exact hlen rfl
    have hne : ((xs.length : Int) != (ys.length : Int)) = true := by simp; omega
    clear hlen
    go_enter Tryd.func26, Tryd.ntmps26
    go_wp2
    go_ret
    exact ⟨ret_bool HE.out, Below.refl _ _⟩

end Go.Proofs.YtabjghmfjoefpaaDoor
namespace Go.Proofs.YtabjghmfjoefpaaDoor
open Go.RowKit

theorem Tryd.infoCell : (Tryd.prog.info? 62).map (fun i => (i.zero, i.size, i.bytes)) = some (some (.agg #[.int .i64 0, .string ⟨#[]⟩, .int .i64 0]), 3, 32) := by kernel_rfl

set_option maxHeartbeats 400000 in
theorem clone_any (a : Option Addr) (cap : Nat) (w : World) (xs : List Cel) (hx : Row w a cap xs) (hl : xs.length ≤ 1000000) :
    Calls Tryd.prog 96 #[.slice a xs.length cap] w fun e w' => ∃ v, e = .returned v ∧ w'.ownsRow w.heap.size 62 3 v xs.length (flat xs) ∧ Below w.heap.size w w' := by
  have hsrc := hx.src
  cases a with
  | none =>
    have h0 := (hsrc.nil rfl).1
    obtain rfl : xs = [] := List.eq_nil_of_length_eq_zero h0
    have hc := hx.nil rfl
    subst hc
    have hnil := fun w' : World => Lib.run_eql_slice_nil (P := Tryd.prog) w' 22 62 none 0 0 0 0 Tryd.underlying22
    go_enter Tryd.func96, Tryd.ntmps96
    go_wp2
    go_ret
    exact ⟨_, rfl, World.ownsRow_nil _ _ _ _, Below.refl _ _⟩
  | some ad =>
    have hnil := fun w' : World => Lib.run_eql_slice_nil (P := Tryd.prog) w' 22 62 (some ad) xs.length cap 0 0 Tryd.underlying22
    have hm := World.ownsRow_made (base := w.heap.size) (e := 62) (size := 3) w #[] 0 (Nat.le_refl _) (by unfold maxLen; omega) rfl
    have hb0 := (Below.refl w.heap.size w).new (.cells #[] 62)
    have hs : Src (w.alloc (.cells #[] 62)) 3 (some ad) xs.length cap (flat xs) := (hx.below hb0).src
    go_enter Tryd.func96, Tryd.ntmps96
    go_wp2_with (at_builtin; refine wpList_app rfl _ _ 22 rfl w.heap.size 62 3 32 _ Tryd.underlying22 Tryd.infoCell rfl (by decide) (by decide) _ 0 [] rfl hm (some ad) xs.length cap (flat xs) rfl hs (by omega) (by simp) ?_; intro v' w' hown _ hb1)
    go_ret
    refine ⟨_, rfl, by simpa using hown, ?_⟩
    exact hb0.trans hb1
theorem clone_any' (n : Nat) (a : Option Addr) (cap : Nat) (w : World) (xs : List Cel) (hn : n = xs.length) (hx : Row w a cap xs) (hl : xs.length ≤ 1000000) :
    Calls Tryd.prog 96 #[.slice a n cap] w fun e w' => ∃ v, e = .returned v ∧ w'.ownsRow w.heap.size 62 3 v xs.length (flat xs) ∧ Below w.heap.size w w' := by
  subst hn; exact clone_any a cap w xs hx hl
end Go.Proofs.YtabjghmfjoefpaaDoor
namespace Go.Proofs.YtabjghmfjoefpaaDoor
open Go.RowKit

set_option maxHeartbeats 800000 in
theorem pass_any (xs : List Cel) (a : Option Addr) (cap b1 o1 b2 o2 : Nat) (hl : xs.length ≤ 1000000) (m : Nat) : ∀ (i : Int) (w : World), (0 ≤ i → (xs.length : Int) - i ≤ m) → -9223372036854775808 ≤ i → i ≤ 9000000000000000000 →
    Row w a cap xs → w.cell? ⟨b1, o1, none⟩ = some (.slice a xs.length cap) → w.cell? ⟨b2, o2, none⟩ = some (.func (.func 92) #[] #[.pointer (some ⟨b1, o1, none⟩), .pointer (some ⟨b2, o2, none⟩)]) →
    Calls Tryd.prog 92 #[.int .i64 i, .pointer (some ⟨b1, o1, none⟩), .pointer (some ⟨b2, o2, none⟩)] w fun e w' => e = .returned (.int .i64 (passI xs i)) ∧ Below w.heap.size w w' := by
  induction m with
  | zero =>
    intro i w hm hlo hhi hr h1 h2
    have HE : Hid (-1 = passI xs i) := by
      unfold Hid passI; split
      · rw [endI_out (by omega)]
      · rfl
    have hc := hr.le
    have hc2 := hr.max
    by_cases hneg : i < 0
    · go_enter Tryd.func92, Tryd.ntmps92
      go_wp2_with fail
      go_ret
      exact ⟨ret_int HE.out, Below.refl _ _⟩
    · have hge : (xs.length : Int) ≤ i := by have := hm (by omega); omega
      clear hm
      go_enter Tryd.func92, Tryd.ntmps92
      go_wp2_with fail
      go_ret
      exact ⟨ret_int HE.out, Below.refl _ _⟩
  | succ m ih =>
    intro i w hm hlo hhi hr h1 h2
    have hc := hr.le
    have hc2 := hr.max
    by_cases hneg : i < 0
    · have HE : Hid (-1 = passI xs i) := by
        unfold Hid passI; rw [if_neg (by omega)]
      clear hm
      go_enter Tryd.func92, Tryd.ntmps92
      go_wp2_with fail
      go_ret
      exact ⟨ret_int HE.out, Below.refl _ _⟩
    by_cases hge : (xs.length : Int) ≤ i
    · have HE : Hid (-1 = passI xs i) := by
        unfold Hid passI; rw [if_pos (by omega), endI_out (by omega)]
      clear hm
      go_enter Tryd.func92, Tryd.ntmps92
      go_wp2_with fail
      go_ret
      exact ⟨ret_int HE.out, Below.refl _ _⟩
    obtain ⟨k, rfl⟩ := Int.eq_ofNat_of_zero_le (show 0 ≤ i by omega)
    have hk : k < xs.length := by omega
    have hmm : xs.length - k ≤ m + 1 := by have := hm (by omega); omega
    clear hm
    obtain ⟨b, off, rfl, hb, hat⟩ := hr.cases.resolve_left (fun e => by simp [e] at hk)
    obtain ⟨c0, c1, c2, hf⟩ := cel_at hat (Below.refl _ _) hk
    cases hok : cellOk xs[k] with
    | false =>
      have HE : Hid (-1 = passI xs k) := by
        unfold Hid passI; rw [if_pos (by omega), Int.toNat_natCast, endI_bad hk hok]
      have hok' := mkHid hok
      clear hok
      go_enter Tryd.func92, Tryd.ntmps92
      go_wp2_with (go_at_call 93; refine (may_any xs[k] _ hf).mono ?_; rintro e w' ⟨rfl, hb1⟩; rw [hok'.out])
      go_ret
      exact ⟨ret_int HE.out, hb1⟩
    | true =>
      have HE : Hid (afterI xs (k + 1) (ar xs[k]) = passI xs k) := by
        unfold Hid passI; rw [if_pos (by omega), Int.toNat_natCast, endI_ok hk hok]
      have har := ar_le _ hok
      have HA := mkHid (arI_ar hok)
      have hok' := mkHid hok
      clear hok
      go_enter Tryd.func92, Tryd.ntmps92
      go_wp2_with (first
        | (go_at_call 93; refine (may_any xs[k] _ hf).mono ?_; rintro e w' ⟨rfl, hb1⟩; rw [hok'.out]; have d0 := keep c0 hb1; have d1 := keep c1 hb1; have d2 := keep c2 hb1; have k1 := keep h1 hb1; have k2 := keep h2 hb1; clear c0 c1 c2 h1 h2)
        | (go_at_call 94; refine (arguments_any xs[k] _).mono ?_; rintro e w2 ⟨rfl, hb2⟩; rw [HA.out]; clear d0 d1 d2))
      have hb12 := hb1.then hb2
      have k1' := keep k1 hb2
      have k2' := keep k2 hb2
      have hr2 := hr.below hb12
      clear k1 k2
      go_loopw [5, 29] (fun x j wr => ∃ j' : Nat, j' ≤ ar xs[k] ∧ j = .int .i64 j' ∧ x = .int .i64 (afterI xs (k + 1) j') ∧ Below w2.heap.size w2 wr) (fun x j wr => ar xs[k] - (intOf j).toNat)
      case atStart => exact ⟨0, Nat.zero_le _, rfl, by rw [afterI_zero (by omega)]; rfl, Below.refl _ _⟩
      case round =>
        obtain ⟨j, hj, rfl, rfl, hbl⟩ := hrel
        have q1 := keep k1' hbl
        have q2 := keep k2' hbl
        have hr3 := hr2.below hbl
        have hrg := afterI_range (xs := xs) (i := k + 1) (j := j) (by omega)
        have HS := mkHid (afterI_succ (xs := xs) (i := k + 1) (j := j) (by omega))
        by_cases hlt : j < ar xs[k]
        · go_wp2_with (go_at_call 92; refine (ih (afterI xs (k + 1) j) _ (by omega) (by omega) (by omega) hr3 q1 q2).mono ?_; rintro e w3 ⟨rfl, hb3⟩; rw [HS.out])
          go_round
          case rel => exact ⟨j + 1, by omega, by go_num, rfl, hbl.then hb3⟩
          case measure => simp [intOf]; omega
        · obtain rfl : j = ar xs[k] := by omega
          go_wp2
          go_ret
          exact ⟨ret_int HE.out, (hb12.then hbl)⟩

set_option maxHeartbeats 400000 in
theorem behind_any (a : Option Addr) (cap : Nat) (i : Int) (w : World) (xs : List Cel) (hr : Row w a cap xs) (hl : xs.length ≤ 1000000) (h1 : -9223372036854775808 ≤ i) (h2 : i ≤ 9000000000000000000) :
    Calls Tryd.prog 75 #[.slice a xs.length cap, .int .i64 i] w fun e w' => e = .returned (.int .i64 (passI xs i)) ∧ Below w.heap.size w w' := by
  have hmf : ∀ (fn : Fn) (first cap : Array Value) (w : World), (Instr.makeFunc fn first cap).run Tryd.prog w = .ok (.func fn first cap) w := fun _ _ _ _ => rfl
  have hc := hr.le
  have hc2 := hr.max
  go_enter Tryd.func75, Tryd.ntmps75
  go_wp2_with fail
  refine (pass_any xs a cap w.heap.size 0 (w.heap.size + 1) 0 hl xs.length i _ (by omega) h1 h2 ?_ ?_ ?_).mono ?_
  · exact hr.below (((Below.refl _ _).new _).new _)
  · go_simp
  · go_simp
  rintro e w' ⟨rfl, hb1⟩
  go_wp2
  go_ret
  exact ⟨rfl, (((Below.refl _ _).new _).new _).then hb1⟩

theorem passI_zero (xs : List Cel) : passI xs 0 = endI xs 0 := rfl

set_option maxHeartbeats 400000 in
theorem right_any (a : Option Addr) (cap : Nat) (w : World) (xs : List Cel) (hr : Row w a cap xs) :
    Calls Tryd.prog 56 #[.slice a xs.length cap] w fun e w' => e = .returned (.bool (rightB xs)) ∧ Below w.heap.size w w' := by
  go_enter Tryd.func56, Tryd.ntmps56
  go_wp2_with (go_at_call 75; refine (behind_any a cap 0 _ xs hr (by omega) (by omega) (by omega)).mono ?_; rintro e w' ⟨rfl, hb1⟩; rw [passI_zero])
  · go_ret
    exact ⟨ret_bool (rightB_le (by assumption)), hb1⟩
  · go_ret
    exact ⟨ret_bool (rightB_gt (by assumption)), Below.refl _ _⟩
end Go.Proofs.YtabjghmfjoefpaaDoor
namespace Go.Proofs.YtabjghmfjoefpaaDoor
open Go.RowKit
theorem Tryd.infoInt : (Tryd.prog.info? 3).map (fun i => (i.zero, i.size, i.bytes)) = some (some (.int .i64 0), 1, 8) := by kernel_rfl
theorem out_fit {acc : List Int} {n : Int} (h : ∀ m ∈ acc, -9223372036854775808 ≤ m ∧ m ≤ 9223372036854775807) (h1 : -9223372036854775808 ≤ n) (h2 : n ≤ 9223372036854775807) : ∀ m ∈ acc ++ [n], -9223372036854775808 ≤ m ∧ m ≤ 9223372036854775807 := by
  intro m hm
  rcases List.mem_append.1 hm with h' | h'
  · exact h m h'
  · simp at h'; subst h'; exact ⟨h1, h2⟩

theorem own_below {w w' : World} {B e size : Nat} {v : Value} {n : Nat} {xs : List Value} (h : w.ownsRow B e size v n xs) (hb : Below w.heap.size w w') : w'.ownsRow B e size v n xs :=
  h.kept (row := none) ⟨hb.os, hb.tape, hb.output, hb.size, fun k hk _ => hb.block k hk⟩ (by cases hv : v.ownBlock <;> simp)

set_option maxHeartbeats 800000 in
theorem refvars_any (a : Option Addr) (cap : Nat) (w : World) (xs : List Cel) (hr : Row w a cap xs) (hl : xs.length ≤ 1000000) :
    Calls Tryd.prog 25 #[.slice a xs.length cap] w fun e w' => ∃ a' cap', e = .returned (.slice a' (varsL xs).length cap') ∧ Row w' a' cap' (varsL xs) ∧ Below w.heap.size w w' := by
  have hc := hr.le
  have hc2 := hr.max
  have hm0 := World.ownsRow_made (base := w.heap.size) (e := 3) (size := 1) w #[] 0 (Nat.le_refl _) (by unfold maxLen; omega) rfl
  have hb0 := (Below.refl w.heap.size w).new (.cells #[] 3)
  go_enter Tryd.func25, Tryd.ntmps25
  go_wp2_with fail
  go_loopw [3, 4] (fun v i wr => ∃ (k : Nat) (acc : List Int), k ≤ xs.length ∧ acc.length ≤ k ∧ i = .int .i64 k ∧ wr.ownsRow w.heap.size 3 1 v acc.length (acc.map (Value.int .i64)) ∧ Below w.heap.size w wr ∧ (∀ n ∈ acc, -9223372036854775808 ≤ n ∧ n ≤ 9223372036854775807) ∧ Hid (varsL xs = varsGo acc (xs.drop k))) (fun v i wr => xs.length - (intOf i).toNat)
  case atStart => exact ⟨0, [], Nat.zero_le _, Nat.zero_le _, rfl, hm0, hb0, by simp, rfl⟩
  case round =>
    obtain ⟨k, acc, hk, hak, rfl, hown, hbl, haf, HS⟩ := hrel
    obtain ⟨a', cap', rfl, hrow⟩ := own_rowI hown haf
    have HA := mkHid haf
    by_cases hlt : k < xs.length
    · obtain ⟨b, off, rfl, hb, hat⟩ := hr.cases.resolve_left (fun e => by simp [e] at hlt)
      obtain ⟨c0, c1, c2, hf⟩ := cel_at hat hbl hlt
      have hst := varsGo_step acc xs k hlt
      by_cases h1 : xs[k].k = 1
      · have t1 : (xs[k].k == 1) = true := by simp [h1]
        by_cases h2 : xs[k].n ∈ acc
        · have HT : Hid (varsL xs = varsGo acc (xs.drop (k + 1))) := by rw [Hid, HS.out, hst, if_neg (by simp [h2])]
          have hd := mkHid (decide_eq_true h2)
          clear h1 h2 HS hst haf
          go_wp2_with (go_at_call 47; refine (refin_any a' cap' xs[k].n _ acc hrow).mono ?_; rintro e w' ⟨rfl, hb1⟩; rw [hd.out])
          go_round
          case rel => exact ⟨k + 1, acc, by omega, by omega, by go_num, own_below hown hb1, hbl.then hb1, HA.out, HT⟩
          case measure => simp [intOf]; omega
        · have HT : Hid (varsL xs = varsGo (acc ++ [xs[k].n]) (xs.drop (k + 1))) := by rw [Hid, HS.out, hst, if_pos ⟨h1, h2⟩]
          have hd := mkHid (decide_eq_false h2)
          clear h1 h2 HS hst haf
          go_wp2_with (first
            | (go_at_call 47; refine (refin_any a' cap' xs[k].n _ acc hrow).mono ?_; rintro e w' ⟨rfl, hb1⟩; rw [hd.out]; have d0 := keep c0 hb1; have d2 := keep c2 hb1; have hown1 := own_below hown hb1; have hbl1 := hbl.then hb1; clear c0 c1 c2)
            | (at_builtin; refine wpList_app rfl _ _ 43 rfl w.heap.size 3 1 8 _ Tryd.underlying43 Tryd.infoInt rfl (by decide) (by decide) _ acc.length _ rfl (hown1.alloc _) (some ⟨_, 0, none⟩) 1 1 [.int .i64 xs[k].n] rfl (src_new _ #[.int .i64 xs[k].n] _ 1 rfl (by simp [Value.oneCell'])) (by omega) (Nat.le_trans hbl1.size (by simp)) ?_; intro v' w2 hown2 _ hb2))
          go_round
          case rel => exact ⟨k + 1, acc ++ [xs[k].n], by omega, by simp; omega, by go_num, by simpa using hown2, (hbl1.new _).trans hb2, out_fit HA.out hf.n1 hf.n2, HT⟩
          case measure => simp [intOf]; omega
      · have t1 : (xs[k].k == 1) = false := by simp [h1]
        have HT : Hid (varsL xs = varsGo acc (xs.drop (k + 1))) := by rw [Hid, HS.out, hst, if_neg (fun h => h1 h.1)]
        clear h1 HS hst haf
        go_wp2
        go_round
        case rel => exact ⟨k + 1, acc, by omega, by omega, by go_num, hown, hbl, HA.out, HT⟩
        case measure => simp [intOf]; omega
    · have HT : Hid (varsL xs = acc) := by rw [Hid, HS.out, List.drop_eq_nil_of_le (by omega)]; rfl
      clear HS haf
      go_wp2
      go_ret
      exact ⟨a', cap', by rw [HT.out]; rfl, by rw [HT.out]; exact hrow, hbl⟩
end Go.Proofs.YtabjghmfjoefpaaDoor
namespace Go.Proofs.YtabjghmfjoefpaaDoor
open Go.RowKit

/-- append of one element, and what is read beside the row -/
theorem wpList_accK {α : Type} [RepC α] {P : Program} {w : World} {ops : Array Oper} {rest : List Oper} {o : Oper} {a : Act} {Q : Exit → Act → World → Prop} (hgd : o.guard = none) (s x : Operand) (t : TypeId)
    (ho : o.op = .call { callee := .builtin .append, args := #[s, x], argTypes := #[t, t] })
    (B e bytes : Nat) (z : Value) (ht : P.underlying t = some (.slice e)) (hinfo : (P.info? e).map (fun i => (i.zero, i.size, i.bytes)) = some (some z, Rep.sz α, bytes))
    (hzs : z.cells.size = Rep.sz α) (hby : bytes ≤ 1000)
    (v : Value) (acc : List α) (hacc : AccInv B e acc v w) (hs : a.eval s = v) (T : Nat) (cs : Array Value) (y : α) (hcs : RepC.C (hide v.ownBlock w) cs.toList y)
    (hx : a.eval x = .slice (some ⟨w.heap.size, 0, none⟩) 1 1)
    (hmax : acc.length + 1 ≤ 1000000000) (hB : B ≤ w.heap.size)
    (h : ∀ v' w', AccInv B e (acc ++ [y]) v' w' → Below B w w' → Keeps (hide v.ownBlock w) (hide v'.ownBlock w') → wpList P ops Q rest (a.put o.dst v') w') : wpList P ops Q (o :: rest) a (w.alloc (.cells cs T)) := by
  obtain ⟨vs, hown, hc⟩ := hacc.ex
  refine wpList_app2 hgd s x t ho B e (Rep.sz α) bytes z ht hinfo hzs RepC.pos hby v acc.length vs hs (hown.alloc _) ⟨w.heap.size, 0, none⟩ 1 1 cs.toList hx (src_new w cs T (Rep.sz α) (by have := RepC.len hcs; simpa using this) (fun u hu => RepC.one hcs u hu)) hmax (Nat.le_trans hB (by simp)) ?_
  intro v' w' h1 _ h3 h4
  refine h v' w' ⟨vs ++ cs.toList, by rw [List.length_append]; exact h1, ?_⟩ (((Below.refl B w).alloc hB _).trans h3) ((alloc_hide w _ _).trans h4)
  exact ((hc.keeps (alloc_hide w _ _)).keeps h4).snoc (RepC.cmono (RepC.cmono hcs (alloc_hide w _ _)) h4)
/-- append of all of a slice, and what is read beside the row -/
theorem wpList_accsK {α : Type} [RepC α] {P : Program} {w : World} {ops : Array Oper} {rest : List Oper} {o : Oper} {a : Act} {Q : Exit → Act → World → Prop} (hgd : o.guard = none) (s x : Operand) (t : TypeId)
    (ho : o.op = .call { callee := .builtin .append, args := #[s, x], argTypes := #[t, t] })
    (B e bytes : Nat) (z : Value) (ht : P.underlying t = some (.slice e)) (hinfo : (P.info? e).map (fun i => (i.zero, i.size, i.bytes)) = some (some z, Rep.sz α, bytes))
    (hzs : z.cells.size = Rep.sz α) (hby : bytes ≤ 1000)
    (v : Value) (acc : List α) (hacc : AccInv B e acc v w) (hs : a.eval s = v) (sa : Option Addr) (cap : Nat) (ys : List α) (hr : Row (hide v.ownBlock w) sa cap ys)
    (hx : a.eval x = .slice sa ys.length cap)
    (hmax : acc.length + ys.length ≤ 1000000000) (hB : B ≤ w.heap.size)
    (h : ∀ v' w', AccInv B e (acc ++ ys) v' w' → Below B w w' → Keeps (hide v.ownBlock w) (hide v'.ownBlock w') → wpList P ops Q rest (a.put o.dst v') w') : wpList P ops Q (o :: rest) a w := by
  obtain ⟨vs, hown, hc⟩ := hacc.ex
  obtain ⟨us, hu, hsrc⟩ := hr.srcK (hide_keeps _ _)
  cases sa with
  | none =>
    have h0 : ys.length = 0 := (hsrc.nil rfl).1
    have hc0 : cap = 0 := (hsrc.nil rfl).2
    obtain rfl : ys = [] := List.eq_nil_of_length_eq_zero h0
    obtain ⟨i, hi, hz0, hz1, hz2⟩ := info_parts hinfo
    subst hc0
    refine wpList_append_own_none hgd s x t ho B e i (Rep.sz α) ht hi v acc.length vs hs hown hx ?_
    exact h v w ⟨vs, by rw [List.append_nil]; exact hown, by rw [List.append_nil]; exact hc⟩ (Below.refl _ _) (fun _ _ _ h => h)
  | some ad =>
    refine wpList_app2 hgd s x t ho B e (Rep.sz α) bytes z ht hinfo hzs RepC.pos hby v acc.length vs hs hown ad ys.length cap us hx hsrc hmax hB ?_
    intro v' w' h1 _ h3 h4
    exact h v' w' ⟨vs ++ us, by rw [List.length_append]; exact h1, (hc.keeps h4).append (hu.keeps h4)⟩ h3 h4

set_option maxHeartbeats 800000 in
theorem refvars_new (a : Option Addr) (cap : Nat) (w : World) (xs : List Cel) (hr : Row w a cap xs) (hl : xs.length ≤ 1000000) :
    Calls Tryd.prog 25 #[.slice a xs.length cap] w fun e w' => ∃ a' cap', e = .returned (.slice a' (varsL xs).length cap') ∧ NewRow w.heap.size w' a' cap' (varsL xs) ∧ Below w.heap.size w w' := by
  have hc := hr.le
  have hc2 := hr.max
  have hm0 := World.ownsRow_made (base := w.heap.size) (e := 3) (size := 1) w #[] 0 (Nat.le_refl _) (by unfold maxLen; omega) rfl
  have hb0 := (Below.refl w.heap.size w).new (.cells #[] 3)
  go_enter Tryd.func25, Tryd.ntmps25
  go_wp2_with fail
  go_loopw [3, 4] (fun v i wr => ∃ (k : Nat) (acc : List Int), k ≤ xs.length ∧ acc.length ≤ k ∧ i = .int .i64 k ∧ wr.ownsRow w.heap.size 3 1 v acc.length (acc.map (Value.int .i64)) ∧ Below w.heap.size w wr ∧ (∀ n ∈ acc, -9223372036854775808 ≤ n ∧ n ≤ 9223372036854775807) ∧ Hid (varsL xs = varsGo acc (xs.drop k))) (fun v i wr => xs.length - (intOf i).toNat)
  case atStart => exact ⟨0, [], Nat.zero_le _, Nat.zero_le _, rfl, hm0, hb0, by simp, rfl⟩
  case round =>
    obtain ⟨k, acc, hk, hak, rfl, hown, hbl, haf, HS⟩ := hrel
    obtain ⟨a', cap', rfl, hrowN⟩ := own_rowI (under_own hown) haf
    have hrow := Row.keeps hrowN (under_keeps _ _)
    have HN := mkHid hrowN
    clear hrowN
    have HA := mkHid haf
    by_cases hlt : k < xs.length
    · obtain ⟨b, off, rfl, hb, hat⟩ := hr.cases.resolve_left (fun e => by simp [e] at hlt)
      obtain ⟨c0, c1, c2, hf⟩ := cel_at hat hbl hlt
      have hst := varsGo_step acc xs k hlt
      by_cases h1 : xs[k].k = 1
      · have t1 : (xs[k].k == 1) = true := by simp [h1]
        by_cases h2 : xs[k].n ∈ acc
        · have HT : Hid (varsL xs = varsGo acc (xs.drop (k + 1))) := by rw [Hid, HS.out, hst, if_neg (by simp [h2])]
          have hd := mkHid (decide_eq_true h2)
          clear h1 h2 HS hst haf
          go_wp2_with (go_at_call 47; refine (refin_any a' cap' xs[k].n _ acc hrow).mono ?_; rintro e w' ⟨rfl, hb1⟩; rw [hd.out])
          go_round
          case rel => exact ⟨k + 1, acc, by omega, by omega, by go_num, own_below hown hb1, hbl.then hb1, HA.out, HT⟩
          case measure => simp [intOf]; omega
        · have HT : Hid (varsL xs = varsGo (acc ++ [xs[k].n]) (xs.drop (k + 1))) := by rw [Hid, HS.out, hst, if_pos ⟨h1, h2⟩]
          have hd := mkHid (decide_eq_false h2)
          clear h1 h2 HS hst haf
          go_wp2_with (first
            | (go_at_call 47; refine (refin_any a' cap' xs[k].n _ acc hrow).mono ?_; rintro e w' ⟨rfl, hb1⟩; rw [hd.out]; have d0 := keep c0 hb1; have d2 := keep c2 hb1; have hown1 := own_below hown hb1; have hbl1 := hbl.then hb1; clear c0 c1 c2)
            | (at_builtin; refine wpList_app rfl _ _ 43 rfl w.heap.size 3 1 8 _ Tryd.underlying43 Tryd.infoInt rfl (by decide) (by decide) _ acc.length _ rfl (hown1.alloc _) (some ⟨_, 0, none⟩) 1 1 [.int .i64 xs[k].n] rfl (src_new _ #[.int .i64 xs[k].n] _ 1 rfl (by simp [Value.oneCell'])) (by omega) (Nat.le_trans hbl1.size (by simp)) ?_; intro v' w2 hown2 _ hb2))
          go_round
          case rel => exact ⟨k + 1, acc ++ [xs[k].n], by omega, by simp; omega, by go_num, by simpa using hown2, (hbl1.new _).trans hb2, out_fit HA.out hf.n1 hf.n2, HT⟩
          case measure => simp [intOf]; omega
      · have t1 : (xs[k].k == 1) = false := by simp [h1]
        have HT : Hid (varsL xs = varsGo acc (xs.drop (k + 1))) := by rw [Hid, HS.out, hst, if_neg (fun h => h1 h.1)]
        clear h1 HS hst haf
        go_wp2
        go_round
        case rel => exact ⟨k + 1, acc, by omega, by omega, by go_num, hown, hbl, HA.out, HT⟩
        case measure => simp [intOf]; omega
    · have HT : Hid (varsL xs = acc) := by rw [Hid, HS.out, List.drop_eq_nil_of_le (by omega)]; rfl
      clear HS haf
      go_wp2
      go_ret
      exact ⟨a', cap', by rw [HT.out]; rfl, by rw [HT.out]; exact HN.out, hbl⟩
end Go.Proofs.YtabjghmfjoefpaaDoor
namespace Go.Proofs.YtabjghmfjoefpaaDoor
open Go.RowKit

/-- all blocks that were there, but some, are as they were -/
structure Fr (us : List Nat) (w w' : World) : Prop where
  os : w'.os = w.os
  tape : w'.tape = w.tape
  output : w'.output = w.output
  size : w.heap.size ≤ w'.heap.size
  block : ∀ k, k < w.heap.size → k ∉ us → w'.heap[k]? = w.heap[k]?
section
variable {us : List Nat} {w w' w'' : World}
theorem Fr.refl (us : List Nat) (w : World) : Fr us w w := ⟨rfl, rfl, rfl, Nat.le_refl _, fun _ _ _ => rfl⟩
theorem Fr.trans (h : Fr us w w') (k : Fr us w' w'') : Fr us w w'' :=
  ⟨k.os.trans h.os, k.tape.trans h.tape, k.output.trans h.output, Nat.le_trans h.size k.size, fun i hi hn => (k.block i (Nat.lt_of_lt_of_le hi h.size) hn).trans (h.block i hi hn)⟩
theorem Fr.of (h : Below w.heap.size w w') : Fr us w w' := ⟨h.os, h.tape, h.output, h.size, fun k hk _ => h.block k hk⟩
theorem Fr.alloc (h : Fr us w w') (o : Obj) : Fr us w (w'.alloc o) := h.trans (Fr.of ((Below.refl _ _).new o))
theorem Fr.drew (h : Fr us w w') : Fr us w w'.drew := h.trans (Fr.of (Below.refl _ _).drew)
theorem Fr.set (h : Fr us w w') {g k : Nat} (hg : g ∈ us) (v : Value) : Fr us w (w'.setCell ⟨g, k, none⟩ v) :=
  h.trans ⟨rfl, rfl, rfl, by simp [World.setCell], fun i _ hn => Below.heap_setCell _ _ _ _ (fun e => hn (by rw [show i = g from e]; exact hg))⟩
theorem Fr.sub {vs : List Nat} (h : Fr us w w') (hs : ∀ k ∈ us, k ∈ vs) : Fr vs w w' := ⟨h.os, h.tape, h.output, h.size, fun k hk hn => h.block k hk fun e => hn (hs k e)⟩
/-- what lies below all of them is as it was -/
theorem Fr.below (h : Fr us w w') {B : Nat} (hB : B ≤ w.heap.size) (hu : ∀ k ∈ us, B ≤ k) : Below B w w' :=
  ⟨h.os, h.tape, h.output, h.size, fun k hk => h.block k (by omega) fun e => by have := hu k e; omega⟩
/-- blocks that are newer than the first world don't count -/
theorem Fr.fresh {vs : List Nat} (h : Fr (vs ++ us) w w') (hv : ∀ k ∈ vs, w.heap.size ≤ k) : Fr us w w' :=
  ⟨h.os, h.tape, h.output, h.size, fun k hk hn => h.block k hk fun e => by
    rcases List.mem_append.1 e with e | e
    · have := hv k e; omega
    · exact hn e⟩
end
/-- the world without some blocks -/
def veil (us : List Nat) (w : World) : World := { w with heap := w.heap.mapIdx fun i o => if i ∈ us then .cells #[] 0 else o }
theorem veil_heap {us : List Nat} {w : World} {b : Nat} (h : b ∉ us) : (veil us w).heap[b]? = w.heap[b]? := by
  unfold veil
  rw [Array.getElem?_mapIdx]
  cases hw : w.heap[b]? with
  | none => rfl
  | some o => simp [h]
theorem veil_cell {us : List Nat} {w : World} {b o : Nat} {v : Value} (h : (veil us w).cell? ⟨b, o, none⟩ = some v) : b ∉ us ∧ w.cell? ⟨b, o, none⟩ = some v := by
  by_cases hb : b ∈ us
  · exfalso
    unfold veil at h
    simp only [World.cell?, Array.getElem?_mapIdx] at h
    cases hw : w.heap[b]? with
    | none => rw [hw] at h; simp at h
    | some o => rw [hw] at h; simp [hb] at h
  · refine ⟨hb, ?_⟩
    rwa [World.cell?, veil_heap hb] at h
theorem veil_of {us : List Nat} {w : World} {b o : Nat} {v : Value} (hb : b ∉ us) (h : w.cell? ⟨b, o, none⟩ = some v) : (veil us w).cell? ⟨b, o, none⟩ = some v := by
  rwa [World.cell?, veil_heap hb]
theorem veil_keeps (us : List Nat) (w : World) : Keeps (veil us w) w := fun _ _ _ h => (veil_cell h).2
theorem Fr.keeps {us : List Nat} {w w' : World} (h : Fr us w w') : Keeps (veil us w) (veil us w') := by
  intro b o v hc
  obtain ⟨hb, hc'⟩ := veil_cell hc
  exact veil_of hb ((World.cell?_of_block (w := w) (a := ⟨b, o, none⟩) (h.block b (cell_lt hc') hb)).trans hc')
/-- what is elder than all of them is read without them -/
theorem veil_fresh {w0 w : World} {us : List Nat} (h : Keeps w0 w) (hu : ∀ k ∈ us, w0.heap.size ≤ k) : Keeps w0 (veil us w) := fun b o v hc => by
  have hl := cell_lt hc
  exact veil_of (fun e => by have := hu b e; omega) (h _ _ _ hc)
theorem veil_mono {us vs : List Nat} (w : World) (h : ∀ k ∈ vs, k ∈ us) : Keeps (veil us w) (veil vs w) := fun b o v hc => by
  obtain ⟨hb, hc'⟩ := veil_cell hc
  exact veil_of (fun e => hb (h b e)) hc'

/-- a block of numbers -/
def RowU (w : World) (u : Nat) (U : List Int) : Prop := w.heap[u]? = some (.cells (U.map (Value.int .i64)).toArray 3 (0, 0))
section
variable {us : List Nat} {w w' : World} {u : Nat} {U : List Int}
theorem RowU.lt (h : RowU w u U) : u < w.heap.size := by
  unfold RowU at h
  exact (Array.getElem?_eq_some_iff.1 h).1
theorem RowU.read (h : RowU w u U) {k : Nat} (hk : k < U.length) : w.cell? ⟨u, k, none⟩ = some (.int .i64 U[k]) := by
  rw [cell_of_row w u k _ _ _ h]; simp [hk]
theorem RowU.free (h : RowU w u U) (k : Nat) : w.frozen? ⟨u, k, none⟩ = false := by
  unfold RowU at h
  simp [World.frozen?, h]
theorem RowU.set (h : RowU w u U) (k : Nat) (v : Int) : RowU (w.setCell ⟨u, k, none⟩ (.int .i64 v)) u (U.set k v) := by
  unfold RowU at *
  have hl := (Array.getElem?_eq_some_iff.1 h).1
  simp only [World.setCell, Array.getElem?_modify, if_true, h, Option.map_some]
  simp
theorem RowU.fr (h : RowU w u U) (hf : Fr us w w') (hu : u ∉ us) : RowU w' u U := (hf.block u h.lt hu).trans h
theorem RowU.below (h : RowU w u U) (hb : Below w.heap.size w w') : RowU w' u U := (hb.block u h.lt).trans h
theorem RowU.alloc (h : RowU w u U) (o : Obj) : RowU (w.alloc o) u U := h.below ((Below.refl _ _).new o)
theorem RowU.drew (h : RowU w u U) : RowU w.drew u U := h
theorem RowU.setOther (h : RowU w u U) {g k : Nat} (hg : g ≠ u) (v : Value) : RowU (w.setCell ⟨g, k, none⟩ v) u U := (Below.heap_setCell w ⟨g, k, none⟩ v u (Ne.symm hg)).trans h
end

/-- the places of two terms and their classes, but for what changes -/
structure Cls (z : World) (C u s m : Nat) (l : List Cel) (E : List Int) : Prop where
  cells : ∃ a cap, z.cell? ⟨C, 0, none⟩ = some (.slice a l.length cap) ∧ Row z a cap l
  behind : ∃ a cap, z.cell? ⟨C, 1, none⟩ = some (.slice a E.length cap) ∧ Row z a cap E
  first : z.cell? ⟨C, 2, none⟩ = some (.map (some m))
  up : ∃ cap, l.length ≤ cap ∧ cap ≤ 9223372036854775807 ∧ z.cell? ⟨C, 3, none⟩ = some (.slice (some ⟨u, 0, none⟩) l.length cap)
  size : ∃ cap, l.length ≤ cap ∧ cap ≤ 9223372036854775807 ∧ z.cell? ⟨C, 4, none⟩ = some (.slice (some ⟨s, 0, none⟩) l.length cap)
  us : u ≠ s
theorem Cls.keeps {z z' : World} {C u s m : Nat} {l : List Cel} {E : List Int} (h : Cls z C u s m l E) (hk : Keeps z z') : Cls z' C u s m l E := by
  obtain ⟨⟨a, ca, h0, hr⟩, ⟨b, cb, h1, hr1⟩, h2, ⟨c, hc1, hc2, h3⟩, ⟨d, hd1, hd2, h4⟩, h5⟩ := h
  exact ⟨⟨a, ca, hk _ _ _ h0, hr.keeps hk⟩, ⟨b, cb, hk _ _ _ h1, hr1.keeps hk⟩, hk _ _ _ h2, ⟨c, hc1, hc2, hk _ _ _ h3⟩, ⟨d, hd1, hd2, hk _ _ _ h4⟩, h5⟩

/-! ### the forest of the places -/
/-- r: the place that stands for the class; d: falls on the way there -/
structure Roots (n : Nat) (U : List Int) (r d : Nat → Nat) : Prop where
  len : U.length = n
  up : ∀ x, x < n → ∃ y : Nat, U[x]? = some (y : Int) ∧ y < n ∧ r y = r x ∧ (y ≠ x → d y < d x) ∧ (y = x → r x = x)
  lt : ∀ x, x < n → r x < n
  top : ∀ x, x < n → U[r x]? = some (r x : Int)
section
variable {n : Nat} {U : List Int} {r d : Nat → Nat}
theorem Roots.halve (h : Roots n U r d) {x y z : Nat} (hx : x < n) (hy : U[x]? = some (y : Int)) (hne : y ≠ x) (hz : U[y]? = some (z : Int)) : Roots n (U.set x (z : Int)) r d := by
  obtain ⟨y', e1, hy1, hy2, hy3, _⟩ := h.up x hx
  rw [hy] at e1
  obtain rfl : y = y' := by injection e1 with e1; omega
  obtain ⟨z', e2, hz1, hz2, hz3, _⟩ := h.up y hy1
  rw [hz] at e2
  obtain rfl : z = z' := by injection e2 with e2; omega
  have hdy := hy3 hne
  have hdz : d z < d x := by
    by_cases e : z = y
    · rw [e]; exact hdy
    · have := hz3 e; omega
  have hxl : x < U.length := by rw [h.len]; exact hx
  refine ⟨by rw [List.length_set]; exact h.len, fun q hq => ?_, h.lt, fun q hq => ?_⟩
  · by_cases e : x = q
    · subst e
      refine ⟨z, by rw [List.getElem?_set_self hxl], hz1, hz2.trans hy2, fun _ => hdz, fun e => ?_⟩
      rw [e] at hdz; omega
    · rw [List.getElem?_set_ne e]; exact h.up q hq
  · by_cases e : x = r q
    · exfalso
      have h1 := h.top q hq
      rw [← e, hy] at h1
      injection h1 with h1
      omega
    · rw [List.getElem?_set_ne e]; exact h.top q hq
end
end Go.Proofs.YtabjghmfjoefpaaDoor
set_option linter.unusedVariables false
namespace Go.Proofs.YtabjghmfjoefpaaDoor
open Go.RowKit

/-! ### appending: the row is the old one, or new -/
section
variable {P : Program} (w : World)
theorem ownB_string (base : Nat) (t u ty e : TypeId) (i : TypeInfo) (ht : P.underlying t = some (.slice e)) (hu : P.underlying u = some .string) (hi : P.info? e = some i) (hz : i.zero = some (.int .u8 0))
    (hsize : i.size = 1) (hby : i.bytes = 1)
    (v : Value) (n : Nat) (xs : List Value) (hown : w.ownsRow base e 1 v n xs) (s : ByteArray)
    (h63 : n + s.size ≤ maxLen) (hbytes : n + s.size ≤ 140737488355328) {v' : Value} {w' : World}
    (hr' : (Builtin.append_ #[t, u] ty #[v, .string s]).run P w = .ok v' w') : v'.ownBlock = v.ownBlock ∨ v'.ownBlock = some w.heap.size := by
  have hsmall : n + s.size ≤ 9223372036854775807 := by simp only [maxLen] at h63; omega
  have hxl : xs.length = n := by simpa using hown.1
  rcases hown.2 with ⟨rfl, rfl⟩ | ⟨g, cap, cur, rfl, hbg, hg, hnc, hcm, hcs, htake⟩
  · by_cases hm : s.size = 0
    · left
      have hf := Lib.run_firstCells_string (P := P) w 1 s
      rw [hm] at hf
      have hr : (Builtin.append_ #[t, u] ty #[.slice none 0 0, .string s]).run P w = .ok (.slice none 0 0) w := by
        simp [Builtin.append_, run_underlying ht, run_underlying hu, sizeOf, typeInfo, hi, hsize, Builtin.lenOf, hm, hf]
      rw [hr] at hr'
      injection hr' with e1 e2
      rw [← e1]
    · right
      have hr := run_append_nil_string (P := P) w t u ty e i (.int .u8 0) ht hu hi hz s (by omega) (by omega) (by rw [hby]; omega)
      rw [hr] at hr'
      injection hr' with e1 e2
      rw [← e1]; rfl
  · by_cases hroom : n + s.size ≤ cap
    · left
      have hcs' : cur.size = cap := by simpa using hcs
      have hr := Lib.run_append_room_string (P := P) w t u ty e i ht hu hi hsize g n cap cur hg s hroom (by omega)
      rw [hr] at hr'
      injection hr' with e1 e2
      rw [← e1]; rfl
    · right
      have holds : ∀ j u, xs[j]? = some u → w.cell? ((⟨g, 0, none⟩ : Addr).add j) = some u := hown.cells (g := g) rfl
      have hr := Lib.run_append_grow_string (P := P) w t u ty e i (.int .u8 0) ht hu hi hz ⟨g, 0, none⟩ n cap xs (by rw [hsize]; simpa using hxl) holds s (by omega) (by omega) (by rw [hby]; exact growslice_fits (by omega) (by omega))
      rw [hr] at hr'
      injection hr' with e1 e2
      rw [← e1]; rfl
theorem ownB_slice (base : Nat) (t ty e : TypeId) (i : TypeInfo) (z : Value) (size bytes : Nat) (ht : P.underlying t = some (.slice e)) (hi : P.info? e = some i) (hz : i.zero = some z)
    (hsize : i.size = size) (hby : i.bytes = bytes) (hsz : 0 < size)
    (v : Value) (n : Nat) (xs : List Value) (hown : w.ownsRow base e size v n xs)
    (a : Addr) (m c : Nat) (news : List Value) (hl : news.length = m * size) (hnews : ∀ j u, news[j]? = some u → w.cell? (a.add j) = some u) (h1 : ∀ u ∈ news, u.oneCell' = true)
    (h63 : n + m ≤ maxLen) (hbytes : (n + m) * bytes ≤ 140737488355328) (hm : 0 < m) {v' : Value} {w' : World}
    (hr' : (Builtin.append_ #[t, t] ty #[v, .slice (some a) m c]).run P w = .ok v' w') : v'.ownBlock = v.ownBlock ∨ v'.ownBlock = some w.heap.size := by
  subst hsize
  subst hby
  have hsmall : n + m ≤ 9223372036854775807 := by simp only [maxLen] at h63; omega
  rcases hown.2 with ⟨rfl, rfl⟩ | ⟨g, cap, cur, rfl, hbg, hg, hnc, hcm, hcs, htake⟩
  · right
    have hr := run_append_nil (P := P) w t ty e i z ht hi hz a m c news hl hnews (by omega) (by omega) (by have hb := hbytes; simp only [Nat.zero_add] at hb; omega)
    rw [hr] at hr'
    injection hr' with e1 e2
    rw [← e1]; rfl
  · by_cases hroom : n + m ≤ cap
    · left
      have hfit : n * i.size + news.length ≤ cur.size := by rw [hl, hcs, ← Nat.add_mul]; exact Nat.mul_le_mul_right _ hroom
      have hr := run_append_room (P := P) w t ty e i ht hi g n cap cur hg a m c news hl hnews h1 hroom hfit
      rw [hr] at hr'
      injection hr' with e1 e2
      rw [← e1]; rfl
    · right
      have holds : ∀ j u, xs[j]? = some u → w.cell? ((⟨g, 0, none⟩ : Addr).add j) = some u := hown.cells (g := g) rfl
      have hr := run_append_grow (P := P) w t ty e i z ht hi hz ⟨g, 0, none⟩ n cap xs hown.1 holds a m c news hl hnews (by omega) (by omega) (growslice_fits (by omega) hbytes)
      rw [hr] at hr'
      injection hr' with e1 e2
      rw [← e1]; rfl

theorem wpList_app_string {ops : Array Oper} {rest : List Oper} {o : Oper} {a : Act} {Q : Exit → Act → World → Prop} (hgd : o.guard = none) (sl x : Operand) (t u : TypeId)
    (ho : o.op = .call { callee := .builtin .append, args := #[sl, x], argTypes := #[t, u] })
    (e : TypeId) (i : TypeInfo) (ht : P.underlying t = some (.slice e)) (hu : P.underlying u = some .string) (hi : P.info? e = some i) (hz : i.zero = some (.int .u8 0))
    (hsize : i.size = 1) (hby : i.bytes = 1)
    (v : Value) (n : Nat) (xs : List Value) (hs : a.eval sl = v) (hown : w.ownsRow 0 e 1 v n xs) (s : ByteArray) (hx : a.eval x = .string s)
    (h63 : n + s.size ≤ maxLen) (hbytes : n + s.size ≤ 140737488355328)
    (h : ∀ v' w', w'.ownsRow 0 e 1 v' (n + s.size) (xs ++ Lib.strCells s) → w.grownBy w' v.ownBlock → (v'.ownBlock = v.ownBlock ∨ v'.ownBlock = some w.heap.size) → wpList P ops Q rest (a.put o.dst v') w') : wpList P ops Q (o :: rest) a w := by
  refine wpList_plain hgd fun K hK => ?_
  obtain ⟨v', w', hr, h2, h3, h4⟩ := Lib.run_append_own_string (P := P) w 0 t u o.type e i ht hu hi hz hsize hby v n xs hown s h63 hbytes (Nat.zero_le _)
  have h5 := ownB_string (P := P) w 0 t u o.type e i ht hu hi hz hsize hby v n xs hown s h63 hbytes hr
  unfold Oper.wp execOp
  simp only [ho, resolve, invoke, builtin, Sem.run_bind, Sem.run_pure, Result.andThen_ok, List.map_toArray, List.map_cons, List.map_nil, hs, hx, hr]
  exact hK _ _ (h v' w' h2 h3 h5)
theorem wpList_app_slice {ops : Array Oper} {rest : List Oper} {o : Oper} {a : Act} {Q : Exit → Act → World → Prop} (hgd : o.guard = none) (s x : Operand) (t : TypeId)
    (ho : o.op = .call { callee := .builtin .append, args := #[s, x], argTypes := #[t, t] })
    (e : TypeId) (i : TypeInfo) (z : Value) (size bytes : Nat) (ht : P.underlying t = some (.slice e)) (hi : P.info? e = some i) (hz : i.zero = some z)
    (hsize : i.size = size) (hby : i.bytes = bytes) (hzs : z.cells.size = size) (hsz : 0 < size)
    (v : Value) (n : Nat) (xs : List Value) (hs : a.eval s = v) (hown : w.ownsRow 0 e size v n xs)
    (ad : Addr) (m c : Nat) (news : List Value) (hx : a.eval x = .slice (some ad) m c) (hl : news.length = m * size) (hnews : ∀ j u, news[j]? = some u → w.cell? (ad.add j) = some u) (h1 : ∀ u ∈ news, u.oneCell' = true)
    (h63 : n + m ≤ maxLen) (hbytes : (n + m) * bytes ≤ 140737488355328) (hm : 0 < m)
    (h : ∀ v' w', w'.ownsRow 0 e size v' (n + m) (xs ++ news) → w.grownBy w' v.ownBlock → (v'.ownBlock = v.ownBlock ∨ v'.ownBlock = some w.heap.size) → wpList P ops Q rest (a.put o.dst v') w') : wpList P ops Q (o :: rest) a w := by
  refine wpList_plain hgd fun K hK => ?_
  obtain ⟨v', w', hr, h2, h3, h4⟩ := run_append_own (P := P) w 0 t o.type e i z size bytes ht hi hz hsize hby hzs hsz v n xs hown ad m c news hl hnews h1 h63 hbytes (Nat.zero_le _)
  have h5 := ownB_slice (P := P) w 0 t o.type e i z size bytes ht hi hz hsize hby hsz v n xs hown ad m c news hl hnews h1 h63 hbytes hm hr
  unfold Oper.wp execOp
  simp only [ho, resolve, invoke, builtin, Sem.run_bind, Sem.run_pure, Result.andThen_ok, List.map_toArray, List.map_cons, List.map_nil, hs, hx, hr]
  exact hK _ _ (h v' w' h2 h3 h5)
end

/-! ### the writer: its block, its row, its bytes -/
structure Wr (b : Nat) (g : Option Nat) (l : List UInt8) (w : World) : Prop where
  ex : ∃ p v, (p = .pointer none ∨ p = .pointer (some ⟨b, 0, none⟩)) ∧ w.heap[b]? = some (.cells #[p, v] 70 (0, 0)) ∧ w.ownsRow 0 5 1 v l.length (Lib.byteCells l) ∧ v.ownBlock = g
  ne : g ≠ some b
/-- the blocks that are the writer's -/
def wus (b : Nat) (g : Option Nat) : List Nat := b :: g.toList
/-- it is the writer still, whatever its row, with these bytes, and nothing else has turned -/
def Wrote (b : Nat) (g : Option Nat) (l : List UInt8) (w w' : World) : Prop :=
  ∃ g', Wr b g' l w' ∧ Fr (wus b g) w w' ∧ ∀ k, g' = some k → g = some k ∨ w.heap.size ≤ k
section
variable {b : Nat} {g : Option Nat} {l m : List UInt8} {w w' w'' : World}
theorem Wr.isW (h : Wr b g l w) : IsW 0 b (Lib.byteCells l) w := by
  obtain ⟨⟨p, v, hp, hbk, hown, hv⟩, hne⟩ := h
  have : Lib.BuilderAt 70 5 0 b p (Lib.byteCells l) w := ⟨Nat.zero_le _, v, hbk, by rw [Lib.byteCells_length]; exact hown, by rw [hv]; exact hne⟩
  rcases hp with rfl | rfl
  · exact Or.inl this
  · exact Or.inr this
theorem Wr.isWB {B : Nat} (h : Wr b g l w) (hb : B ≤ b) (hg : ∀ k, g = some k → B ≤ k) : IsW B b (Lib.byteCells l) w := by
  obtain ⟨⟨p, v, hp, hbk, hown, hv⟩, hne⟩ := h
  have ho : w.ownsRow B 5 1 v l.length (Lib.byteCells l) := by
    refine ⟨hown.1, ?_⟩
    rcases hown.2 with h0 | ⟨k, cap, cur, e1, _, r⟩
    · exact .inl h0
    · subst e1
      exact .inr ⟨k, cap, cur, rfl, hg k (by rw [← hv]; rfl), r⟩
  have : Lib.BuilderAt 70 5 B b p (Lib.byteCells l) w := ⟨hb, v, hbk, by rw [Lib.byteCells_length]; exact ho, by rw [hv]; exact hne⟩
  rcases hp with rfl | rfl
  · exact Or.inl this
  · exact Or.inr this
theorem Wr.new (w : World) : Wr w.heap.size none [] (w.alloc (.cells #[.pointer none, .slice none 0 0] 70)) :=
  ⟨⟨_, _, Or.inl rfl, heap_alloc_new w _, World.ownsRow_nil _ _ _ _, rfl⟩, by simp⟩
theorem Wr.lt (h : Wr b g l w) : b < w.heap.size := by
  obtain ⟨⟨p, v, hp, hbk, hown, hv⟩, hne⟩ := h
  exact (Array.getElem?_eq_some_iff.1 hbk).1
theorem Wr.ltg (h : Wr b g l w) : ∀ k, g = some k → k < w.heap.size := by
  obtain ⟨⟨p, v, hp, hbk, hown, hv⟩, hne⟩ := h
  exact fun k hk => (hown.lt k (by rw [hv]; exact hk)).2
theorem Wr.fr {us : List Nat} (h : Wr b g l w) (hf : Fr us w w') (hu : ∀ k ∈ wus b g, k ∉ us) : Wr b g l w' := by
  obtain ⟨⟨p, v, hp, hbk, hown, hv⟩, hne⟩ := h
  refine ⟨⟨p, v, hp, ?_, ⟨hown.1, ?_⟩, hv⟩, hne⟩
  · rw [hf.block b (Array.getElem?_eq_some_iff.1 hbk).1 (hu b (by simp [wus]))]; exact hbk
  · rcases hown.2 with h0 | ⟨k, cap, cur, e1, h1, h2, r⟩
    · exact .inl h0
    · subst e1
      refine .inr ⟨k, cap, cur, rfl, h1, ?_, r⟩
      have : g = some k := hv.symm
      rw [hf.block k (Array.getElem?_eq_some_iff.1 h2).1 (hu k (by simp [wus, this]))]; exact h2
theorem Wr.below (h : Wr b g l w) (hb : Below w.heap.size w w') : Wr b g l w' := h.fr (us := []) (Fr.of hb) (by simp)
theorem Wr.drew (h : Wr b g l w) : Wr b g l w.drew := h.below (Below.refl _ _).drew
theorem Wrote.refl (h : Wr b g l w) : Wrote b g l w w := ⟨g, h, Fr.refl _ _, fun _ e => Or.inl e⟩
theorem mem_wus {b k : Nat} {g : Option Nat} : k ∈ wus b g ↔ k = b ∨ g = some k := by
  simp [wus, Option.mem_toList]
/-- two in a row -/
theorem Wrote.more (h : Wrote b g l w w') (k : ∀ g', Wr b g' l w' → Wrote b g' m w' w'') : Wrote b g m w w'' := by
  obtain ⟨g1, h1, f1, n1⟩ := h
  obtain ⟨g2, h2, f2, n2⟩ := k g1 h1
  refine ⟨g2, h2, ?_, fun i hi => ?_⟩
  · refine ⟨f2.os.trans f1.os, f2.tape.trans f1.tape, f2.output.trans f1.output, Nat.le_trans f1.size f2.size, fun i hi hn => ?_⟩
    refine (f2.block i (Nat.lt_of_lt_of_le hi f1.size) fun e => ?_).trans (f1.block i hi hn)
    rw [mem_wus] at e hn
    rcases e with e | e
    · exact hn (Or.inl e)
    · rcases n1 i e with e' | e'
      · exact hn (Or.inr e')
      · omega
  · have := f1.size
    rcases n2 i hi with e | e
    · exact n1 i e
    · exact Or.inr (by omega)
theorem Wrote.on {g1 : Option Nat} (f1 : Fr (wus b g) w w') (n1 : ∀ k, g1 = some k → g = some k ∨ w.heap.size ≤ k) (h : Wrote b g1 m w' w'') : Wrote b g m w w'' := by
  obtain ⟨g2, h2, f2, n2⟩ := h
  refine ⟨g2, h2, ?_, fun i hi => ?_⟩
  · refine ⟨f2.os.trans f1.os, f2.tape.trans f1.tape, f2.output.trans f1.output, Nat.le_trans f1.size f2.size, fun i hi hn => ?_⟩
    refine (f2.block i (Nat.lt_of_lt_of_le hi f1.size) fun e => ?_).trans (f1.block i hi hn)
    rw [mem_wus] at e hn
    rcases e with e | e
    · exact hn (Or.inl e)
    · rcases n1 i e with e' | e'
      · exact hn (Or.inr e')
      · omega
  · have := f1.size
    rcases n2 i hi with e | e
    · exact n1 i e
    · exact Or.inr (by omega)
theorem Wrote.as {l' : List UInt8} (h : Wrote b g l w w') (e : l = l') : Wrote b g l' w w' := e ▸ h
/-- what else is done between leaves the writer alone -/
theorem Wrote.calm (h : Wrote b g l w w') (hb : Below w'.heap.size w' w'') : Wrote b g l w w'' :=
  h.more fun g' hw => ⟨g', hw.below hb, (Fr.of hb), fun _ e => Or.inl e⟩
theorem Wrote.after (hb : Below w.heap.size w w') (h : Wrote b g l w' w'') (hl : ∀ k, g = some k → k < w.heap.size) : Wrote b g l w w'' := by
  obtain ⟨g1, h1, f1, n1⟩ := h
  have := hb.size
  refine ⟨g1, h1, (Fr.of hb).trans f1, fun i hi => ?_⟩
  rcases n1 i hi with e | e
  · exact Or.inl e
  · exact Or.inr (by omega)
end
end Go.Proofs.YtabjghmfjoefpaaDoor
set_option linter.unusedVariables false
namespace Go.Proofs.YtabjghmfjoefpaaDoor
open Go.RowKit

/-- behind the check: the first cell holds the writer's own address -/
theorem check_w (b : Nat) (g : Option Nat) (l : List UInt8) (w : World) (h : Wr b g l w) :
    Calls Tryd.prog 58 #[.pointer (some ⟨b, 0, none⟩)] w fun e w' => e = .returned (.tuple #[]) ∧ (∃ v, w'.heap[b]? = some (.cells #[.pointer (some ⟨b, 0, none⟩), v] 70 (0, 0)) ∧ w'.ownsRow 0 5 1 v l.length (Lib.byteCells l) ∧ v.ownBlock = g) ∧ Fr [b] w w' ∧ w'.heap.size = w.heap.size := by
  have hI := h.isW
  obtain ⟨⟨p, v, hp, hbk, hown, hv⟩, hne⟩ := h
  rcases hp with rfl | rfl
  · have hB : Lib.BuilderAt 70 5 0 b (.pointer none) (Lib.byteCells l) w := ⟨Nat.zero_le _, v, hbk, by rw [Lib.byteCells_length]; exact hown, by rw [hv]; exact hne⟩
    refine (check_fresh b w hB.cell0 hB.shape hB.frozen0).mono ?_
    rintro e w' ⟨rfl, rfl⟩
    refine ⟨rfl, ⟨v, ?_, ?_, hv⟩, (Fr.refl [b] w).set (by simp) _, by simp [World.setCell]⟩
    · simp only [World.setCell, Array.getElem?_modify, if_true, hbk, Option.map_some]
      simp
    · obtain ⟨_, v2, hb2, ho2, _⟩ := hB.used (.pointer (some ⟨b, 0, none⟩))
      have hb3 : (w.setCell ⟨b, 0, none⟩ (.pointer (some ⟨b, 0, none⟩))).heap[b]? = some (.cells #[.pointer (some ⟨b, 0, none⟩), v] 70 (0, 0)) := by
        simp only [World.setCell, Array.getElem?_modify, if_true, hbk, Option.map_some]
        simp
      rw [hb2] at hb3
      simp at hb3
      rw [hb3] at ho2
      rw [Lib.byteCells_length] at ho2
      exact ho2
  · have hB : Lib.BuilderAt 70 5 0 b (.pointer (some ⟨b, 0, none⟩)) (Lib.byteCells l) w := ⟨Nat.zero_le _, v, hbk, by rw [Lib.byteCells_length]; exact hown, by rw [hv]; exact hne⟩
    refine (check_used b w hB.cell0).mono ?_
    rintro e w' ⟨rfl, rfl⟩
    exact ⟨rfl, ⟨v, hbk, hown, hv⟩, Fr.refl _ _, rfl⟩

theorem grown_fr {w w' : World} {g : Option Nat} {b : Nat} (h : w.grownBy w' g) : Fr (wus b g) w w' :=
  ⟨h.os, h.tape, h.output, h.size, fun k hk hn => h.block k hk fun e => hn (mem_wus.2 (Or.inr e.symm))⟩

theorem wr_put {b : Nat} {w : World} {p v v' : Value} {l : List UInt8} (hp : p = .pointer (some ⟨b, 0, none⟩)) (hb2 : w.heap[b]? = some (.cells #[p, v] 70 (0, 0))) (hown : w.ownsRow 0 5 1 v' l.length (Lib.byteCells l)) :
    Wr b v'.ownBlock l (w.setCell ⟨b, 1, none⟩ v') := by
  obtain ⟨_, v2, hb, ho, hne⟩ := Lib.BuilderAt.put (T := 70) (e := 5) (Nat.zero_le b) hb2 (bs' := Lib.byteCells l) (by rw [Lib.byteCells_length]; exact hown) (by decide)
  have hb3 : (w.setCell ⟨b, 1, none⟩ v').heap[b]? = some (.cells #[p, v'] 70 (0, 0)) := by
    simp only [World.setCell, Array.getElem?_modify, if_true, hb2, Option.map_some]
    simp
  rw [hb] at hb3
  simp at hb3
  subst hb3
  exact ⟨⟨_, _, Or.inr hp, hb, by rw [Lib.byteCells_length] at ho; exact ho, rfl⟩, hne⟩

set_option maxHeartbeats 2000000 in
set_option maxRecDepth 100000 in
/-- WriteByte: one byte more -/
theorem byte_w (b : Nat) (g : Option Nat) (l : List UInt8) (c : UInt8) (w : World) (h : Wr b g l w) (hlen : l.length + 1 ≤ 140737488355328) :
    Calls Tryd.prog 41 #[.pointer (some ⟨b, 0, none⟩), .int .u8 (c.toNat : Int)] w fun e w' => e = .returned .nilIface ∧ Wrote b g (l ++ [c]) w w' := by
  obtain ⟨i0, hi, hz0, hz1, hz2⟩ := info_parts w_byte
  have HW := mkHid h
  clear h
  go_enter Tryd.func41, Tryd.ntmps41
  go_wp2_with fail
  refine (check_w b g l _ HW.out).mono ?_
  rintro e w1 ⟨rfl, ⟨v, hbk, hown, hv⟩, hfr, hsz⟩
  have HF := mkHid hfr
  have HS := mkHid hsz
  have HV := mkHid hv
  have hne : v.ownBlock ≠ some b := by rw [hv]; exact HW.out.ne
  have HNE := mkHid hne
  clear hfr hsz hv hne
  have c0 : w1.cell? ⟨b, 0, none⟩ = some (.pointer (some ⟨b, 0, none⟩)) := by rw [Lib.cell_of_heap hbk]; rfl
  have c1 : w1.cell? ⟨b, 1, none⟩ = some v := by rw [Lib.cell_of_heap hbk]; rfl
  go_wp2_with (at_builtin; refine wpList_app_slice _ rfl _ _ 66 rfl 5 i0 (.int .u8 0) 1 1 w_bytes hi hz0 hz1 hz2 rfl (by decide) _ _ _ rfl (hown.alloc _) ⟨w1.heap.size, 0, none⟩ 1 1 [.int .u8 (c.toNat : Int)] rfl rfl ?c1 ?c2 ?c3 ?c4 (by decide) ?_)
  case c1 =>
    intro j u hj
    match j, hj with
    | 0, hj => simp at hj; subst hj; simp [Addr.add]
  case c2 => intro u hu; simp at hu; subst hu; rfl
  case c3 => unfold maxLen; omega
  case c4 => omega
  intro v' w2 hown' hgrow hnew
  have hlt : b < w1.heap.size := (Array.getElem?_eq_some_iff.1 hbk).1
  have hb2 : w2.heap[b]? = some (.cells #[.pointer (some ⟨b, 0, none⟩), v] 70 (0, 0)) := by
    rw [hgrow.block b (by simp; omega) (fun e => HNE.out e.symm), Lib.alloc_old w1 _ b hlt]
    exact hbk
  have d0 : w2.cell? ⟨b, 0, none⟩ = some (.pointer (some ⟨b, 0, none⟩)) := by rw [Lib.cell_of_heap hb2]; rfl
  have d1 : w2.cell? ⟨b, 1, none⟩ = some v := by rw [Lib.cell_of_heap hb2]; rfl
  have f1 : w2.frozen? ⟨b, 1, none⟩ = false := Lib.frozen_of_heap hb2 1
  have HN := mkHid hnew
  have HG := mkHid hgrow
  clear hnew hgrow
  obtain ⟨k, cap, rfl⟩ : ∃ k cap, v' = .slice (some ⟨k, 0, none⟩) (l.length + 1) cap := by
    rcases hown'.2 with ⟨_, h0⟩ | ⟨k, cap, cur, hv', _⟩
    · omega
    · exact ⟨k, cap, hv'⟩
  go_wp2
  go_ret
  refine ⟨rfl, some k, ?_, ?_, ?_⟩
  · exact wr_put rfl hb2 (l := l ++ [c]) (by simpa [Lib.byteCells] using hown')
  · refine Fr.set ?_ (by simp [wus]) _
    have h2 := HG.out
    rw [HV.out] at h2
    exact ((HF.out.sub (by simp [wus])).alloc _).trans (grown_fr h2)
  · rintro k' rfl_
    injection rfl_ with e
    subst e
    have hs := HS.out
    rcases HN.out with e | e
    · left; rw [← HV.out, ← e]; rfl
    · right
      have e' : some k = some (w1.heap.size + 1) := e
      injection e' with e''
      omega

set_option maxHeartbeats 2000000 in
set_option maxRecDepth 100000 in
/-- WriteString: a text more -/
theorem string_w (b : Nat) (g : Option Nat) (l : List UInt8) (s : ByteArray) (w : World) (h : Wr b g l w) (hlen : l.length + s.size ≤ 140737488355328) :
    Calls Tryd.prog 52 #[.pointer (some ⟨b, 0, none⟩), .string s] w fun e w' => e = .returned (.tuple #[.int .i64 s.size, .nilIface]) ∧ Wrote b g (l ++ s.data.toList) w w' := by
  obtain ⟨i0, hi, hz0, hz1, hz2⟩ := info_parts w_byte
  have HW := mkHid h
  clear h
  go_enter Tryd.func52, Tryd.ntmps52
  go_wp2_with fail
  refine (check_w b g l _ HW.out).mono ?_
  rintro e w1 ⟨rfl, ⟨v, hbk, hown, hv⟩, hfr, hsz⟩
  have HF := mkHid hfr
  have HS := mkHid hsz
  have HV := mkHid hv
  have hne : v.ownBlock ≠ some b := by rw [hv]; exact HW.out.ne
  have HNE := mkHid hne
  clear hfr hsz hv hne
  have c0 : w1.cell? ⟨b, 0, none⟩ = some (.pointer (some ⟨b, 0, none⟩)) := by rw [Lib.cell_of_heap hbk]; rfl
  have c1 : w1.cell? ⟨b, 1, none⟩ = some v := by rw [Lib.cell_of_heap hbk]; rfl
  go_wp2_with (at_builtin; refine wpList_app_string _ rfl _ _ 66 9 rfl 5 i0 w_bytes w_string hi hz0 hz1 hz2 _ _ _ rfl hown s rfl ?c3 ?c4 ?_)
  case c3 => unfold maxLen; omega
  case c4 => omega
  intro v' w2 hown' hgrow hnew
  have hlt : b < w1.heap.size := (Array.getElem?_eq_some_iff.1 hbk).1
  have hb2 : w2.heap[b]? = some (.cells #[.pointer (some ⟨b, 0, none⟩), v] 70 (0, 0)) := by
    rw [hgrow.block b hlt (fun e => HNE.out e.symm)]
    exact hbk
  have d0 : w2.cell? ⟨b, 0, none⟩ = some (.pointer (some ⟨b, 0, none⟩)) := by rw [Lib.cell_of_heap hb2]; rfl
  have d1 : w2.cell? ⟨b, 1, none⟩ = some v := by rw [Lib.cell_of_heap hb2]; rfl
  have f1 : w2.frozen? ⟨b, 1, none⟩ = false := Lib.frozen_of_heap hb2 1
  have HN := mkHid hnew
  have HG := mkHid hgrow
  clear hnew hgrow
  obtain ⟨ao, n', cap, rfl⟩ : ∃ ao n' cap, v' = .slice ao n' cap := by
    rcases hown'.2 with ⟨hv', _⟩ | ⟨k, cap, cur, hv', _⟩
    · exact ⟨_, _, _, hv'⟩
    · exact ⟨_, _, _, hv'⟩
  have HO := mkHid hown'
  clear hown'
  go_wp2
  go_ret2
  refine ⟨rfl, Value.ownBlock (.slice ao n' cap), ?_, ?_, ?_⟩
  · exact wr_put rfl hb2 (l := l ++ s.data.toList) (by
      have h := HO.out
      rw [Lib.strCells_eq, ← Lib.byteCells_append] at h
      rw [List.length_append, show s.data.toList.length = s.size by simp]
      exact h)
  · refine Fr.set ?_ (by simp [wus]) _
    refine (HF.out.sub (by simp [wus])).trans ?_
    exact grown_fr (by rw [HV.out] at HG; exact HG.out)
  · intro k' hk'
    have hs := HS.out
    rcases HN.out with e | e
    · left; rw [← HV.out, ← e]; exact hk'
    · right
      rw [e] at hk'
      injection hk' with e'
      omega

/-- String: what the writer holds; a writer of the call's own -/
theorem str_w (B b : Nat) (g : Option Nat) (l : List UInt8) (w : World) (h : Wr b g l w) (hb : B ≤ b) (hg : ∀ k, g = some k → B ≤ k) (hBw : B ≤ w.heap.size) :
    Calls Tryd.prog 35 #[.pointer (some ⟨b, 0, none⟩)] w fun e w' => e = .returned (.string ⟨l.toArray⟩) ∧ Below B w w' :=
  str_any B b l w (h.isWB hb hg) hBw
end Go.Proofs.YtabjghmfjoefpaaDoor
