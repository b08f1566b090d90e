import Derived.Test.YtinfefmoiimomaaDoorRows
import Derived.WalkKit
import Derived.Below
import Derived.BigQuiet
import Derived.WalkSpells
import Derived.Laws.AppendOwnNone
namespace Go.RowKit
/-- chains of Below -/
theorem Below.then {a b c : World} (h : Below a.heap.size a b) (k : Below b.heap.size b c) : Below a.heap.size a c :=
  h.trans (k.mono h.size)
theorem Below.new {a b : World} (h : Below a.heap.size a b) (o : Obj) : Below a.heap.size a (b.alloc o) := h.alloc h.size o
end Go.RowKit
namespace Go.Proofs.YtinfefmoiimomaaDoor
open Go.RowKit

theorem mkHid {p : Prop} (h : p) : Hid p := h
theorem ret_bool {a b : Bool} (h : a = b) : Ending.returned (.bool a) = .returned (.bool b) := by rw [h]
theorem ret_int {k : IntKind} {a b : Int} (h : a = b) : Ending.returned (.int k a) = .returned (.int k b) := by rw [h]

theorem cell_lt {w : World} {b o : Nat} {v : Value} (h : w.cell? ⟨b, o, none⟩ = some v) : b < w.heap.size :=
  World.block_lt_of_cell? w ⟨b, o, none⟩ h
/-- a cell that was there reads as it did -/
theorem keep {w w' : World} {b o : Nat} {v : Value} (h : w.cell? ⟨b, o, none⟩ = some v) (hb : Below w.heap.size w w') : w'.cell? ⟨b, o, none⟩ = some v :=
  (hb.cell (p := ⟨b, o, none⟩) (cell_lt h)).trans h
/-- all cells that could be read read as they did -/
def Keeps (w w' : World) : Prop := ∀ b o v, w.cell? ⟨b, o, none⟩ = some v → w'.cell? ⟨b, o, none⟩ = some v
theorem Keeps.of {w w' : World} (h : Below w.heap.size w w') : Keeps w w' := fun _ _ _ hc => keep hc h
theorem Keeps.refl (w : World) : Keeps w w := fun _ _ _ h => h
theorem Keeps.trans {a b c : World} (h : Keeps a b) (k : Keeps b c) : Keeps a c := fun _ _ _ hc => k _ _ _ (h _ _ _ hc)
/-- the world without one block -/
def hide (r : Option Nat) (w : World) : World := match r with
  | none => w
  | some g => { w with heap := w.heap.setIfInBounds g (.cells #[] 0) }
theorem hide_heap (g : Nat) (w : World) (b : Nat) (h : b ≠ g) : (hide (some g) w).heap[b]? = w.heap[b]? := by
  simp [hide, Ne.symm h]
theorem hide_cell {g : Nat} {w : World} {b o : Nat} {v : Value} (h : (hide (some g) w).cell? ⟨b, o, none⟩ = some v) : b ≠ g ∧ w.cell? ⟨b, o, none⟩ = some v := by
  by_cases hb : b = g
  · subst hb
    simp only [World.cell?, hide, Array.getElem?_setIfInBounds] at h
    by_cases hs : b < w.heap.size <;> simp [hs] at h
  · refine ⟨hb, ?_⟩
    rwa [World.cell?, hide_heap g w b hb] at h
theorem hide_keeps (r : Option Nat) (w : World) : Keeps (hide r w) w := by
  cases r with
  | none => exact Keeps.refl _
  | some g => exact fun b o v h => (hide_cell h).2
theorem hide_of_ne {g : Nat} {w : World} {b o : Nat} {v : Value} (hb : b ≠ g) (h : w.cell? ⟨b, o, none⟩ = some v) : (hide (some g) w).cell? ⟨b, o, none⟩ = some v := by
  rwa [World.cell?, hide_heap g w b hb]
theorem grown_keeps {w w' : World} {r : Option Nat} (h : w.grownBy w' r) : Keeps (hide r w) (hide r w') := by
  intro b o v hc
  cases r with
  | none => exact (World.cell?_of_block (w := w) (a := ⟨b, o, none⟩) (h.block b (cell_lt hc) (by simp))).trans hc
  | some g =>
    obtain ⟨hb, hc'⟩ := hide_cell hc
    exact hide_of_ne hb ((World.cell?_of_block (w := w) (a := ⟨b, o, none⟩) (h.block b (cell_lt hc') (by simp; exact hb))).trans hc')
/-- what was there before a block was made is read without it -/
theorem fresh_keeps {w w' : World} {g : Nat} (h : Keeps w w') (hg : w.heap.size ≤ g) : Keeps w (hide (some g) w') := by
  intro b o v hc
  have := cell_lt hc
  exact hide_of_ne (by omega) (h _ _ _ hc)

/-- data of a kind, laid at a place of memory -/
class Rep (α : Type) where
  sz : Nat
  E : World → Nat → Nat → α → Prop
  mono : ∀ {w w' : World} {b o : Nat} {x : α}, E w b o x → Keeps w w' → E w' b o x
  lt : ∀ {w : World} {b o : Nat} {x : α}, E w b o x → b < w.heap.size

/-- a slice reads as a list -/
structure Row {α : Type} [Rep α] (w : World) (a : Option Addr) (cap : Nat) (xs : List α) : Prop where
  le : xs.length ≤ cap
  max : cap ≤ 9223372036854775807
  nil : a = none → cap = 0
  at_ : ∀ i x, xs[i]? = some x → ∃ b off, a = some ⟨b, off, none⟩ ∧ Rep.E w b (off + i * Rep.sz α) x

section
variable {α : Type} [Rep α]
theorem Row.keeps {w w' : World} {a : Option Addr} {cap : Nat} {xs : List α} (h : Row w a cap xs) (hb : Keeps w w') : Row w' a cap xs :=
  ⟨h.le, h.max, h.nil, fun i c hi => let ⟨b, off, e, hc⟩ := h.at_ i c hi; ⟨b, off, e, Rep.mono hc hb⟩⟩
theorem Row.below {w w' : World} {a : Option Addr} {cap : Nat} {xs : List α} (h : Row w a cap xs) (hb : Below w.heap.size w w') : Row w' a cap xs :=
  h.keeps (Keeps.of hb)
/-- empty, or at a block -/
theorem Row.cases {w : World} {a : Option Addr} {cap : Nat} {xs : List α} (h : Row w a cap xs) :
    xs = [] ∨ ∃ b off, a = some ⟨b, off, none⟩ ∧ b < w.heap.size ∧ ∀ i (hi : i < xs.length), Rep.E w b (off + i * Rep.sz α) xs[i] := by
  by_cases hx : xs = []
  · exact .inl hx
  · right
    have h0 : 0 < xs.length := List.length_pos_iff.2 hx
    obtain ⟨b, off, e, hc⟩ := h.at_ 0 xs[0] (List.getElem?_eq_getElem h0)
    refine ⟨b, off, e, Rep.lt hc, fun i hi => ?_⟩
    obtain ⟨b', off', e', hc'⟩ := h.at_ i xs[i] (List.getElem?_eq_getElem hi)
    rw [e] at e'
    simp at e'
    obtain ⟨rfl, rfl⟩ := e'
    exact hc'
theorem Row.empty (w : World) (a : Option Addr) (cap : Nat) (h : cap ≤ 9223372036854775807) (hn : a = none → cap = 0) : Row w a cap ([] : List α) :=
  ⟨Nat.zero_le _, h, hn, fun i x hi => by simp at hi⟩
end

structure IntE (w : World) (b o : Nat) (n : Int) : Prop where
  c : w.cell? ⟨b, o, none⟩ = some (.int .i64 n)
  lo : -9223372036854775808 ≤ n
  hi : n ≤ 9223372036854775807
instance : Rep Int where
  sz := 1
  E := IntE
  mono h hb := ⟨hb _ _ _ h.c, h.lo, h.hi⟩
  lt h := cell_lt h.c
structure StrE (w : World) (b o : Nat) (s : ByteArray) : Prop where
  c : w.cell? ⟨b, o, none⟩ = some (.string s)
  hi : s.size ≤ 9223372036854775807
instance : Rep ByteArray where
  sz := 1
  E := StrE
  mono h hb := ⟨hb _ _ _ h.c, h.hi⟩
  lt h := cell_lt h.c
structure BoolE (w : World) (b o : Nat) (s : Bool) : Prop where
  c : w.cell? ⟨b, o, none⟩ = some (.bool s)
instance : Rep Bool where
  sz := 1
  E := BoolE
  mono h hb := ⟨hb _ _ _ h.c⟩
  lt h := cell_lt h.c
structure ListE {α : Type} [Rep α] (w : World) (b o : Nat) (xs : List α) : Prop where
  ex : ∃ a cap, w.cell? ⟨b, o, none⟩ = some (.slice a xs.length cap) ∧ Row w a cap xs
instance {α : Type} [Rep α] : Rep (List α) where
  sz := 1
  E := ListE
  mono h hb := let ⟨a, cap, hc, hr⟩ := h.ex; ⟨a, cap, hb _ _ _ hc, hr.keeps hb⟩
  lt h := let ⟨_, _, hc, _⟩ := h.ex; cell_lt hc

/-- a cell of a term -/
structure Cel where
  k : Int
  s : ByteArray
  n : Int
  deriving DecidableEq
abbrev Cel.v (c : Cel) : Value := .agg #[.int .i64 c.k, .string c.s, .int .i64 c.n]
structure Cel.fit (c : Cel) : Prop where
  k1 : -9223372036854775808 ≤ c.k
  k2 : c.k ≤ 9223372036854775807
  n1 : -9223372036854775808 ≤ c.n
  n2 : c.n ≤ 9223372036854775807
  s : c.s.size ≤ 9223372036854775807
structure CelAt (w : World) (b o : Nat) (c : Cel) : Prop where
  c0 : w.cell? ⟨b, o, none⟩ = some (.int .i64 c.k)
  c1 : w.cell? ⟨b, o + 1, none⟩ = some (.string c.s)
  c2 : w.cell? ⟨b, o + 2, none⟩ = some (.int .i64 c.n)
  fit : c.fit
theorem CelAt.keeps {w w' : World} {b o : Nat} {c : Cel} (h : CelAt w b o c) (hb : Keeps w w') : CelAt w' b o c :=
  ⟨hb _ _ _ h.c0, hb _ _ _ h.c1, hb _ _ _ h.c2, h.fit⟩
theorem CelAt.below {w w' : World} {b o : Nat} {c : Cel} (h : CelAt w b o c) (hb : Below w.heap.size w w') : CelAt w' b o c := h.keeps (Keeps.of hb)
instance : Rep Cel where
  sz := 3
  E := CelAt
  mono := CelAt.keeps
  lt h := cell_lt h.c0
theorem Row.fit {w : World} {a : Option Addr} {cap : Nat} {xs : List Cel} (h : Row w a cap xs) : ∀ c ∈ xs, c.fit := by
  intro c hc
  obtain ⟨i, hi, rfl⟩ := List.getElem_of_mem hc
  obtain ⟨b, off, _, he⟩ := h.at_ i xs[i] (List.getElem?_eq_getElem hi)
  exact CelAt.fit he
/-- a slice of cells at a block -/
theorem cel_at {w wr : World} {b off : Nat} {xs : List Cel} (hat : ∀ i (hi : i < xs.length), Rep.E w b (off + i * Rep.sz Cel) xs[i]) (hb : Below w.heap.size w wr) {k : Nat} (hk : k < xs.length) : CelAt wr b (off + k * 3) xs[k] :=
  CelAt.below (hat k hk) hb
theorem int_at {w wr : World} {b off : Nat} {xs : List Int} (hat : ∀ i (hi : i < xs.length), Rep.E w b (off + i * Rep.sz Int) xs[i]) (hb : Below w.heap.size w wr) {k : Nat} (hk : k < xs.length) : IntE wr b (off + k) xs[k] := by
  have h : IntE w b (off + k * 1) xs[k] := hat k hk
  rw [Nat.mul_one] at h
  exact ⟨keep h.c hb, h.lo, h.hi⟩
theorem list_at {α : Type} [Rep α] {w wr : World} {b off : Nat} {xs : List (List α)} (hat : ∀ i (hi : i < xs.length), Rep.E w b (off + i * Rep.sz (List α)) xs[i]) (hb : Below w.heap.size w wr) {k : Nat} (hk : k < xs.length) :
    ∃ a cap, wr.cell? ⟨b, off + k, none⟩ = some (.slice a xs[k].length cap) ∧ Row wr a cap xs[k] := by
  have h : ListE w b (off + k * 1) xs[k] := hat k hk
  rw [Nat.mul_one] at h
  obtain ⟨a, cap, hc, hr⟩ := h.ex
  exact ⟨a, cap, keep hc hb, hr.below hb⟩
theorem Cel.eq_iff (x y : Cel) : x = y ↔ x.k = y.k ∧ x.s = y.s ∧ x.n = y.n := by
  cases x; cases y; simp
theorem toList_inj (a b : ByteArray) : (a.toList = b.toList) ↔ a = b := by
  rw [ByteArray.toList_eq, ByteArray.toList_eq]
  constructor
  · intro e
    cases a; cases b
    simp at e
    rw [e]
  · intro e; rw [e]
theorem take_eq_snoc {α : Type} {xs ys : List α} {k : Nat} (h : xs.take k = ys.take k) (hx : k < xs.length) (hy : k < ys.length) (e : xs[k] = ys[k]) : xs.take (k + 1) = ys.take (k + 1) := by
  rw [List.take_succ_eq_append_getElem hx, List.take_succ_eq_append_getElem hy, h, e]
theorem take_all {α : Type} {xs ys : List α} {k : Nat} (h : xs.take k = ys.take k) (hx : xs.length ≤ k) (hy : ys.length ≤ k) : xs = ys := by
  rwa [List.take_of_length_le hx, List.take_of_length_le hy] at h

/-! ### rows that a call makes and appends to -/
/-- the source of an append -/
structure Src (w : World) (size : Nat) (sa : Option Addr) (m c : Nat) (news : List Value) : Prop where
  len : news.length = m * size
  nil : sa = none → m = 0 ∧ c = 0
  cells : ∀ ad, sa = some ad → ∀ j u, news[j]? = some u → w.cell? (ad.add j) = some u
  one : ∀ u ∈ news, u.oneCell' = true

theorem grown_below {w w' : World} {B e size : Nat} {v : Value} {n : Nat} {xs : List Value} (hg : w.grownBy w' v.ownBlock) (hown : w.ownsRow B e size v n xs) (hB : B ≤ w.heap.size) : Below B w w' :=
  (Below.refl B w).grown hg hB (fun k hk => (hown.lt k hk).1)

theorem wpList_app {P : Program} {w : World} {ops : Array Oper} {rest : List Oper} {o : Oper} {a : Act} {Q : Exit → Act → World → Prop} (hgd : o.guard = none) (s x : Operand) (t : TypeId)
    (ho : o.op = .call { callee := .builtin .append, args := #[s, x], argTypes := #[t, t] })
    (B e size bytes : Nat) (z : Value) (ht : P.underlying t = some (.slice e)) (hinfo : (P.info? e).map (fun i => (i.zero, i.size, i.bytes)) = some (some z, size, bytes))
    (hzs : z.cells.size = size) (hsz : 0 < size) (hby : bytes ≤ 1000)
    (v : Value) (n : Nat) (xs : List Value) (hs : a.eval s = v) (hown : w.ownsRow B e size v n xs)
    (sa : Option Addr) (m c : Nat) (news : List Value) (hx : a.eval x = .slice sa m c) (hsrc : Src w size sa m c news)
    (hmax : n + m ≤ 1000000000) (hB : B ≤ w.heap.size)
    (h : ∀ v' w', w'.ownsRow B e size v' (n + m) (xs ++ news) → w.grownBy w' v.ownBlock → Below B w w' → wpList P ops Q rest (a.put o.dst v') w') : wpList P ops Q (o :: rest) a w := by
  obtain ⟨i, hi, hz0, hz1, hz2⟩ := info_parts hinfo
  have hb : (n + m) * bytes ≤ 140737488355328 := Nat.le_trans (Nat.mul_le_mul hmax hby) (by decide)
  cases sa with
  | none =>
    obtain ⟨rfl, rfl⟩ := hsrc.nil rfl
    have hn : news = [] := List.eq_nil_of_length_eq_zero (by have := hsrc.len; simpa using this)
    subst hn
    refine wpList_append_own_none hgd s x t ho B e i size ht hi v n xs hs hown hx ?_
    exact h v w (by simpa using hown) ⟨rfl, rfl, rfl, Nat.le_refl _, fun _ _ _ => rfl⟩ (Below.refl _ _)
  | some ad =>
    refine wpList_append_own w hgd s x t ho B e i z size bytes ht hi hz0 hz1 hz2 hzs hsz v n xs hs hown ad m c news hx hsrc.len (hsrc.cells ad rfl) hsrc.one (by unfold maxLen; omega) hb hB ?_
    intro v' w' h1 h2 _
    exact h v' w' h1 h2 (grown_below h2 hown hB)

/-- the cells of a row of cells of terms -/
def flat (xs : List Cel) : List Value := xs.flatMap fun c => [.int .i64 c.k, .string c.s, .int .i64 c.n]
theorem flat_length (xs : List Cel) : (flat xs).length = xs.length * 3 := by
  induction xs with
  | nil => rfl
  | cons c xs ih => simp only [flat, List.flatMap_cons, List.length_append, List.length_cons, List.length_nil] at ih ⊢; omega
theorem flat_append (xs ys : List Cel) : flat (xs ++ ys) = flat xs ++ flat ys := by simp [flat]
theorem flat_at (xs : List Cel) (i : Nat) (hi : i < xs.length) : (flat xs)[i * 3]? = some (.int .i64 xs[i].k) ∧ (flat xs)[i * 3 + 1]? = some (.string xs[i].s) ∧ (flat xs)[i * 3 + 2]? = some (.int .i64 xs[i].n) := by
  induction xs generalizing i with
  | nil => simp at hi
  | cons c xs ih =>
    cases i with
    | zero => simp [flat]
    | succ i =>
      have := ih i (by simpa using hi)
      have hf : flat (c :: xs) = .int .i64 c.k :: .string c.s :: .int .i64 c.n :: flat xs := rfl
      rw [hf, show (i + 1) * 3 = i * 3 + 1 + 1 + 1 by omega]
      simp only [List.getElem_cons_succ, List.getElem?_cons_succ, Nat.add_right_comm _ 1]
      exact this
theorem flat_one (xs : List Cel) : ∀ u ∈ flat xs, u.oneCell' = true := by
  intro u hu
  simp [flat] at hu
  obtain ⟨c, _, rfl | rfl | rfl⟩ := hu <;> rfl
theorem Row.src {w : World} {a : Option Addr} {cap : Nat} {xs : List Cel} (h : Row w a cap xs) : Src w 3 a xs.length cap (flat xs) := by
  refine ⟨flat_length xs, fun e => ⟨?_, h.nil e⟩, ?_, flat_one xs⟩
  · have := h.le; have := h.nil e; omega
  · intro ad e j u hj
    have hl : j < xs.length * 3 := by rw [← flat_length]; exact (List.getElem?_eq_some_iff.1 hj).1
    have hi : j / 3 < xs.length := by omega
    obtain ⟨b, off, e', hc⟩ := h.at_ (j / 3) _ (List.getElem?_eq_getElem hi)
    rw [e] at e'
    simp at e'
    subst e'
    have hc' : CelAt w b (off + j / 3 * 3) xs[j / 3] := hc
    have ha : (Addr.mk b off none).add j = ⟨b, off + j, none⟩ := by unfold Addr.add; split <;> simp_all
    rw [ha]
    obtain ⟨f0, f1, f2⟩ := flat_at xs (j / 3) hi
    have : j = j / 3 * 3 ∨ j = j / 3 * 3 + 1 ∨ j = j / 3 * 3 + 2 := by omega
    rcases this with e | e | e
    · rw [e, f0] at hj; rw [e, ← Option.some.inj hj]; exact hc'.c0
    · rw [e, f1] at hj; rw [e, ← Option.some.inj hj]; exact hc'.c1
    · rw [e, f2] at hj; rw [e, ← Option.some.inj hj]; exact hc'.c2

/-- a row of the call's own reads as a row -/
theorem own_row {w : World} {B e : Nat} {v : Value} {xs : List Cel} (h : w.ownsRow B e 3 v xs.length (flat xs)) (hf : ∀ c ∈ xs, c.fit) : ∃ a cap, v = .slice a xs.length cap ∧ Row w a cap xs := by
  rcases h.2 with ⟨rfl, hn⟩ | ⟨g, cap, cur, rfl, hb, hg, hn, hm, hs, ht⟩
  · obtain rfl : xs = [] := List.eq_nil_of_length_eq_zero hn
    exact ⟨none, 0, rfl, Row.empty _ _ _ (by omega) (fun _ => rfl)⟩
  · refine ⟨_, cap, rfl, ⟨hn, by unfold maxLen at hm; omega, (fun e => by cases e), fun i x hi => ⟨g, 0, rfl, ?_⟩⟩⟩
    have hl : i < xs.length := (List.getElem?_eq_some_iff.1 hi).1
    have hx : xs[i] = x := by rw [List.getElem?_eq_getElem hl] at hi; exact Option.some.inj hi
    have hc : ∀ j u, (flat xs)[j]? = some u → w.cell? ⟨g, j, none⟩ = some u := by
      intro j u hu
      have := World.ownsRow.cells h (g := g) rfl j u hu
      have ha : (Addr.mk g 0 none).add j = ⟨g, j, none⟩ := by unfold Addr.add; split <;> simp_all
      rwa [ha] at this
    obtain ⟨f0, f1, f2⟩ := flat_at xs i hl
    subst hx
    show CelAt w g (0 + i * 3) xs[i]
    rw [Nat.zero_add]
    exact ⟨hc _ _ f0, hc _ _ f1, hc _ _ f2, hf _ (List.getElem_mem hl)⟩

/-- one new element, in a block of its own -/
theorem src_new (w : World) (cs : Array Value) (T size : Nat) (hs : cs.size = size) (h1 : ∀ u ∈ cs.toList, u.oneCell' = true) : Src (w.alloc (.cells cs T)) size (some ⟨w.heap.size, 0, none⟩) 1 1 cs.toList := by
  refine ⟨by simp [hs], (fun e => by cases e), ?_, h1⟩
  intro ad e j u hu
  simp at e
  subst e
  have ha : (Addr.mk w.heap.size 0 none).add j = ⟨w.heap.size, j, none⟩ := by unfold Addr.add; split <;> simp_all
  rw [ha, World.cell?_alloc_at _ _ _ _ rfl]
  simpa using hu

theorem own_cells {w : World} {B e size : Nat} {g n cap : Nat} {vs : List Value} (h : w.ownsRow B e size (.slice (some ⟨g, 0, none⟩) n cap) n vs) : ∀ j u, vs[j]? = some u → w.cell? ⟨g, j, none⟩ = some u := by
  intro j u hu
  have := World.ownsRow.cells h (g := g) rfl j u hu
  have ha : (Addr.mk g 0 none).add j = ⟨g, j, none⟩ := by unfold Addr.add; split <;> simp_all
  rwa [ha] at this

theorem own_rowI {w : World} {B e : Nat} {v : Value} {xs : List Int} (h : w.ownsRow B e 1 v xs.length (xs.map (Value.int .i64))) (hf : ∀ n ∈ xs, -9223372036854775808 ≤ n ∧ n ≤ 9223372036854775807) : ∃ a cap, v = .slice a xs.length cap ∧ Row w a cap xs := by
  rcases h.2 with ⟨rfl, hn⟩ | ⟨g, cap, cur, rfl, hb, hg, hn, hm, hs, ht⟩
  · obtain rfl : xs = [] := List.eq_nil_of_length_eq_zero hn
    exact ⟨none, 0, rfl, Row.empty _ _ _ (by omega) (fun _ => rfl)⟩
  · refine ⟨_, cap, rfl, ⟨hn, by unfold maxLen at hm; omega, (fun e => by cases e), fun i x hi => ⟨g, 0, rfl, ?_⟩⟩⟩
    have hl : i < xs.length := (List.getElem?_eq_some_iff.1 hi).1
    have hx : xs[i] = x := by rw [List.getElem?_eq_getElem hl] at hi; exact Option.some.inj hi
    show IntE w g (0 + i * 1) x
    rw [Nat.zero_add, Nat.mul_one]
    have hm := hf x (hx ▸ List.getElem_mem hl)
    exact ⟨own_cells h i _ (by rw [List.getElem?_map, hi]; rfl), hm.1, hm.2⟩
end Go.Proofs.YtinfefmoiimomaaDoor
