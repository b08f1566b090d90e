import Derived.Test.YtfcebbfphjbkoaaRows
import Derived.WalkKit
import Derived.Below
import Derived.BigQuiet
import Derived.WalkSpells
import Derived.Laws.AppendOwnNone
import Derived.OrdersHeld
import Derived.Deep.RegionHeld3
namespace Go.RowKit
/-- chains of Below -/
theorem Below.then {a b c : World} (h : Below a.heap.size a b) (k : Below b.heap.size b c) : Below a.heap.size a c :=
  h.trans (k.mono h.size)
theorem Below.new {a b : World} (h : Below a.heap.size a b) (o : Obj) : Below a.heap.size a (b.alloc o) := h.alloc h.size o
end Go.RowKit
namespace Go.Proofs.Ytfcebbfphjbkoaa
open Go.RowKit

theorem mkHid {p : Prop} (h : p) : Hid p := h
theorem ret_bool {a b : Bool} (h : a = b) : Ending.returned (.bool a) = .returned (.bool b) := by rw [h]
theorem ret_int {k : IntKind} {a b : Int} (h : a = b) : Ending.returned (.int k a) = .returned (.int k b) := by rw [h]

theorem cell_lt {w : World} {b o : Nat} {v : Value} (h : w.cell? ⟨b, o, none⟩ = some v) : b < w.heap.size :=
  World.block_lt_of_cell? w ⟨b, o, none⟩ h
/-- a cell that was there reads as it did -/
theorem keep {w w' : World} {b o : Nat} {v : Value} (h : w.cell? ⟨b, o, none⟩ = some v) (hb : Below w.heap.size w w') : w'.cell? ⟨b, o, none⟩ = some v :=
  (hb.cell (p := ⟨b, o, none⟩) (cell_lt h)).trans h
/-- all cells that could be read read as they did -/
def Keeps (w w' : World) : Prop := ∀ b o v, w.cell? ⟨b, o, none⟩ = some v → w'.cell? ⟨b, o, none⟩ = some v
theorem Keeps.of {w w' : World} (h : Below w.heap.size w w') : Keeps w w' := fun _ _ _ hc => keep hc h
theorem Keeps.refl (w : World) : Keeps w w := fun _ _ _ h => h
theorem Keeps.trans {a b c : World} (h : Keeps a b) (k : Keeps b c) : Keeps a c := fun _ _ _ hc => k _ _ _ (h _ _ _ hc)
/-- the world without one block -/
def hide (r : Option Nat) (w : World) : World := match r with
  | none => w
  | some g => { w with heap := w.heap.setIfInBounds g (.cells #[] 0) }
theorem hide_heap (g : Nat) (w : World) (b : Nat) (h : b ≠ g) : (hide (some g) w).heap[b]? = w.heap[b]? := by
  simp [hide, Ne.symm h]
theorem hide_cell {g : Nat} {w : World} {b o : Nat} {v : Value} (h : (hide (some g) w).cell? ⟨b, o, none⟩ = some v) : b ≠ g ∧ w.cell? ⟨b, o, none⟩ = some v := by
  by_cases hb : b = g
  · subst hb
    simp only [World.cell?, hide, Array.getElem?_setIfInBounds] at h
    by_cases hs : b < w.heap.size <;> simp [hs] at h
  · refine ⟨hb, ?_⟩
    rwa [World.cell?, hide_heap g w b hb] at h
theorem hide_keeps (r : Option Nat) (w : World) : Keeps (hide r w) w := by
  cases r with
  | none => exact Keeps.refl _
  | some g => exact fun b o v h => (hide_cell h).2
theorem hide_of_ne {g : Nat} {w : World} {b o : Nat} {v : Value} (hb : b ≠ g) (h : w.cell? ⟨b, o, none⟩ = some v) : (hide (some g) w).cell? ⟨b, o, none⟩ = some v := by
  rwa [World.cell?, hide_heap g w b hb]
theorem grown_keeps {w w' : World} {r : Option Nat} (h : w.grownBy w' r) : Keeps (hide r w) (hide r w') := by
  intro b o v hc
  cases r with
  | none => exact (World.cell?_of_block (w := w) (a := ⟨b, o, none⟩) (h.block b (cell_lt hc) (by simp))).trans hc
  | some g =>
    obtain ⟨hb, hc'⟩ := hide_cell hc
    exact hide_of_ne hb ((World.cell?_of_block (w := w) (a := ⟨b, o, none⟩) (h.block b (cell_lt hc') (by simp; exact hb))).trans hc')
/-- what was there before a block was made is read without it -/
theorem fresh_keeps {w w' : World} {g : Nat} (h : Keeps w w') (hg : w.heap.size ≤ g) : Keeps w (hide (some g) w') := by
  intro b o v hc
  have := cell_lt hc
  exact hide_of_ne (by omega) (h _ _ _ hc)

/-- data of a kind, laid at a place of memory -/
class Rep (α : Type) where
  sz : Nat
  E : World → Nat → Nat → α → Prop
  mono : ∀ {w w' : World} {b o : Nat} {x : α}, E w b o x → Keeps w w' → E w' b o x
  lt : ∀ {w : World} {b o : Nat} {x : α}, E w b o x → b < w.heap.size

/-- a slice reads as a list -/
structure Row {α : Type} [Rep α] (w : World) (a : Option Addr) (cap : Nat) (xs : List α) : Prop where
  le : xs.length ≤ cap
  max : cap ≤ 9223372036854775807
  nil : a = none → cap = 0
  at_ : ∀ i x, xs[i]? = some x → ∃ b off, a = some ⟨b, off, none⟩ ∧ Rep.E w b (off + i * Rep.sz α) x

section
variable {α : Type} [Rep α]
theorem Row.keeps {w w' : World} {a : Option Addr} {cap : Nat} {xs : List α} (h : Row w a cap xs) (hb : Keeps w w') : Row w' a cap xs :=
  ⟨h.le, h.max, h.nil, fun i c hi => let ⟨b, off, e, hc⟩ := h.at_ i c hi; ⟨b, off, e, Rep.mono hc hb⟩⟩
theorem Row.below {w w' : World} {a : Option Addr} {cap : Nat} {xs : List α} (h : Row w a cap xs) (hb : Below w.heap.size w w') : Row w' a cap xs :=
  h.keeps (Keeps.of hb)
/-- empty, or at a block -/
theorem Row.cases {w : World} {a : Option Addr} {cap : Nat} {xs : List α} (h : Row w a cap xs) :
    xs = [] ∨ ∃ b off, a = some ⟨b, off, none⟩ ∧ b < w.heap.size ∧ ∀ i (hi : i < xs.length), Rep.E w b (off + i * Rep.sz α) xs[i] := by
  by_cases hx : xs = []
  · exact .inl hx
  · right
    have h0 : 0 < xs.length := List.length_pos_iff.2 hx
    obtain ⟨b, off, e, hc⟩ := h.at_ 0 xs[0] (List.getElem?_eq_getElem h0)
    refine ⟨b, off, e, Rep.lt hc, fun i hi => ?_⟩
    obtain ⟨b', off', e', hc'⟩ := h.at_ i xs[i] (List.getElem?_eq_getElem hi)
    rw [e] at e'
    simp at e'
    obtain ⟨rfl, rfl⟩ := e'
    exact hc'
theorem Row.empty (w : World) (a : Option Addr) (cap : Nat) (h : cap ≤ 9223372036854775807) (hn : a = none → cap = 0) : Row w a cap ([] : List α) :=
  ⟨Nat.zero_le _, h, hn, fun i x hi => by simp at hi⟩
end

structure IntE (w : World) (b o : Nat) (n : Int) : Prop where
  c : w.cell? ⟨b, o, none⟩ = some (.int .i64 n)
  lo : -9223372036854775808 ≤ n
  hi : n ≤ 9223372036854775807
instance : Rep Int where
  sz := 1
  E := IntE
  mono h hb := ⟨hb _ _ _ h.c, h.lo, h.hi⟩
  lt h := cell_lt h.c
structure StrE (w : World) (b o : Nat) (s : ByteArray) : Prop where
  c : w.cell? ⟨b, o, none⟩ = some (.string s)
  hi : s.size ≤ 9223372036854775807
instance : Rep ByteArray where
  sz := 1
  E := StrE
  mono h hb := ⟨hb _ _ _ h.c, h.hi⟩
  lt h := cell_lt h.c
structure BoolE (w : World) (b o : Nat) (s : Bool) : Prop where
  c : w.cell? ⟨b, o, none⟩ = some (.bool s)
instance : Rep Bool where
  sz := 1
  E := BoolE
  mono h hb := ⟨hb _ _ _ h.c⟩
  lt h := cell_lt h.c
structure ListE {α : Type} [Rep α] (w : World) (b o : Nat) (xs : List α) : Prop where
  ex : ∃ a cap, w.cell? ⟨b, o, none⟩ = some (.slice a xs.length cap) ∧ Row w a cap xs
instance {α : Type} [Rep α] : Rep (List α) where
  sz := 1
  E := ListE
  mono h hb := let ⟨a, cap, hc, hr⟩ := h.ex; ⟨a, cap, hb _ _ _ hc, hr.keeps hb⟩
  lt h := let ⟨_, _, hc, _⟩ := h.ex; cell_lt hc

/-- a cell of a term -/
structure Cel where
  k : Int
  s : ByteArray
  n : Int
  deriving DecidableEq
abbrev Cel.v (c : Cel) : Value := .agg #[.int .i64 c.k, .string c.s, .int .i64 c.n]
structure Cel.fit (c : Cel) : Prop where
  k1 : -9223372036854775808 ≤ c.k
  k2 : c.k ≤ 9223372036854775807
  n1 : -9223372036854775808 ≤ c.n
  n2 : c.n ≤ 9223372036854775807
  s : c.s.size ≤ 9223372036854775807
structure CelAt (w : World) (b o : Nat) (c : Cel) : Prop where
  c0 : w.cell? ⟨b, o, none⟩ = some (.int .i64 c.k)
  c1 : w.cell? ⟨b, o + 1, none⟩ = some (.string c.s)
  c2 : w.cell? ⟨b, o + 2, none⟩ = some (.int .i64 c.n)
  fit : c.fit
theorem CelAt.keeps {w w' : World} {b o : Nat} {c : Cel} (h : CelAt w b o c) (hb : Keeps w w') : CelAt w' b o c :=
  ⟨hb _ _ _ h.c0, hb _ _ _ h.c1, hb _ _ _ h.c2, h.fit⟩
theorem CelAt.below {w w' : World} {b o : Nat} {c : Cel} (h : CelAt w b o c) (hb : Below w.heap.size w w') : CelAt w' b o c := h.keeps (Keeps.of hb)
instance : Rep Cel where
  sz := 3
  E := CelAt
  mono := CelAt.keeps
  lt h := cell_lt h.c0
theorem Row.fit {w : World} {a : Option Addr} {cap : Nat} {xs : List Cel} (h : Row w a cap xs) : ∀ c ∈ xs, c.fit := by
  intro c hc
  obtain ⟨i, hi, rfl⟩ := List.getElem_of_mem hc
  obtain ⟨b, off, _, he⟩ := h.at_ i xs[i] (List.getElem?_eq_getElem hi)
  exact CelAt.fit he
/-- a slice of cells at a block -/
theorem cel_at {w wr : World} {b off : Nat} {xs : List Cel} (hat : ∀ i (hi : i < xs.length), Rep.E w b (off + i * Rep.sz Cel) xs[i]) (hb : Below w.heap.size w wr) {k : Nat} (hk : k < xs.length) : CelAt wr b (off + k * 3) xs[k] :=
  CelAt.below (hat k hk) hb
theorem int_at {w wr : World} {b off : Nat} {xs : List Int} (hat : ∀ i (hi : i < xs.length), Rep.E w b (off + i * Rep.sz Int) xs[i]) (hb : Below w.heap.size w wr) {k : Nat} (hk : k < xs.length) : IntE wr b (off + k) xs[k] := by
  have h : IntE w b (off + k * 1) xs[k] := hat k hk
  rw [Nat.mul_one] at h
  exact ⟨keep h.c hb, h.lo, h.hi⟩
theorem list_at {α : Type} [Rep α] {w wr : World} {b off : Nat} {xs : List (List α)} (hat : ∀ i (hi : i < xs.length), Rep.E w b (off + i * Rep.sz (List α)) xs[i]) (hb : Below w.heap.size w wr) {k : Nat} (hk : k < xs.length) :
    ∃ a cap, wr.cell? ⟨b, off + k, none⟩ = some (.slice a xs[k].length cap) ∧ Row wr a cap xs[k] := by
  have h : ListE w b (off + k * 1) xs[k] := hat k hk
  rw [Nat.mul_one] at h
  obtain ⟨a, cap, hc, hr⟩ := h.ex
  exact ⟨a, cap, keep hc hb, hr.below hb⟩
theorem Cel.eq_iff (x y : Cel) : x = y ↔ x.k = y.k ∧ x.s = y.s ∧ x.n = y.n := by
  cases x; cases y; simp
theorem toList_inj (a b : ByteArray) : (a.toList = b.toList) ↔ a = b := by
  rw [ByteArray.toList_eq, ByteArray.toList_eq]
  constructor
  · intro e
    cases a; cases b
    simp at e
    rw [e]
  · intro e; rw [e]
set_option maxHeartbeats 400000 in
theorem run_neq_cel (x y : Cel) (w : World) : (binOp .neq 24 (.agg #[.int .i64 x.k, .string x.s, .int .i64 x.n]) (.agg #[.int .i64 y.k, .string y.s, .int .i64 y.n])).run Try.prog w = .ok (.bool (!decide (x = y))) w := by
  by_cases h1 : x.k = y.k
  · by_cases h2 : x.s = y.s
    · by_cases h3 : x.n = y.n
      · go_simp
        exact (Cel.eq_iff x y).2 ⟨h1, h2, h3⟩
      · have h4 : ¬ x = y := fun e => h3 (by rw [e])
        have h5 : (x.n == y.n) = false := by simp [h3]
        go_simp
    · have h4 : ¬ x = y := fun e => h2 (by rw [e])
      have h5 : (x.s.toList == y.s.toList) = false := by simp [toList_inj, h2]
      go_simp
  · have h4 : ¬ x = y := fun e => h1 (by rw [e])
    have h5 : (x.k == y.k) = false := by simp [h1]
    go_simp
theorem take_eq_snoc {α : Type} {xs ys : List α} {k : Nat} (h : xs.take k = ys.take k) (hx : k < xs.length) (hy : k < ys.length) (e : xs[k] = ys[k]) : xs.take (k + 1) = ys.take (k + 1) := by
  rw [List.take_succ_eq_append_getElem hx, List.take_succ_eq_append_getElem hy, h, e]
theorem take_all {α : Type} {xs ys : List α} {k : Nat} (h : xs.take k = ys.take k) (hx : xs.length ≤ k) (hy : ys.length ≤ k) : xs = ys := by
  rwa [List.take_of_length_le hx, List.take_of_length_le hy] at h

/-! ### rows that a call makes and appends to -/
/-- the source of an append -/
structure Src (w : World) (size : Nat) (sa : Option Addr) (m c : Nat) (news : List Value) : Prop where
  len : news.length = m * size
  nil : sa = none → m = 0 ∧ c = 0
  cells : ∀ ad, sa = some ad → ∀ j u, news[j]? = some u → w.cell? (ad.add j) = some u
  one : ∀ u ∈ news, u.oneCell' = true

theorem grown_below {w w' : World} {B e size : Nat} {v : Value} {n : Nat} {xs : List Value} (hg : w.grownBy w' v.ownBlock) (hown : w.ownsRow B e size v n xs) (hB : B ≤ w.heap.size) : Below B w w' :=
  (Below.refl B w).grown hg hB (fun k hk => (hown.lt k hk).1)

theorem wpList_app {P : Program} {w : World} {ops : Array Oper} {rest : List Oper} {o : Oper} {a : Act} {Q : Exit → Act → World → Prop} (hgd : o.guard = none) (s x : Operand) (t : TypeId)
    (ho : o.op = .call { callee := .builtin .append, args := #[s, x], argTypes := #[t, t] })
    (B e size bytes : Nat) (z : Value) (ht : P.underlying t = some (.slice e)) (hinfo : (P.info? e).map (fun i => (i.zero, i.size, i.bytes)) = some (some z, size, bytes))
    (hzs : z.cells.size = size) (hsz : 0 < size) (hby : bytes ≤ 1000)
    (v : Value) (n : Nat) (xs : List Value) (hs : a.eval s = v) (hown : w.ownsRow B e size v n xs)
    (sa : Option Addr) (m c : Nat) (news : List Value) (hx : a.eval x = .slice sa m c) (hsrc : Src w size sa m c news)
    (hmax : n + m ≤ 1000000000) (hB : B ≤ w.heap.size)
    (h : ∀ v' w', w'.ownsRow B e size v' (n + m) (xs ++ news) → w.grownBy w' v.ownBlock → Below B w w' → wpList P ops Q rest (a.put o.dst v') w') : wpList P ops Q (o :: rest) a w := by
  obtain ⟨i, hi, hz0, hz1, hz2⟩ := info_parts hinfo
  have hb : (n + m) * bytes ≤ 140737488355328 := Nat.le_trans (Nat.mul_le_mul hmax hby) (by decide)
  cases sa with
  | none =>
    obtain ⟨rfl, rfl⟩ := hsrc.nil rfl
    have hn : news = [] := List.eq_nil_of_length_eq_zero (by have := hsrc.len; simpa using this)
    subst hn
    refine wpList_append_own_none hgd s x t ho B e i size ht hi v n xs hs hown hx ?_
    exact h v w (by simpa using hown) ⟨rfl, rfl, rfl, Nat.le_refl _, fun _ _ _ => rfl⟩ (Below.refl _ _)
  | some ad =>
    refine wpList_append_own w hgd s x t ho B e i z size bytes ht hi hz0 hz1 hz2 hzs hsz v n xs hs hown ad m c news hx hsrc.len (hsrc.cells ad rfl) hsrc.one (by unfold maxLen; omega) hb hB ?_
    intro v' w' h1 h2 _
    exact h v' w' h1 h2 (grown_below h2 hown hB)

/-- the cells of a row of cells of terms -/
def flat (xs : List Cel) : List Value := xs.flatMap fun c => [.int .i64 c.k, .string c.s, .int .i64 c.n]
theorem flat_length (xs : List Cel) : (flat xs).length = xs.length * 3 := by
  induction xs with
  | nil => rfl
  | cons c xs ih => simp only [flat, List.flatMap_cons, List.length_append, List.length_cons, List.length_nil] at ih ⊢; omega
theorem flat_append (xs ys : List Cel) : flat (xs ++ ys) = flat xs ++ flat ys := by simp [flat]
theorem flat_at (xs : List Cel) (i : Nat) (hi : i < xs.length) : (flat xs)[i * 3]? = some (.int .i64 xs[i].k) ∧ (flat xs)[i * 3 + 1]? = some (.string xs[i].s) ∧ (flat xs)[i * 3 + 2]? = some (.int .i64 xs[i].n) := by
  induction xs generalizing i with
  | nil => simp at hi
  | cons c xs ih =>
    cases i with
    | zero => simp [flat]
    | succ i =>
      have := ih i (by simpa using hi)
      have hf : flat (c :: xs) = .int .i64 c.k :: .string c.s :: .int .i64 c.n :: flat xs := rfl
      rw [hf, show (i + 1) * 3 = i * 3 + 1 + 1 + 1 by omega]
      simp only [List.getElem_cons_succ, List.getElem?_cons_succ, Nat.add_right_comm _ 1]
      exact this
theorem flat_one (xs : List Cel) : ∀ u ∈ flat xs, u.oneCell' = true := by
  intro u hu
  simp [flat] at hu
  obtain ⟨c, _, rfl | rfl | rfl⟩ := hu <;> rfl
theorem Row.src {w : World} {a : Option Addr} {cap : Nat} {xs : List Cel} (h : Row w a cap xs) : Src w 3 a xs.length cap (flat xs) := by
  refine ⟨flat_length xs, fun e => ⟨?_, h.nil e⟩, ?_, flat_one xs⟩
  · have := h.le; have := h.nil e; omega
  · intro ad e j u hj
    have hl : j < xs.length * 3 := by rw [← flat_length]; exact (List.getElem?_eq_some_iff.1 hj).1
    have hi : j / 3 < xs.length := by omega
    obtain ⟨b, off, e', hc⟩ := h.at_ (j / 3) _ (List.getElem?_eq_getElem hi)
    rw [e] at e'
    simp at e'
    subst e'
    have hc' : CelAt w b (off + j / 3 * 3) xs[j / 3] := hc
    have ha : (Addr.mk b off none).add j = ⟨b, off + j, none⟩ := by unfold Addr.add; split <;> simp_all
    rw [ha]
    obtain ⟨f0, f1, f2⟩ := flat_at xs (j / 3) hi
    have : j = j / 3 * 3 ∨ j = j / 3 * 3 + 1 ∨ j = j / 3 * 3 + 2 := by omega
    rcases this with e | e | e
    · rw [e, f0] at hj; rw [e, ← Option.some.inj hj]; exact hc'.c0
    · rw [e, f1] at hj; rw [e, ← Option.some.inj hj]; exact hc'.c1
    · rw [e, f2] at hj; rw [e, ← Option.some.inj hj]; exact hc'.c2

/-- a row of the call's own reads as a row -/
theorem own_row {w : World} {B e : Nat} {v : Value} {xs : List Cel} (h : w.ownsRow B e 3 v xs.length (flat xs)) (hf : ∀ c ∈ xs, c.fit) : ∃ a cap, v = .slice a xs.length cap ∧ Row w a cap xs := by
  rcases h.2 with ⟨rfl, hn⟩ | ⟨g, cap, cur, rfl, hb, hg, hn, hm, hs, ht⟩
  · obtain rfl : xs = [] := List.eq_nil_of_length_eq_zero hn
    exact ⟨none, 0, rfl, Row.empty _ _ _ (by omega) (fun _ => rfl)⟩
  · refine ⟨_, cap, rfl, ⟨hn, by unfold maxLen at hm; omega, (fun e => by cases e), fun i x hi => ⟨g, 0, rfl, ?_⟩⟩⟩
    have hl : i < xs.length := (List.getElem?_eq_some_iff.1 hi).1
    have hx : xs[i] = x := by rw [List.getElem?_eq_getElem hl] at hi; exact Option.some.inj hi
    have hc : ∀ j u, (flat xs)[j]? = some u → w.cell? ⟨g, j, none⟩ = some u := by
      intro j u hu
      have := World.ownsRow.cells h (g := g) rfl j u hu
      have ha : (Addr.mk g 0 none).add j = ⟨g, j, none⟩ := by unfold Addr.add; split <;> simp_all
      rwa [ha] at this
    obtain ⟨f0, f1, f2⟩ := flat_at xs i hl
    subst hx
    show CelAt w g (0 + i * 3) xs[i]
    rw [Nat.zero_add]
    exact ⟨hc _ _ f0, hc _ _ f1, hc _ _ f2, hf _ (List.getElem_mem hl)⟩

/-- one new element, in a block of its own -/
theorem src_new (w : World) (cs : Array Value) (T size : Nat) (hs : cs.size = size) (h1 : ∀ u ∈ cs.toList, u.oneCell' = true) : Src (w.alloc (.cells cs T)) size (some ⟨w.heap.size, 0, none⟩) 1 1 cs.toList := by
  refine ⟨by simp [hs], (fun e => by cases e), ?_, h1⟩
  intro ad e j u hu
  simp at e
  subst e
  have ha : (Addr.mk w.heap.size 0 none).add j = ⟨w.heap.size, j, none⟩ := by unfold Addr.add; split <;> simp_all
  rw [ha, World.cell?_alloc_at _ _ _ _ rfl]
  simpa using hu

theorem own_cells {w : World} {B e size : Nat} {g n cap : Nat} {vs : List Value} (h : w.ownsRow B e size (.slice (some ⟨g, 0, none⟩) n cap) n vs) : ∀ j u, vs[j]? = some u → w.cell? ⟨g, j, none⟩ = some u := by
  intro j u hu
  have := World.ownsRow.cells h (g := g) rfl j u hu
  have ha : (Addr.mk g 0 none).add j = ⟨g, j, none⟩ := by unfold Addr.add; split <;> simp_all
  rwa [ha] at this

theorem own_rowI {w : World} {B e : Nat} {v : Value} {xs : List Int} (h : w.ownsRow B e 1 v xs.length (xs.map (Value.int .i64))) (hf : ∀ n ∈ xs, -9223372036854775808 ≤ n ∧ n ≤ 9223372036854775807) : ∃ a cap, v = .slice a xs.length cap ∧ Row w a cap xs := by
  rcases h.2 with ⟨rfl, hn⟩ | ⟨g, cap, cur, rfl, hb, hg, hn, hm, hs, ht⟩
  · obtain rfl : xs = [] := List.eq_nil_of_length_eq_zero hn
    exact ⟨none, 0, rfl, Row.empty _ _ _ (by omega) (fun _ => rfl)⟩
  · refine ⟨_, cap, rfl, ⟨hn, by unfold maxLen at hm; omega, (fun e => by cases e), fun i x hi => ⟨g, 0, rfl, ?_⟩⟩⟩
    have hl : i < xs.length := (List.getElem?_eq_some_iff.1 hi).1
    have hx : xs[i] = x := by rw [List.getElem?_eq_getElem hl] at hi; exact Option.some.inj hi
    show IntE w g (0 + i * 1) x
    rw [Nat.zero_add, Nat.mul_one]
    have hm := hf x (hx ▸ List.getElem_mem hl)
    exact ⟨own_cells h i _ (by rw [List.getElem?_map, hi]; rfl), hm.1, hm.2⟩
end Go.Proofs.Ytfcebbfphjbkoaa
namespace Go.Proofs.Ytfcebbfphjbkoaa
open Go.RowKit

/-- A world that comes later: what was there is as it was. -/
structure Later (w : World) where
  w' : World
  ok : Below w.heap.size w w'
instance (w : World) : Nonempty (Later w) := ⟨⟨w, Below.refl _ _⟩⟩

/-- A region that draws its order, whose operations read, and whose callees leave what was there as it was, each with one value: one walk serves every order. -/
theorem wp_region_calm {P : Program} {id : Nat} {Q : Exit → Act → World → Prop} {a : Act} {w : World} {l : List Oper} (hm : P.follows .mixedOrders = true) (hB : Region.lexB .any l.toArray = true)
    (h : wpQuiet P l.toArray (fun w' => ∃ x : Later w, w' = x.w') (fun a' => ∀ w', (∃ x : Later w, w' = x.w') → Q .normal a' w') l a) : (Code.region id l.toArray true).wp P Q a w :=
  wp_region_quiet (C := fun w' => ∃ x : Later w, w' = x.w') hm hB ⟨⟨{ w with drawn := w.drawn + 1 }, ⟨rfl, rfl, rfl, Nat.le_refl _, fun _ _ => rfl⟩⟩, rfl⟩ (by simpa using h)

theorem Calls.calm_of {P : Program} {f : FuncId} {args : Array Value} {w : World} {x : Later w} {v : Value}
    (h : Calls P f args x.w' fun e w'' => e = .returned v ∧ Below x.w'.heap.size x.w' w'') : Calls P f args x.w' fun e w'' => e = .returned v ∧ ∃ y : Later w, w'' = y.w' :=
  h.mono fun _ w'' ⟨he, hb⟩ => ⟨he, ⟨w'', x.ok.then hb⟩, rfl⟩
theorem keepL {w : World} {b o : Nat} {v : Value} (h : w.cell? ⟨b, o, none⟩ = some v) (x : Later w) : x.w'.cell? ⟨b, o, none⟩ = some v := keep h x.ok
end Go.Proofs.Ytfcebbfphjbkoaa
namespace Go.Proofs.Ytfcebbfphjbkoaa
open Go.RowKit

/-- where the new row lies: where the old one lay, or in a new block -/
theorem run_append_where {P : Program} (w : World) (B : Nat) (t ty e : TypeId) (i : TypeInfo) (z : Value) (size bytes : Nat) (ht : P.underlying t = some (.slice e)) (hi : P.info? e = some i) (hz : i.zero = some z)
    (hsize : i.size = size) (hby : i.bytes = bytes) (hzs : z.cells.size = size) (hsz : 0 < size)
    (v : Value) (n : Nat) (xs : List Value) (hown : w.ownsRow B e size v n xs)
    (a : Addr) (m c : Nat) (news : List Value) (hl : news.length = m * size) (hnews : ∀ j u, news[j]? = some u → w.cell? (a.add j) = some u) (h1 : ∀ u ∈ news, u.oneCell' = true)
    (h63 : n + m ≤ maxLen) (hbytes : (n + m) * bytes ≤ 140737488355328) (hbase : B ≤ w.heap.size) :
    ∃ v' w', (Builtin.append_ #[t, t] ty #[v, .slice (some a) m c]).run P w = .ok v' w' ∧ w'.ownsRow B e size v' (n + m) (xs ++ news) ∧ w.grownBy w' v.ownBlock ∧
      (v'.ownBlock = v.ownBlock ∨ v'.ownBlock = some w.heap.size) := by
  obtain ⟨v', w', hr, h2, h3, h4⟩ := run_append_own (P := P) w B t ty e i z size bytes ht hi hz hsize hby hzs hsz v n xs hown a m c news hl hnews h1 h63 hbytes hbase
  refine ⟨v', w', hr, h2, h3, ?_⟩
  have h63' : n + m ≤ 9223372036854775807 := by unfold maxLen at h63; omega
  rcases hown.2 with ⟨rfl, rfl⟩ | ⟨g, cap, cur, rfl, hb, hg, hn, hm, hs, htk⟩
  · by_cases hm : m = 0
    · left
      rw [(h4.2 ⟨rfl, hm⟩)]
    · right
      have hr2 := run_append_nil (P := P) w t ty e i z ht hi hz a m c news (by rw [hsize]; exact hl) hnews (by omega) (by omega) (by rw [hby]; rw [Nat.zero_add] at hbytes; omega)
      rw [hr] at hr2
      injection hr2 with e1 e2
      rw [e1]; rfl
  · by_cases hroom : n + m ≤ cap
    · left
      have hr2 := run_append_room (P := P) w t ty e i ht hi g n cap cur hg a m c news (by rw [hsize]; exact hl) hnews h1 hroom (by
        rw [hsize, hl, hs, ← Nat.add_mul]; exact Nat.mul_le_mul_right _ hroom)
      rw [hr] at hr2
      injection hr2 with e1 e2
      rw [e1]; rfl
    · right
      have hr2 := run_append_grow (P := P) w t ty e i z ht hi hz ⟨g, 0, none⟩ n cap xs (by rw [hsize]; exact hown.1) (hown.cells (g := g) rfl) a m c news (by rw [hsize]; exact hl) hnews (by omega) (by omega) (by
        rw [hby]; exact growslice_fits (by omega) hbytes)
      rw [hr] at hr2
      injection hr2 with e1 e2
      rw [e1]; rfl

/-- what was read beside the old row is read beside the new one -/
theorem hide_next {w w' : World} {r r' : Option Nat} (hg : w.grownBy w' r) (h : r' = r ∨ r' = some w.heap.size) : Keeps (hide r w) (hide r' w') := by
  rcases h with rfl | rfl
  · exact grown_keeps hg
  · intro b o v hc
    have hl := cell_lt (hide_keeps r w b o v hc)
    have h1 := grown_keeps hg b o v hc
    exact hide_of_ne (by omega) (hide_keeps r w' b o v h1)

theorem wpList_app2 {P : Program} {w : World} {ops : Array Oper} {rest : List Oper} {o : Oper} {a : Act} {Q : Exit → Act → World → Prop} (hgd : o.guard = none) (s x : Operand) (t : TypeId)
    (ho : o.op = .call { callee := .builtin .append, args := #[s, x], argTypes := #[t, t] })
    (B e size bytes : Nat) (z : Value) (ht : P.underlying t = some (.slice e)) (hinfo : (P.info? e).map (fun i => (i.zero, i.size, i.bytes)) = some (some z, size, bytes))
    (hzs : z.cells.size = size) (hsz : 0 < size) (hby : bytes ≤ 1000)
    (v : Value) (n : Nat) (xs : List Value) (hs : a.eval s = v) (hown : w.ownsRow B e size v n xs)
    (sa : Addr) (m c : Nat) (news : List Value) (hx : a.eval x = .slice (some sa) m c) (hsrc : Src w size (some sa) m c news)
    (hmax : n + m ≤ 1000000000) (hB : B ≤ w.heap.size)
    (h : ∀ v' w', w'.ownsRow B e size v' (n + m) (xs ++ news) → w.grownBy w' v.ownBlock → Below B w w' → Keeps (hide v.ownBlock w) (hide v'.ownBlock w') → wpList P ops Q rest (a.put o.dst v') w') : wpList P ops Q (o :: rest) a w := by
  obtain ⟨i, hi, hz0, hz1, hz2⟩ := info_parts hinfo
  have hb : (n + m) * bytes ≤ 140737488355328 := Nat.le_trans (Nat.mul_le_mul hmax hby) (by decide)
  refine wpList_plain hgd fun K hK => ?_
  obtain ⟨v', w', hr, h2, h3, h4⟩ := run_append_where (P := P) w B t o.type e i z size bytes ht hi hz0 hz1 hz2 hzs hsz v n xs hown sa m c news hsrc.len (hsrc.cells sa rfl) hsrc.one (by unfold maxLen; omega) hb hB
  unfold Oper.wp execOp
  simp only [ho, resolve, invoke, builtin, Sem.run_bind, Sem.run_pure, Result.andThen_ok, List.map_toArray, List.map_cons, List.map_nil, hs, hx, hr]
  exact hK _ _ (h v' w' h2 h3 (grown_below h3 hown hB) (hide_next h3 h4))

/-- values of slices, each of which reads as a list -/
structure SlRows {α : Type} [Rep α] (w : World) (vs : List Value) (ps : List (List α)) : Prop where
  len : vs.length = ps.length
  row : ∀ (i : Nat) (v : Value) (p : List α), vs[i]? = some v → ps[i]? = some p → ∃ a cap, v = Value.slice a p.length cap ∧ Row w a cap p
section
variable {α : Type} [Rep α]
theorem SlRows.nil (w : World) : SlRows w [] ([] : List (List α)) := ⟨rfl, fun i v p h => by simp at h⟩
theorem SlRows.keeps {w w' : World} {vs : List Value} {ps : List (List α)} (h : SlRows w vs ps) (hk : Keeps w w') : SlRows w' vs ps :=
  ⟨h.len, fun i v p hv hp => let ⟨a, cap, e, hr⟩ := h.row i v p hv hp; ⟨a, cap, e, hr.keeps hk⟩⟩
theorem SlRows.snoc {w : World} {vs : List Value} {ps : List (List α)} (h : SlRows w vs ps) {a : Option Addr} {cap : Nat} {p : List α} (hr : Row w a cap p) : SlRows w (vs ++ [.slice a p.length cap]) (ps ++ [p]) := by
  refine ⟨by simp [h.len], fun i v q hv hq => ?_⟩
  by_cases hi : i < vs.length
  · rw [List.getElem?_append_left hi] at hv
    rw [List.getElem?_append_left (by rw [← h.len]; exact hi)] at hq
    exact h.row i v q hv hq
  · rw [List.getElem?_append_right (by omega)] at hv
    rw [List.getElem?_append_right (by rw [← h.len]; omega), ← h.len] at hq
    by_cases h0 : i - vs.length = 0
    · rw [h0] at hv hq
      simp at hv hq
      subst hv; subst hq
      exact ⟨a, cap, rfl, hr⟩
    · rw [List.getElem?_eq_none (by simp; omega)] at hv; cases hv
theorem SlRows.one {w : World} {vs : List Value} {ps : List (List α)} (h : SlRows w vs ps) : ∀ u ∈ vs, u.oneCell' = true := by
  intro u hu
  obtain ⟨i, hi, rfl⟩ := List.getElem_of_mem hu
  obtain ⟨a, cap, e, _⟩ := h.row i vs[i] (ps[i]'(by rw [← h.len]; exact hi)) (List.getElem?_eq_getElem hi) (List.getElem?_eq_getElem _)
  rw [e]; rfl
theorem own_rowL {w : World} {B e : Nat} {v : Value} {vs : List Value} {ps : List (List α)} (h : w.ownsRow B e 1 v ps.length vs) (hs : SlRows w vs ps) : ∃ a cap, v = .slice a ps.length cap ∧ Row w a cap ps := by
  rcases h.2 with ⟨rfl, hn⟩ | ⟨g, cap, cur, rfl, hb, hg, hn, hm, hsz, ht⟩
  · obtain rfl : ps = [] := List.eq_nil_of_length_eq_zero hn
    exact ⟨none, 0, rfl, Row.empty _ _ _ (by omega) (fun _ => rfl)⟩
  · refine ⟨_, cap, rfl, ⟨hn, by unfold maxLen at hm; omega, (fun e => by cases e), fun i x hi => ⟨g, 0, rfl, ?_⟩⟩⟩
    show ListE w g (0 + i * 1) x
    rw [Nat.zero_add, Nat.mul_one]
    have hl : i < ps.length := (List.getElem?_eq_some_iff.1 hi).1
    have hl' : i < vs.length := by rw [hs.len]; exact hl
    obtain ⟨a, cap, e, hr⟩ := hs.row i vs[i] x (List.getElem?_eq_getElem hl') hi
    exact ⟨a, cap, own_cells h i _ (by rw [List.getElem?_eq_getElem hl', e]), hr⟩
end
theorem below_grown {w w' : World} (hb : Below w.heap.size w w') (r : Option Nat) : w.grownBy w' r := ⟨hb.os, hb.tape, hb.output, hb.size, fun k hk _ => hb.block k hk⟩
theorem below_hide {w w' : World} (hb : Below w.heap.size w w') (r : Option Nat) : Keeps (hide r w) (hide r w') := grown_keeps (below_grown hb r)
theorem alloc_hide (w : World) (o : Obj) (r : Option Nat) : Keeps (hide r w) (hide r (w.alloc o)) := grown_keeps (World.grownBy_alloc w o r)
theorem own_hide {w : World} {B e size : Nat} {v : Value} {n : Nat} {xs : List Value} {r : Option Nat} (h : w.ownsRow B e size v n xs) (hr : ∀ g, r = some g → g < B) : (hide r w).ownsRow B e size v n xs := by
  cases r with
  | none => exact h
  | some g0 =>
    refine ⟨h.1, ?_⟩
    rcases h.2 with h | ⟨g, cap, cur, rfl, hb, hg, rest⟩
    · exact .inl h
    · have := hr g0 rfl
      exact .inr ⟨g, cap, cur, rfl, hb, by rw [hide_heap _ _ _ (by omega)]; exact hg, rest⟩
/-- a part of a row -/
theorem Row.slice {α : Type} [Rep α] {w : World} {b off cap : Nat} {xs : List α} (h : Row w (some ⟨b, off, none⟩) cap xs) {i j : Nat} (hij : i ≤ j) (hj : j ≤ xs.length) :
    Row w (some ⟨b, off + i * Rep.sz α, none⟩) (cap - i) ((xs.drop i).take (j - i)) := by
  refine ⟨?_, by have := h.max; omega, (fun e => by cases e), fun k x hk => ?_⟩
  · have := h.le; simp; omega
  · have hl : k < ((xs.drop i).take (j - i)).length := (List.getElem?_eq_some_iff.1 hk).1
    have hk2 : k < j - i := by simp at hl; omega
    rw [List.getElem?_take_of_lt hk2, List.getElem?_drop] at hk
    obtain ⟨b', off', e, hE⟩ := h.at_ (i + k) x hk
    simp at e
    obtain ⟨rfl, rfl⟩ := e
    refine ⟨b, off + i * Rep.sz α, rfl, ?_⟩
    rw [Nat.add_assoc, ← Nat.add_mul]; exact hE
end Go.Proofs.Ytfcebbfphjbkoaa
namespace Go.Proofs.Ytfcebbfphjbkoaa
open Go.RowKit

/-- data of a kind, whose cells are told by a list of values -/
class RepC (α : Type) extends Rep α where
  C : World → List Value → α → Prop
  len : ∀ {w : World} {cs : List Value} {x : α}, C w cs x → cs.length = Rep.sz α
  one : ∀ {w : World} {cs : List Value} {x : α}, C w cs x → ∀ u ∈ cs, u.oneCell' = true
  cmono : ∀ {w w' : World} {cs : List Value} {x : α}, C w cs x → Keeps w w' → C w' cs x
  toE : ∀ {w : World} {cs : List Value} {x : α} {b o : Nat}, C w cs x → (∀ j u, cs[j]? = some u → w.cell? ⟨b, o + j, none⟩ = some u) → Rep.E w b o x
  ofE : ∀ {w : World} {x : α} {b o : Nat}, Rep.E w b o x → ∃ cs, C w cs x ∧ ∀ j u, cs[j]? = some u → w.cell? ⟨b, o + j, none⟩ = some u
  pos : 0 < sz

/-- values that read as a list, element by element -/
inductive CRows {α : Type} [RepC α] (w : World) : List Value → List α → Prop where
  | nil : CRows w [] []
  | cons {cs : List Value} {x : α} {vs : List Value} {xs : List α} : RepC.C w cs x → CRows w vs xs → CRows w (cs ++ vs) (x :: xs)

section
variable {α : Type} [RepC α]
theorem CRows.len {w : World} {vs : List Value} {xs : List α} (h : CRows w vs xs) : vs.length = xs.length * Rep.sz α := by
  induction h with
  | nil => simp
  | cons hc _ ih => rw [List.length_append, RepC.len hc, ih, List.length_cons, Nat.succ_mul, Nat.add_comm]
theorem CRows.one {w : World} {vs : List Value} {xs : List α} (h : CRows w vs xs) : ∀ u ∈ vs, u.oneCell' = true := by
  induction h with
  | nil => intro u hu; simp at hu
  | cons hc _ ih =>
    intro u hu
    rcases List.mem_append.1 hu with hu | hu
    · exact RepC.one hc u hu
    · exact ih u hu
theorem CRows.keeps {w w' : World} {vs : List Value} {xs : List α} (h : CRows w vs xs) (hk : Keeps w w') : CRows w' vs xs := by
  induction h with
  | nil => exact .nil
  | cons hc _ ih => exact .cons (RepC.cmono hc hk) ih
theorem CRows.append {w : World} {vs us : List Value} {xs ys : List α} (h : CRows w vs xs) (k : CRows w us ys) : CRows w (vs ++ us) (xs ++ ys) := by
  induction h with
  | nil => exact k
  | cons hc _ ih => rw [List.append_assoc]; exact .cons hc ih
theorem CRows.single {w : World} {cs : List Value} {x : α} (h : RepC.C w cs x) : CRows w cs [x] := by
  have := CRows.cons h (CRows.nil (w := w) (α := α))
  rwa [List.append_nil] at this
theorem CRows.snoc {w : World} {vs cs : List Value} {xs : List α} {x : α} (h : CRows w vs xs) (k : RepC.C w cs x) : CRows w (vs ++ cs) (xs ++ [x]) := h.append (CRows.single k)
/-- at a block -/
theorem CRows.at_ {w : World} {vs : List Value} {xs : List α} (h : CRows w vs xs) : ∀ {b o : Nat}, (∀ j u, vs[j]? = some u → w.cell? ⟨b, o + j, none⟩ = some u) → ∀ i x, xs[i]? = some x → Rep.E w b (o + i * Rep.sz α) x := by
  induction h with
  | nil => intro b o _ i x hi; simp at hi
  | @cons cs x vs xs hc _ ih =>
    intro b o hat i y hi
    cases i with
    | zero =>
      simp at hi
      subst hi
      rw [Nat.zero_mul, Nat.add_zero]
      refine RepC.toE hc fun j u hj => hat j u ?_
      rw [List.getElem?_append_left (List.getElem?_eq_some_iff.1 hj).1]; exact hj
    | succ i =>
      rw [List.getElem?_cons_succ] at hi
      have := ih (b := b) (o := o + Rep.sz α) (fun j u hj => by
        have := hat (Rep.sz α + j) u (by rw [List.getElem?_append_right (by rw [RepC.len hc]; omega), RepC.len hc, Nat.add_sub_cancel_left]; exact hj)
        rwa [← Nat.add_assoc] at this) i y hi
      rwa [show o + (i + 1) * Rep.sz α = o + Rep.sz α + i * Rep.sz α by rw [Nat.succ_mul]; omega]
/-- a row of the call's own reads as a row -/
theorem own_rowG {w : World} {B e : Nat} {v : Value} {vs : List Value} {xs : List α} (h : w.ownsRow B e (Rep.sz α) v xs.length vs) (hs : CRows w vs xs) : ∃ a cap, v = .slice a xs.length cap ∧ Row w a cap xs := by
  rcases h.2 with ⟨rfl, hn⟩ | ⟨g, cap, cur, rfl, hb, hg, hn, hm, hsz, ht⟩
  · obtain rfl : xs = [] := List.eq_nil_of_length_eq_zero hn
    exact ⟨none, 0, rfl, Row.empty _ _ _ (by omega) (fun _ => rfl)⟩
  · refine ⟨_, cap, rfl, ⟨hn, by unfold maxLen at hm; omega, (fun e => by cases e), fun i x hi => ⟨g, 0, rfl, ?_⟩⟩⟩
    exact hs.at_ (fun j u hj => by rw [Nat.zero_add]; exact own_cells h j u hj) i x hi
/-- the cells of a row -/
theorem crows_of {w : World} {b : Nat} : ∀ (xs : List α) (o : Nat), (∀ i x, xs[i]? = some x → Rep.E w b (o + i * Rep.sz α) x) → ∃ vs, CRows w vs xs ∧ ∀ j u, vs[j]? = some u → w.cell? ⟨b, o + j, none⟩ = some u
  | [], _, _ => ⟨[], .nil, fun j u h => by simp at h⟩
  | x :: xs, o, h => by
    have h0 := h 0 x rfl
    rw [Nat.zero_mul, Nat.add_zero] at h0
    obtain ⟨cs, hc, hat⟩ := RepC.ofE h0
    obtain ⟨vs, hv, hvat⟩ := crows_of xs (o + Rep.sz α) (fun i y hi => by
      have := h (i + 1) y (by rw [List.getElem?_cons_succ]; exact hi)
      rwa [show o + (i + 1) * Rep.sz α = o + Rep.sz α + i * Rep.sz α by rw [Nat.succ_mul]; omega] at this)
    refine ⟨cs ++ vs, .cons hc hv, fun j u hj => ?_⟩
    by_cases hl : j < cs.length
    · rw [List.getElem?_append_left hl] at hj
      exact hat j u hj
    · rw [List.getElem?_append_right (by omega)] at hj
      have := hvat _ u hj
      rw [RepC.len hc] at this
      rwa [show o + Rep.sz α + (j - Rep.sz α) = o + j by have := RepC.len hc; omega] at this
theorem Row.srcG {w : World} {a : Option Addr} {cap : Nat} {xs : List α} (h : Row w a cap xs) : ∃ vs, CRows w vs xs ∧ Src w (Rep.sz α) a xs.length cap vs := by
  rcases h.cases with rfl | ⟨b, off, rfl, _, hat⟩
  · refine ⟨[], .nil, ⟨by simp, fun e => ⟨rfl, h.nil e⟩, fun ad _ j u hj => by simp at hj, fun u hu => by simp at hu⟩⟩
  · obtain ⟨vs, hv, hvat⟩ := crows_of (w := w) (b := b) xs off (fun i x hi => by
      obtain ⟨hl, rfl⟩ := List.getElem?_eq_some_iff.1 hi
      exact hat i hl)
    refine ⟨vs, hv, ⟨hv.len, (fun e => by cases e), ?_, hv.one⟩⟩
    intro ad e j u hj
    simp at e
    subst e
    have ha : (Addr.mk b off none).add j = ⟨b, off + j, none⟩ := by unfold Addr.add; split <;> simp_all
    rw [ha]
    exact hvat j u hj
/-- an element that was laid in a new block, as the source of an append -/
theorem CRows.takeL {w : World} {vs : List Value} {xs : List α} (h : CRows w vs xs) (k : Nat) : CRows w (vs.take (k * Rep.sz α)) (xs.take k) := by
  induction h generalizing k with
  | nil => simp; exact .nil
  | @cons cs x vs xs hc _ ih =>
    cases k with
    | zero => simp; exact .nil
    | succ k =>
      rw [List.take_succ_cons, List.take_append, RepC.len hc, List.take_of_length_le (by rw [RepC.len hc, Nat.succ_mul]; omega), show (k + 1) * Rep.sz α - Rep.sz α = k * Rep.sz α by rw [Nat.succ_mul]; omega]
      exact .cons hc (ih k)
end

instance {α : Type} [Rep α] : RepC (List α) where
  C w cs xs := ∃ a cap, cs = [.slice a xs.length cap] ∧ Row w a cap xs
  len := by rintro w cs xs ⟨a, cap, rfl, _⟩; rfl
  one := by rintro w cs xs ⟨a, cap, rfl, _⟩ u hu; simp at hu; subst hu; rfl
  cmono := by rintro w w' cs xs ⟨a, cap, rfl, h⟩ hk; exact ⟨a, cap, rfl, h.keeps hk⟩
  toE := by
    rintro w cs xs b o ⟨a, cap, rfl, h⟩ hat
    exact ⟨a, cap, hat 0 _ rfl, h⟩
  ofE := by
    rintro w xs b o ⟨a, cap, hc, h⟩
    refine ⟨_, ⟨a, cap, rfl, h⟩, fun j u hj => ?_⟩
    cases j with
    | zero => simp at hj; subst hj; exact hc
    | succ j => simp at hj
  pos := Nat.one_pos
instance : RepC Cel where
  C _ cs c := cs = [.int .i64 c.k, .string c.s, .int .i64 c.n] ∧ c.fit
  len := by rintro w cs c ⟨rfl, _⟩; rfl
  one := by rintro w cs c ⟨rfl, _⟩ u hu; simp at hu; rcases hu with rfl | rfl | rfl <;> rfl
  cmono := by rintro w w' cs c h _; exact h
  toE := by
    rintro w cs c b o ⟨rfl, hf⟩ hat
    exact ⟨hat 0 _ rfl, hat 1 _ rfl, hat 2 _ rfl, hf⟩
  ofE := by
    rintro w c b o ⟨h0, h1, h2, hf⟩
    refine ⟨_, ⟨rfl, hf⟩, fun j u hj => ?_⟩
    match j with
    | 0 => simp at hj; subst hj; exact h0
    | 1 => simp at hj; subst hj; exact h1
    | 2 => simp at hj; subst hj; exact h2
    | j + 3 => simp at hj
  pos := by decide
instance : RepC Int where
  C _ cs n := cs = [.int .i64 n] ∧ -9223372036854775808 ≤ n ∧ n ≤ 9223372036854775807
  len := by rintro w cs c ⟨rfl, _⟩; rfl
  one := by rintro w cs c ⟨rfl, _⟩ u hu; simp at hu; subst hu; rfl
  cmono := by rintro w w' cs c h _; exact h
  toE := by
    rintro w cs c b o ⟨rfl, h1, h2⟩ hat
    exact ⟨hat 0 _ rfl, h1, h2⟩
  ofE := by
    rintro w c b o ⟨h0, h1, h2⟩
    refine ⟨_, ⟨rfl, h1, h2⟩, fun j u hj => ?_⟩
    cases j with
    | zero => simp at hj; subst hj; exact h0
    | succ j => simp at hj
  pos := by decide

section
variable {α : Type} [RepC α]
/-- a slice literal, laid in a new block -/
theorem row_new (w : World) (cs : Array Value) (T : TypeId × Nat) {xs : List α} (h : CRows (w.alloc (.cells cs T.1)) cs.toList xs) (hl : xs.length ≤ 9223372036854775807) :
    Row (w.alloc (.cells cs T.1)) (some ⟨w.heap.size, 0, none⟩) xs.length xs :=
  ⟨Nat.le_refl _, hl, (fun e => by cases e), fun i x hi => ⟨w.heap.size, 0, rfl, h.at_ (fun j u hj => by
    rw [Nat.zero_add, World.cell?_alloc_at _ _ _ _ rfl]; simpa using hj) i x hi⟩⟩
theorem Row.lit {w : World} {a : Option Addr} {cap : Nat} {xs ys : List α} (h : Row w a cap xs) (e : xs = ys) : Row w a cap ys := e ▸ h
end

/-- the world without all blocks below B -/
def under (B : Nat) (w : World) : World := { w with heap := w.heap.mapIdx fun i o => if i < B then .cells #[] 0 else o }
theorem under_size (B : Nat) (w : World) : (under B w).heap.size = w.heap.size := by simp [under]
theorem under_heap {B : Nat} {w : World} {b : Nat} (h : B ≤ b) : (under B w).heap[b]? = w.heap[b]? := by
  unfold under
  rw [Array.getElem?_mapIdx]
  cases hw : w.heap[b]? with
  | none => rfl
  | some o => simp; intro; omega
theorem under_cell {B : Nat} {w : World} {b o : Nat} {v : Value} (h : (under B w).cell? ⟨b, o, none⟩ = some v) : B ≤ b ∧ w.cell? ⟨b, o, none⟩ = some v := by
  by_cases hb : B ≤ b
  · refine ⟨hb, ?_⟩
    rwa [World.cell?, under_heap hb] at h
  · exfalso
    unfold under at h
    simp only [World.cell?, Array.getElem?_mapIdx] at h
    cases hw : w.heap[b]? with
    | none => rw [hw] at h; simp at h
    | some o => rw [hw] at h; simp [show b < B by omega] at h
theorem under_of {B : Nat} {w : World} {b o : Nat} {v : Value} (hb : B ≤ b) (h : w.cell? ⟨b, o, none⟩ = some v) : (under B w).cell? ⟨b, o, none⟩ = some v := by
  rwa [World.cell?, under_heap hb]
theorem under_keeps (B : Nat) (w : World) : Keeps (under B w) w := fun _ _ _ h => (under_cell h).2
theorem under_mono {B B' : Nat} (h : B' ≤ B) (w : World) : Keeps (under B w) (under B' w) := fun _ _ _ hc => under_of (Nat.le_trans h (under_cell hc).1) (under_cell hc).2
theorem under_hide {B : Nat} (w : World) {r : Option Nat} (hr : ∀ g, r = some g → g < B) : Keeps (under B w) (hide r w) := by
  intro b o v hc
  obtain ⟨h1, h2⟩ := under_cell hc
  cases r with
  | none => exact h2
  | some g => exact hide_of_ne (by have := hr g rfl; omega) h2
theorem under_grown {B : Nat} {w w' : World} {r : Option Nat} (hg : w.grownBy w' r) (hr : ∀ g, r = some g → g < B) : Keeps (under B w) (under B w') := by
  intro b o v hc
  obtain ⟨h1, h2⟩ := under_cell hc
  refine under_of h1 ?_
  exact (World.cell?_of_block (w := w) (a := ⟨b, o, none⟩) (hg.block b (cell_lt h2) (fun e => by have := hr b e.symm; omega))).trans h2
theorem under_below {B : Nat} {w w' : World} (hb : Below w.heap.size w w') : Keeps (under B w) (under B w') := under_grown (below_grown hb none) (fun g e => by cases e)
theorem under_own {w : World} {B e size : Nat} {v : Value} {n : Nat} {xs : List Value} (h : w.ownsRow B e size v n xs) : (under B w).ownsRow B e size v n xs := by
  refine ⟨h.1, ?_⟩
  rcases h.2 with h | ⟨g, cap, cur, rfl, hb, hg, rest⟩
  · exact .inl h
  · exact .inr ⟨g, cap, cur, rfl, hb, by rw [under_heap hb]; exact hg, rest⟩
theorem under_new {w0 w : World} (h : Keeps w0 w) {B : Nat} (hn : ∀ b o v, w0.cell? ⟨b, o, none⟩ = some v → B ≤ b) : Keeps w0 (under B w) := fun b o v hc => under_of (hn b o v hc) (h _ _ _ hc)

/-- a slice that lies in no block below B -/
def NewRow {α : Type} [Rep α] (B : Nat) (w : World) (a : Option Addr) (cap : Nat) (xs : List α) : Prop := Row (under B w) a cap xs
section
variable {α : Type} [Rep α] {B : Nat} {w w' : World} {a : Option Addr} {cap : Nat} {xs : List α}
theorem NewRow.row (h : NewRow B w a cap xs) : Row w a cap xs := Row.keeps h (under_keeps B w)
theorem NewRow.hide (h : NewRow B w a cap xs) {r : Option Nat} (hr : ∀ g, r = some g → g < B) : Row (hide r w) a cap xs := Row.keeps h (under_hide w hr)
theorem NewRow.below (h : NewRow B w a cap xs) (hb : Below w.heap.size w w') : NewRow B w' a cap xs := Row.keeps h (under_below hb)
theorem NewRow.grown (h : NewRow B w a cap xs) {r : Option Nat} (hg : w.grownBy w' r) (hr : ∀ g, r = some g → g < B) : NewRow B w' a cap xs := Row.keeps h (under_grown hg hr)
theorem NewRow.mono {B' : Nat} (h : NewRow B w a cap xs) (hb : B' ≤ B) : NewRow B' w a cap xs := Row.keeps h (under_mono hb w)
theorem NewRow.empty (B : Nat) (w : World) (a : Option Addr) (cap : Nat) (h : cap ≤ 9223372036854775807) (hn : a = none → cap = 0) : NewRow B w a cap ([] : List α) := Row.empty _ _ _ h hn
theorem NewRow.lit {ys : List α} (h : NewRow B w a cap xs) (e : xs = ys) : NewRow B w a cap ys := e ▸ h
end
theorem own_newG {α : Type} [RepC α] {w : World} {B e : Nat} {v : Value} {vs : List Value} {xs : List α} (h : w.ownsRow B e (Rep.sz α) v xs.length vs) (hs : CRows (under B w) vs xs) :
    ∃ a cap, v = .slice a xs.length cap ∧ NewRow B w a cap xs := own_rowG (under_own h) hs
theorem crows_flat (w : World) {xs : List Cel} (h : ∀ c ∈ xs, c.fit) : CRows w (flat xs) xs := by
  induction xs with
  | nil => exact .nil
  | cons c xs ih => exact .cons (cs := [.int .i64 c.k, .string c.s, .int .i64 c.n]) ⟨rfl, h c (by simp)⟩ (ih fun d hd => h d (by simp [hd]))
theorem crows_ints (w : World) {xs : List Int} (h : ∀ n ∈ xs, -9223372036854775808 ≤ n ∧ n ≤ 9223372036854775807) : CRows w (xs.map (Value.int .i64)) xs := by
  induction xs with
  | nil => exact .nil
  | cons c xs ih => exact .cons (cs := [.int .i64 c]) ⟨rfl, h c (by simp)⟩ (ih fun d hd => h d (by simp [hd]))
theorem own_new {w : World} {B e : Nat} {v : Value} {xs : List Cel} (h : w.ownsRow B e 3 v xs.length (flat xs)) (hf : ∀ c ∈ xs, c.fit) : ∃ a cap, v = .slice a xs.length cap ∧ NewRow B w a cap xs :=
  own_newG h (crows_flat _ hf)

theorem fresh_own {w wr : World} {e size n : Nat} {v : Value} {xs : List Value} (hb : Below w.heap.size w wr) (h : wr.ownsRow w.heap.size e size v n xs) : Keeps w (hide v.ownBlock wr) := by
  cases hv : v.ownBlock with
  | none => exact Keeps.of hb
  | some g => exact fresh_keeps (Keeps.of hb) (h.lt g hv).1
end Go.Proofs.Ytfcebbfphjbkoaa
namespace Go.Proofs.Ytfcebbfphjbkoaa
open Go.RowKit

/-- the value of a slot -/
def Slot (a : Act) (k : Nat) (v : Value) : Prop := a.tmps[k]? = some v
theorem Slot.eval {a : Act} {k : Nat} {v : Value} (h : Slot a k v) : a.eval (.tmp k) = v := by
  unfold Slot at h
  simp [Act.eval, Array.getD_eq_getD_getElem?, h]
theorem ev_const (a : Act) (v : Value) : a.eval (.const v) = v := rfl
theorem Slot.keep {a : Act} {k d : Nat} {v u : Value} (h : Slot a k v) (hne : (k == d) = false) : Slot (a.put (some d) u) k v := by
  have hne' : d ≠ k := fun e => by simp [e] at hne
  unfold Slot Act.put at *
  simp only [Array.getElem?_setIfInBounds, hne', if_false]
  exact h
theorem Slot.new {a : Act} {d n : Nat} {u : Value} (hs : a.tmps.size = n) (hd : (decide (d < n)) = true) : Slot (a.put (some d) u) d u := by
  unfold Slot Act.put
  have : d < a.tmps.size := by rw [hs]; simpa using hd
  simp [this]
theorem put_size {a : Act} {d n : Nat} {u : Value} (hs : a.tmps.size = n) : (a.put (some d) u).tmps.size = n := by
  unfold Act.put; simpa using hs
theorem put_defers (a : Act) (d : Nat) (u : Value) : (a.put (some d) u).defers = a.defers := rfl

section
variable {P : Program} {ops : Array Oper} {Q : Exit → Act → World → Prop} {S : World → Prop}
/-- a drawn region, gone through in one order: what may be taken first, and what must come next -/
def wpG (P : Program) (ops : Array Oper) (Q : Exit → Act → World → Prop) (S : World → Prop) : List (Nat × Oper × Bool) → Act → World → Prop
  | [], a, w => Q .normal a w
  | (_, o, true) :: is, a, w => ∃ v, YieldsIf P ops S o v a ∧ wpG P ops Q S is (a.put o.dst v) w
  | (i, _, false) :: is, a, w => wpOp P ops Q i (fun a' w' => S w' ∧ wpG P ops Q S is a' w') a w
/-- is an order good? m: those that have not come up yet -/
def okG (ops : Array Oper) : Nat → List (Nat × Oper × Bool) → Bool
  | m, [] => m == 0
  | m, (i, o, p) :: is => Nat.testBit m i && (o.after.toList.all fun e => !(Region.binds .any e) || !(Nat.testBit m e.on)) &&
      (if p then is.all fun q => (q.2.1.after.toList.any fun e => Region.binds .any e && e.on == i) || o.apart ops q.2.1
       else is.all fun q => q.2.1.after.toList.any fun e => Region.binds .any e && Nat.testBit m e.on) && okG ops (m ^^^ 2 ^ i) is
structure Listed (n : Nat) (l : Array Bool) (m : Nat) (sig : List (Nat × Oper × Bool)) : Prop where
  size : l.size = n
  bit : ∀ k, k < n → l.getD k true = !(Nat.testBit m k)
  lt : ∀ k, Nat.testBit m k = true → k < n
  mem : ∀ k, Nat.testBit m k = true → ∃ q ∈ sig, q.1 = k
theorem Listed.getD {n : Nat} {l : Array Bool} {m : Nat} {sig : List (Nat × Oper × Bool)} (h : Listed n l m sig) (k : Nat) : l.getD k true = !(Nat.testBit m k) := by
  by_cases hk : k < n
  · exact h.bit k hk
  · have h1 : l.getD k true = true := by
      rw [Array.getD_eq_getD_getElem?, Array.getElem?_eq_none (by rw [h.size]; omega)]; rfl
    have h2 : Nat.testBit m k = false := by
      cases hb : Nat.testBit m k with
      | false => rfl
      | true => exact absurd (h.lt k hb) hk
    rw [h1, h2]; rfl
theorem Listed.step {n : Nat} {l : Array Bool} {m i : Nat} {o : Oper} {p : Bool} {is : List (Nat × Oper × Bool)} (h : Listed n l m ((i, o, p) :: is)) (hi : Nat.testBit m i = true) : Listed n (l.setIfInBounds i true) (m ^^^ 2 ^ i) is := by
  have hx : ∀ k, Nat.testBit (m ^^^ 2 ^ i) k = true → k ≠ i ∧ Nat.testBit m k = true := by
    intro k hk
    rw [Nat.testBit_xor, Nat.testBit_two_pow] at hk
    by_cases e : i = k
    · subst e; rw [hi] at hk; simp at hk
    · simp [e] at hk; exact ⟨fun e' => e e'.symm, hk⟩
  refine ⟨by simp [h.size], fun k hk => ?_, fun k hk => h.lt k (hx k hk).2, fun k hk => ?_⟩
  · rw [Nat.testBit_xor, Nat.testBit_two_pow]
    by_cases e : i = k
    · subst e
      rw [hi, Array.getD_eq_getD_getElem?, Array.getElem?_setIfInBounds]
      simp [h.size, hk]
    · have := h.bit k hk
      rw [Array.getD_eq_getD_getElem?] at this ⊢
      rw [Array.getElem?_setIfInBounds, if_neg e, this]
      simp [e]
  · obtain ⟨q, hq, e⟩ := h.mem k (hx k hk).2
    rcases List.mem_cons.1 hq with rfl | hq
    · exact absurd e.symm (hx k hk).1
    · exact ⟨q, hq, e⟩
theorem getD_true_false {l : Array Bool} {k : Nat} (h : l.getD k false = true) : l.getD k true = true := by
  rw [Array.getD_eq_getD_getElem?] at h ⊢
  cases hk : l[k]? with
  | none => rfl
  | some b => rw [hk] at h; simpa using h
theorem getD_of_true {l : Array Bool} {k n : Nat} (hs : l.size = n) (hk : k < n) (h : l.getD k true = true) : l.getD k false = true := by
  rw [Array.getD_eq_getD_getElem?] at h ⊢
  rw [Array.getElem?_eq_getElem (by rw [hs]; exact hk)] at h ⊢
  exact h
theorem wpG_sound {n : Nat} (hn : ∀ (i : Nat) (o : Oper), ops[i]? = some o → ∀ e ∈ o.after, e.on < n) (hsel : ∀ (j : Nat) (o : Oper) cs b, ops[j]? = some o → o.op ≠ .select cs b) (hQ : ∀ c a d v w, Q (.panic c) (Act.put a d v) w → Q (.panic c) a w) : ∀ (sig : List (Nat × Oper × Bool)) (m : Nat) (l : Array Bool) (a : Act) (w : World), (∀ p ∈ sig, ops[p.1]? = some p.2.1) →
    Listed n l m sig → okG ops m sig = true → S w → wpG P ops Q S sig a w → wpAnyH P .any ops Q S sig.length l a w
  | [], m, l, a, w, _, hl, hok, _, h => by
    refine wpAnyH_done ?_ h _
    have hm : m = 0 := by simpa [okG] using hok
    subst hm
    rw [List.eq_nil_iff_forall_not_mem]
    intro i hi
    have h1 := (mem_ready.1 hi).1
    rw [hl.getD i] at h1
    simp at h1
  | (i, o, true) :: is, m, l, a, w, hget, hl, hok, hS, ⟨v, hy, h⟩ => by
    simp only [okG, Bool.and_eq_true, if_true] at hok
    obtain ⟨⟨⟨hb, haf⟩, hfr⟩, hrest⟩ := hok
    have hgi := hget (i, o, true) (by simp)
    have hready : i ∈ Region.ready .any ops l := by
      refine mem_ready.2 ⟨by rw [hl.getD i, hb]; rfl, o, hgi, fun e he hbi => ?_⟩
      have := List.all_eq_true.1 haf e (by simpa using he)
      rw [hbi] at this
      exact getD_of_true hl.size (hn i o hgi e he) (by rw [hl.getD e.on]; simpa using this)
    refine wpAnyH_first hgi hsel (fun c a w => hQ c a _ _ w) _ l a w (fun j oj hj hji hjl hno => ?_) hready hy hS (wpG_sound hn hsel hQ is _ _ _ _ (fun p hp => hget p (by simp [hp])) (hl.step hb) hrest hS h)
    rw [hl.getD j] at hjl
    obtain ⟨q, hq, e⟩ := hl.mem j (by simpa using hjl)
    rcases List.mem_cons.1 hq with rfl | hq'
    · exact absurd e.symm hji
    · have h1 := List.all_eq_true.1 hfr q hq'
      have hqj : q.2.1 = oj := by
        have := hget q hq
        rw [e, hj] at this
        exact (Option.some.inj this).symm
      rw [hqj, Bool.or_eq_true] at h1
      rcases h1 with h1 | h1
      · obtain ⟨e', he', hbe⟩ := List.any_eq_true.1 h1
        simp only [Bool.and_eq_true, beq_iff_eq] at hbe
        exact absurd hbe.2 (hno e' (by simpa using he') hbe.1)
      · exact h1
  | (i, o, false) :: is, m, l, a, w, hget, hl, hok, hS, h => by
    simp only [okG, Bool.and_eq_true] at hok
    obtain ⟨⟨⟨hb, haf⟩, hfr⟩, hrest⟩ := hok
    have hgi := hget (i, o, false) (by simp)
    have hready : i ∈ Region.ready .any ops l := by
      refine mem_ready.2 ⟨by rw [hl.getD i, hb]; rfl, o, hgi, fun e he hbi => ?_⟩
      have := List.all_eq_true.1 haf e (by simpa using he)
      rw [hbi] at this
      exact getD_of_true hl.size (hn i o hgi e he) (by rw [hl.getD e.on]; simpa using this)
    refine wpAnyH_all rfl (fun e => by rw [e] at hready; cases hready) fun j hj => ?_
    have hji : j = i := by
      obtain ⟨hjl, oj, hoj, hall⟩ := mem_ready.1 hj
      rw [hl.getD j] at hjl
      obtain ⟨q, hq, e⟩ := hl.mem j (by simpa using hjl)
      rcases List.mem_cons.1 hq with rfl | hq'
      · exact e.symm
      · exfalso
        have h1 : (q.2.1.after.toList.any fun e => Region.binds .any e && Nat.testBit m e.on) = true := by
          simp only [Bool.false_eq_true, if_false] at hfr
          exact List.all_eq_true.1 hfr q hq'
        have hqj : q.2.1 = oj := by
          have := hget q hq
          rw [e, hoj] at this
          exact (Option.some.inj this).symm
        rw [hqj] at h1
        obtain ⟨e', he', hbe⟩ := List.any_eq_true.1 h1
        simp only [Bool.and_eq_true] at hbe
        have h2 := getD_true_false (hall e' (by simpa using he') hbe.1)
        rw [hl.getD e'.on, hbe.2] at h2
        cases h2
    subst hji
    exact wpOp_mono (fun a' w' h' => ⟨h'.1, wpG_sound hn hsel hQ is _ _ _ _ (fun p hp => hget p (by simp [hp])) (hl.step hb) hrest h'.1 h'.2⟩) h
theorem wp_region_greedy {id : Nat} {a : Act} {w : World} (sig : List (Nat × Oper × Bool)) (hm : P.follows .mixedOrders = true) (hget : (sig.map fun p => ops[p.1]?) = sig.map fun p => some p.2.1)
    (hs : Region.noSelect ops = true) (hn : (ops.toList.all fun o => o.after.toList.all fun e => decide (e.on < ops.size)) = true) (hperm : (sig.map fun p => p.1).Perm (List.range ops.size)) (hok : okG ops (2 ^ ops.size - 1) sig = true) (hS : S w.drew) (h : wpG P ops (NoPanic Q) S sig a w.drew) : (Code.region id ops true).wp P Q a w := by
  refine wp_region_noPanic (wp_region_held (S := S) hm ?_)
  have hg : ∀ p ∈ sig, ops[p.1]? = some p.2.1 := by
    intro p hp
    have := List.map_inj_left.1 hget p hp
    exact this
  have hlen : sig.length = ops.size := by have := hperm.length_eq; simpa using this
  have hl : Listed ops.size (Array.replicate ops.size false) (2 ^ ops.size - 1) sig := by
    have hb : ∀ k, Nat.testBit (2 ^ ops.size - 1) k = decide (k < ops.size) := fun k => Nat.testBit_two_pow_sub_one _ _
    refine ⟨by simp, fun k hk => ?_, fun k hk => ?_, fun k hk => ?_⟩
    · rw [hb, Array.getD_eq_getD_getElem?]; simp [hk]
    · rw [hb] at hk; simpa using hk
    · rw [hb] at hk
      have : k ∈ sig.map fun p => p.1 := hperm.mem_iff.2 (List.mem_range.2 (by simpa using hk))
      obtain ⟨q, hq, e⟩ := List.mem_map.1 this
      exact ⟨q, hq, e⟩
  have hn' : ∀ (i : Nat) (o : Oper), ops[i]? = some o → ∀ e ∈ o.after, e.on < ops.size := by
    intro i o ho e he
    have hm : o ∈ ops.toList := by
      have := Array.mem_of_getElem? ho
      simpa using this
    have h1 := List.all_eq_true.1 hn o hm
    have h2 := List.all_eq_true.1 h1 e (by simpa using he)
    simpa using h2
  have := wpG_sound (P := P) (Q := NoPanic Q) (S := S) hn' (Region.noSelect_spec hs) (fun c a d v w h => (h : False).elim) sig _ (Array.replicate ops.size false) a w.drew hg hl hok hS h
  rwa [hlen] at this

/-- is it wanted? -/
theorem wanted_none {o : Oper} {a : Act} (h : o.guard = none) : Region.wanted o (yielded ops a.tmps) = true := by unfold Region.wanted; rw [h]
theorem wanted_some {o : Oper} {a : Act} {j d : Nat} {b : Bool} (h : o.guard = some (j, b)) (hd : (ops[j]?).bind (·.dst) = some d) (hv : Slot a d (.bool b)) : Region.wanted o (yielded ops a.tmps) = true := by
  unfold Region.wanted
  rw [h]
  simp only [yielded, hd, Option.bind_some]
  unfold Slot at hv
  rw [hv]; simp
variable {o : Oper} {a : Act} {v : Value}
theorem y_move {x : Operand} (hw : Region.wanted o (yielded ops a.tmps) = true) (ho : o.op = .move x) (hx : a.eval x = v) : YieldsIf P ops S o v a :=
  .inl ⟨hw, fun w _ => by simp [execOp, ho, hx]⟩
theorem y_assign {x : Operand} (hw : Region.wanted o (yielded ops a.tmps) = true) (ho : o.op = .assign x) (hx : a.eval x = v) : YieldsIf P ops S o v a :=
  .inl ⟨hw, fun w _ => by simp [execOp, ho, hx]⟩
theorem y_pickT {c x y : Operand} (hw : Region.wanted o (yielded ops a.tmps) = true) (ho : o.op = .pick c x y) (hc : a.eval c = .bool true) (hx : a.eval x = v) : YieldsIf P ops S o v a :=
  .inl ⟨hw, fun w _ => by simp [execOp, ho, hc, hx, asBool]⟩
theorem y_pickF {c x y : Operand} (hw : Region.wanted o (yielded ops a.tmps) = true) (ho : o.op = .pick c x y) (hc : a.eval c = .bool false) (hx : a.eval y = v) : YieldsIf P ops S o v a :=
  .inl ⟨hw, fun w _ => by simp [execOp, ho, hc, hx, asBool]⟩
/-- whatever a run tells -/
theorem y_run (hw : Region.wanted o (yielded ops a.tmps) = true) (h : ∀ w, S w → (execOp a.eval o).run P w = .ok (.value v) w) : YieldsIf P ops S o v a := .inl ⟨hw, h⟩

theorem g_pure {i : Nat} {is : List (Nat × Oper × Bool)} {w : World} (hy : YieldsIf P ops S o v a) (h : wpG P ops Q S is (a.put o.dst v) w) : wpG P ops Q S ((i, o, true) :: is) a w := ⟨v, hy, h⟩
theorem g_alloc {i : Nat} {is : List (Nat × Oper × Bool)} {w w' : World} (hget : ops[i]? = some o) (hw : Region.wanted o (yielded ops a.tmps) = true) (hrun : (execOp a.eval o).run P w = .ok (.value v) w') (h : S w' ∧ wpG P ops Q S is (a.put o.dst v) w') : wpG P ops Q S ((i, o, false) :: is) a w := by
  show wpOp P ops Q i _ a w
  unfold wpOp
  rw [hget]
  simp only [hw, if_true]
  left
  unfold Oper.wp
  rw [hrun, Oper.upon_value]
  exact h
theorem g_call {i f : Nat} {args : Array Value} {R : Value → World → Prop} {is : List (Nat × Oper × Bool)} {w : World} (hget : ops[i]? = some o) (hw : Region.wanted o (yielded ops a.tmps) = true) (hrun : (execOp a.eval o).run P w = .ok (.enter f args) w)
    (hc : Calls P f args w fun e w' => ∃ v, e = .returned v ∧ R v w') (h : ∀ v w', R v w' → S w' ∧ wpG P ops Q S is (a.put o.dst v) w') : wpG P ops Q S ((i, o, false) :: is) a w := by
  show wpOp P ops Q i _ a w
  unfold wpOp
  rw [hget]
  simp only [hw, if_true]
  left
  unfold Oper.wp
  rw [hrun, Oper.upon_enter]
  refine hc.mono ?_
  rintro e w' ⟨v, rfl, hR⟩
  exact h v w' hR
theorem run_call {c : Call} {g : Nat} {w : World} (ho : o.op = .call c) (hc : c.callee = .value (.func g)) (eg : ∀ args w, (callFunc g args).run P w = .ok (.enter g args) w) {args : Array Value} (ha : c.args.map a.eval = args) : (execOp a.eval o).run P w = .ok (.enter g args) w := by
  subst ha
  simp [execOp, ho, resolve, hc, invoke, eg, Act.eval, go_sem]
end
end Go.Proofs.Ytfcebbfphjbkoaa
namespace Go.Proofs.Ytfcebbfphjbkoaa
open Go.RowKit

theorem own_belowA {w w' : World} {B e size : Nat} {v : Value} {n : Nat} {xs : List Value} (h : w.ownsRow B e size v n xs) (hb : Below w.heap.size w w') : w'.ownsRow B e size v n xs :=
  h.kept (row := none) ⟨hb.os, hb.tape, hb.output, hb.size, fun k hk _ => hb.block k hk⟩ (by cases hv : v.ownBlock <;> simp)

/-- a row of the call's own that is appended to -/
structure AccInv {α : Type} [RepC α] (B e : Nat) (acc : List α) (v : Value) (w : World) : Prop where
  ex : ∃ vs, w.ownsRow B e (Rep.sz α) v acc.length vs ∧ CRows (hide v.ownBlock w) vs acc
section
variable {α : Type} [RepC α] {B e : Nat} {acc : List α} {v : Value} {w w' : World}
theorem AccInv.nil (B e : Nat) (w : World) : AccInv B e ([] : List α) (.slice none 0 0) w := ⟨[], World.ownsRow_nil _ _ _ _, .nil⟩
theorem AccInv.made {T : Nat} (w : World) (hB : B ≤ w.heap.size) (he : e = T) : AccInv B e ([] : List α) (.slice (some ⟨w.heap.size, 0, none⟩) 0 0) (w.alloc (.cells #[] T)) :=
  ⟨[], by subst he; simpa using World.ownsRow_made (base := B) (e := e) (size := Rep.sz α) w #[] 0 hB (by unfold maxLen; omega) (by simp), .nil⟩
theorem AccInv.below (h : AccInv B e acc v w) (hb : Below w.heap.size w w') : AccInv B e acc v w' :=
  let ⟨vs, ho, hc⟩ := h.ex
  ⟨vs, own_belowA ho hb, hc.keeps (below_hide hb _)⟩
theorem AccInv.lt (h : AccInv B e acc v w) : ∀ g, v.ownBlock = some g → B ≤ g ∧ g < w.heap.size := let ⟨_, ho, _⟩ := h.ex; fun g hg => ho.lt g hg
theorem AccInv.row (h : AccInv B e acc v w) : ∃ a cap, v = .slice a acc.length cap ∧ Row w a cap acc :=
  let ⟨_, ho, hc⟩ := h.ex; own_rowG ho (hc.keeps (hide_keeps _ _))
theorem AccInv.lit {acc' : List α} (h : AccInv B e acc v w) (e1 : acc = acc') : AccInv B e acc' v w := e1 ▸ h
/-- what was there when the call began is read beside the row -/
theorem AccInv.fresh {w0 : World} (h : AccInv w0.heap.size e acc v w) (hb : Below w0.heap.size w0 w) : Keeps w0 (hide v.ownBlock w) := by
  obtain ⟨_, ho, _⟩ := h.ex
  cases hv : v.ownBlock with
  | none => exact Keeps.of hb
  | some g => exact fresh_keeps (Keeps.of hb) (ho.lt g hv).1
/-- a slice that is newer than the row is read beside it -/
theorem AccInv.newer {β : Type} [Rep β] {B2 : Nat} {w2 : World} {a : Option Addr} {cap : Nat} {ys : List β} (h : AccInv B e acc v w) (hB : w.heap.size ≤ B2) (hr : NewRow B2 w2 a cap ys) : Row (hide v.ownBlock w2) a cap ys :=
  hr.hide fun g hg => Nat.lt_of_lt_of_le (h.lt g hg).2 hB
end

/-- append of one element, laid just ahead of it -/
theorem wpList_acc {α : Type} [RepC α] {P : Program} {w : World} {ops : Array Oper} {rest : List Oper} {o : Oper} {a : Act} {Q : Exit → Act → World → Prop} (hgd : o.guard = none) (s x : Operand) (t : TypeId)
    (ho : o.op = .call { callee := .builtin .append, args := #[s, x], argTypes := #[t, t] })
    (B e bytes : Nat) (z : Value) (ht : P.underlying t = some (.slice e)) (hinfo : (P.info? e).map (fun i => (i.zero, i.size, i.bytes)) = some (some z, Rep.sz α, bytes))
    (hzs : z.cells.size = Rep.sz α) (hby : bytes ≤ 1000)
    (v : Value) (acc : List α) (hacc : AccInv B e acc v w) (hs : a.eval s = v) (T : Nat) (cs : Array Value) (y : α) (hcs : RepC.C (hide v.ownBlock w) cs.toList y)
    (hx : a.eval x = .slice (some ⟨w.heap.size, 0, none⟩) 1 1)
    (hmax : acc.length + 1 ≤ 1000000000) (hB : B ≤ w.heap.size)
    (h : ∀ v' w', AccInv B e (acc ++ [y]) v' w' → Below B w w' → wpList P ops Q rest (a.put o.dst v') w') : wpList P ops Q (o :: rest) a (w.alloc (.cells cs T)) := by
  obtain ⟨vs, hown, hc⟩ := hacc.ex
  refine wpList_app2 hgd s x t ho B e (Rep.sz α) bytes z ht hinfo hzs RepC.pos hby v acc.length vs hs (hown.alloc _) ⟨w.heap.size, 0, none⟩ 1 1 cs.toList hx (src_new w cs T (Rep.sz α) (by have := RepC.len hcs; simpa using this) (fun u hu => RepC.one hcs u hu)) hmax (Nat.le_trans hB (by simp)) ?_
  intro v' w' h1 _ h3 h4
  refine h v' w' ⟨vs ++ cs.toList, by rw [List.length_append]; exact h1, ?_⟩ (((Below.refl B w).alloc hB _).trans h3)
  exact ((hc.keeps (alloc_hide w _ _)).keeps h4).snoc (RepC.cmono (RepC.cmono hcs (alloc_hide w _ _)) h4)
theorem Row.srcK {α : Type} [RepC α] {w w' : World} {a : Option Addr} {cap : Nat} {xs : List α} (h : Row w a cap xs) (hk : Keeps w w') : ∃ vs, CRows w vs xs ∧ Src w' (Rep.sz α) a xs.length cap vs := by
  rcases h.cases with rfl | ⟨b, off, rfl, _, hat⟩
  · refine ⟨[], .nil, ⟨by simp, fun e => ⟨rfl, h.nil e⟩, fun ad _ j u hj => by simp at hj, fun u hu => by simp at hu⟩⟩
  · obtain ⟨vs, hv, hvat⟩ := crows_of (w := w) (b := b) xs off (fun i x hi => by
      obtain ⟨hl, rfl⟩ := List.getElem?_eq_some_iff.1 hi
      exact hat i hl)
    refine ⟨vs, hv, ⟨hv.len, (fun e => by cases e), ?_, hv.one⟩⟩
    intro ad e j u hj
    simp at e
    subst e
    have ha : (Addr.mk b off none).add j = ⟨b, off + j, none⟩ := by unfold Addr.add; split <;> simp_all
    rw [ha]
    exact hk _ _ _ (hvat j u hj)
/-- append of all of a slice -/
theorem wpList_accs {α : Type} [RepC α] {P : Program} {w : World} {ops : Array Oper} {rest : List Oper} {o : Oper} {a : Act} {Q : Exit → Act → World → Prop} (hgd : o.guard = none) (s x : Operand) (t : TypeId)
    (ho : o.op = .call { callee := .builtin .append, args := #[s, x], argTypes := #[t, t] })
    (B e bytes : Nat) (z : Value) (ht : P.underlying t = some (.slice e)) (hinfo : (P.info? e).map (fun i => (i.zero, i.size, i.bytes)) = some (some z, Rep.sz α, bytes))
    (hzs : z.cells.size = Rep.sz α) (hby : bytes ≤ 1000)
    (v : Value) (acc : List α) (hacc : AccInv B e acc v w) (hs : a.eval s = v) (sa : Option Addr) (cap : Nat) (ys : List α) (hr : Row (hide v.ownBlock w) sa cap ys)
    (hx : a.eval x = .slice sa ys.length cap)
    (hmax : acc.length + ys.length ≤ 1000000000) (hB : B ≤ w.heap.size)
    (h : ∀ v' w', AccInv B e (acc ++ ys) v' w' → Below B w w' → wpList P ops Q rest (a.put o.dst v') w') : wpList P ops Q (o :: rest) a w := by
  obtain ⟨vs, hown, hc⟩ := hacc.ex
  obtain ⟨us, hu, hsrc⟩ := hr.srcK (hide_keeps _ _)
  cases sa with
  | none =>
    have h0 : ys.length = 0 := (hsrc.nil rfl).1
    have hc0 : cap = 0 := (hsrc.nil rfl).2
    obtain rfl : ys = [] := List.eq_nil_of_length_eq_zero h0
    obtain ⟨i, hi, hz0, hz1, hz2⟩ := info_parts hinfo
    subst hc0
    refine wpList_append_own_none hgd s x t ho B e i (Rep.sz α) ht hi v acc.length vs hs hown hx ?_
    exact h v w ⟨vs, by rw [List.append_nil]; exact hown, by rw [List.append_nil]; exact hc⟩ (Below.refl _ _)
  | some ad =>
    refine wpList_app2 hgd s x t ho B e (Rep.sz α) bytes z ht hinfo hzs RepC.pos hby v acc.length vs hs hown ad ys.length cap us hx hsrc hmax hB ?_
    intro v' w' h1 _ h3 h4
    exact h v' w' ⟨vs ++ us, by rw [List.length_append]; exact h1, (hc.keeps h4).append (hu.keeps h4)⟩ h3
end Go.Proofs.Ytfcebbfphjbkoaa
namespace Go.Proofs.Ytfcebbfphjbkoaa
open Go.RowKit

def okByte (c : UInt8) : Bool := decide (32 ≤ (c.toNat : Int)) && decide ((c.toNat : Int) ≤ 126) && !((c.toNat : Int) == 39)
def nameOk (s : ByteArray) : Bool := s.data.toList.all okByte && decide (1 ≤ (s.size : Int)) && decide ((s.size : Int) ≤ 12)
def cellOk (c : Cel) : Bool :=
  (decide (c.k = 1) && decide (c.s.toList = []) && decide (0 ≤ c.n) && decide (c.n ≤ 999)) ||
  (decide (c.k = 2) && decide (c.s.toList = []) && decide (-2147483647 ≤ c.n) && decide (c.n ≤ 2147483647)) ||
  (decide (c.k = 3) && nameOk c.s && decide (0 ≤ c.n) && decide (c.n ≤ 6))
def ar (c : Cel) : Nat := if c.k = 3 then c.n.toNat else 0
def sk : Nat → List Cel → Option (List Cel)
  | 0, l => some l
  | _ + 1, [] => none
  | m + 1, c :: l => if cellOk c then sk (m + ar c) l else none
def endI (xs : List Cel) (i : Nat) : Int := match sk 1 (xs.drop i) with
  | none => -1
  | some r => xs.length - r.length

theorem take_snoc (s : ByteArray) (k : Nat) (h : k < s.size) : s.data.toList.take (k + 1) = s.data.toList.take k ++ [s[k]] := by
  rw [List.take_succ_eq_append_getElem (by simpa using h)]; rfl
theorem okByte_true {c : UInt8} (h : okByte c = true) : 32 ≤ (c.toNat : Int) ∧ (c.toNat : Int) ≤ 126 ∧ ((c.toNat : Int) == 39) = false := by
  simp [okByte] at h ⊢; omega
theorem okByte_false {c : UInt8} (h : okByte c = false) : (c.toNat : Int) < 32 ∨ 32 ≤ (c.toNat : Int) ∧ 126 < (c.toNat : Int) ∨ 32 ≤ (c.toNat : Int) ∧ (c.toNat : Int) ≤ 126 ∧ ((c.toNat : Int) == 39) = true := by
  simp [okByte] at h ⊢; omega
theorem all_bad (s : ByteArray) (k : Nat) (h : k < s.size) (hb : okByte s[k] = false) : nameOk s = false := by
  have : s.data.toList.all okByte = false := by
    rw [List.all_eq_false]
    exact ⟨s[k], by simp [ByteArray.getElem_eq_getElem_data], by simp [hb]⟩
  simp [nameOk, this]
theorem all_snoc (s : ByteArray) (k : Nat) (h : k < s.size) (h1 : (s.data.toList.take k).all okByte = true) (hb : okByte s[k] = true) : (s.data.toList.take (k + 1)).all okByte = true := by
  rw [take_snoc s k h, List.all_append, h1]; simp [hb]
theorem nameOk_of (s : ByteArray) (h : s.data.toList.all okByte = true) : nameOk s = (decide (1 ≤ (s.size : Int)) && decide ((s.size : Int) ≤ 12)) := by
  simp [nameOk, h]

theorem sk_step (m : Nat) (xs : List Cel) (i : Nat) (h : i < xs.length) : sk (m + 1) (xs.drop i) = if cellOk xs[i] then sk (m + ar xs[i]) (xs.drop (i + 1)) else none := by
  rw [List.drop_eq_getElem_cons h]; rfl
theorem sk_end (m : Nat) (xs : List Cel) (i : Nat) (h : xs.length ≤ i) : sk (m + 1) (xs.drop i) = none := by
  rw [List.drop_eq_nil_of_le h]; rfl
theorem ar_le (c : Cel) (h : cellOk c = true) : ar c ≤ 6 := by
  unfold ar; simp [cellOk] at h; split <;> omega
theorem cellOk_fun (c : Cel) (h : cellOk c = true) (h3 : (c.k == 3) = true) : 0 ≤ c.n ∧ c.n ≤ 6 := by
  simp [cellOk] at h h3; omega
theorem endI_zero {xs : List Cel} {i j : Nat} (h : sk 1 (xs.drop i) = sk 0 (xs.drop j)) (hj : j ≤ xs.length) : endI xs i = j := by
  unfold endI; rw [h]; simp [sk]; omega
theorem endI_none {xs : List Cel} {i : Nat} (h : sk 1 (xs.drop i) = none) : endI xs i = -1 := by
  unfold endI; rw [h]
section
variable {xs : List Cel} {i0 k m : Nat}
theorem end_l1 (h : sk 1 (xs.drop i0) = sk (m + 1) (xs.drop k)) (hk : k < xs.length) (ho : cellOk xs[k] = false) : endI xs i0 = -1 :=
  endI_none (by rw [h, sk_step m xs k hk, ho]; rfl)
theorem end_l2 (hm : m ≤ 6 * k) (hk' : k ≤ 1048576) (h : sk 1 (xs.drop i0) = sk (m + 1) (xs.drop k)) (hk : k < xs.length) (ho : cellOk xs[k] = true) (h3 : (xs[k].k == 3) = true)
    (hz : (wrap64 ((m : Int) + xs[k].n) == 0) = true) : endI xs i0 = k + 1 := by
  have hn := cellOk_fun _ ho h3
  have : wrap64 ((m : Int) + xs[k].n) = (m : Int) + xs[k].n := IntWalk.wrap64_in _ (by constructor <;> omega)
  rw [this] at hz; simp at hz h3
  exact endI_zero (by rw [h, sk_step m xs k hk, ho]; simp only [if_true]; congr 1; unfold ar; rw [if_pos h3]; omega) hk
theorem end_l3 (hm : m ≤ 6 * k) (hk' : k ≤ 1048576) (h : sk 1 (xs.drop i0) = sk (m + 1) (xs.drop k)) (hk : k < xs.length) (ho : cellOk xs[k] = true) (h3 : (xs[k].k == 3) = true)
    (hz : (wrap64 ((m : Int) + xs[k].n) == 0) = false) : ∃ m' : Nat, wrap64 ((m : Int) + xs[k].n) = m' + 1 ∧ m' ≤ 6 * (k + 1) ∧ sk 1 (xs.drop i0) = sk (m' + 1) (xs.drop (k + 1)) := by
  have hn := cellOk_fun _ ho h3
  have : wrap64 ((m : Int) + xs[k].n) = (m : Int) + xs[k].n := IntWalk.wrap64_in _ (by constructor <;> omega)
  rw [this] at hz ⊢; simp at hz h3
  refine ⟨m + xs[k].n.toNat - 1, by omega, by omega, ?_⟩
  rw [h, sk_step m xs k hk, ho]; simp only [if_true]; congr 1; unfold ar; rw [if_pos h3]; omega
theorem end_l4 (h : sk 1 (xs.drop i0) = sk (m + 1) (xs.drop k)) (hk : k < xs.length) (ho : cellOk xs[k] = true) (h3 : (xs[k].k == 3) = false)
    (hz : ((m : Int) == 0) = true) : endI xs i0 = k + 1 := by
  simp at hz h3
  exact endI_zero (by rw [h, sk_step m xs k hk, ho]; simp only [if_true]; congr 1; unfold ar; rw [if_neg h3]; omega) hk
theorem end_l5 (h : sk 1 (xs.drop i0) = sk (m + 1) (xs.drop k)) (hk : k < xs.length) (ho : cellOk xs[k] = true) (h3 : (xs[k].k == 3) = false)
    (hz : ((m : Int) == 0) = false) : sk 1 (xs.drop i0) = sk (m - 1 + 1) (xs.drop (k + 1)) := by
  simp at hz h3
  rw [h, sk_step m xs k hk, ho]; simp only [if_true]; congr 1; unfold ar; rw [if_neg h3]; omega
end
def rightB (xs : List Cel) : Bool := decide ((xs.length : Int) ≤ 200) && decide (endI xs 0 = xs.length)
def arI (c : Cel) : Int := if c.k = 3 then c.n else 0
theorem rightB_pos {xs : List Cel} (h : xs.length < 1) : rightB xs = false := by
  obtain rfl : xs = [] := List.eq_nil_of_length_eq_zero (by omega)
  decide
theorem rightB_le {xs : List Cel} (h : (xs.length : Int) ≤ 200) : (endI xs 0 == xs.length) = rightB xs := by
  rw [rightB, decide_eq_true h, Bool.true_and]; rfl
theorem rightB_gt {xs : List Cel} (h : 200 < (xs.length : Int)) : false = rightB xs := by
  simp [rightB]; intros; omega

def afterI (xs : List Cel) (i j : Nat) : Int := match sk j (xs.drop i) with
  | none => -1
  | some r => xs.length - r.length
def passI (xs : List Cel) (i : Int) : Int := if 0 ≤ i then endI xs i.toNat else -1
theorem sk_add (a b : Nat) (l : List Cel) : sk (a + b) l = (sk a l).bind (sk b) := by
  induction l generalizing a with
  | nil => cases a with
    | zero => simp [sk]
    | succ a => rw [show a + 1 + b = a + b + 1 by omega]; rfl
  | cons c l ih => cases a with
    | zero => simp [sk]
    | succ a =>
      rw [show a + 1 + b = a + b + 1 by omega]
      simp only [sk]
      split
      · rw [show a + b + ar c = a + ar c + b by omega, ih]
      · rfl
theorem sk_suffix (m : Nat) (l r : List Cel) (h : sk m l = some r) : r.length ≤ l.length ∧ r = l.drop (l.length - r.length) := by
  induction l generalizing m with
  | nil => cases m with
    | zero => simp [sk] at h; subst h; simp
    | succ m => simp [sk] at h
  | cons c l ih => cases m with
    | zero => simp [sk] at h; subst h; simp
    | succ m =>
      simp only [sk] at h
      split at h
      · obtain ⟨h1, h2⟩ := ih _ h
        refine ⟨by simp; omega, ?_⟩
        rw [show (c :: l).length - r.length = (l.length - r.length) + 1 by simp; omega]
        exact h2
      · cases h
theorem sk_at {xs : List Cel} {i j : Nat} {r : List Cel} (hi : i ≤ xs.length) (h : sk j (xs.drop i) = some r) : r.length ≤ xs.length - i ∧ xs.drop (xs.length - r.length) = r := by
  obtain ⟨h1, h2⟩ := sk_suffix _ _ _ h
  rw [List.length_drop] at h1 h2
  refine ⟨h1, ?_⟩
  rw [List.drop_drop] at h2
  rw [show xs.length - r.length = i + (xs.length - i - r.length) by omega]
  exact h2.symm
theorem afterI_zero {xs : List Cel} {i : Nat} (h : i ≤ xs.length) : afterI xs i 0 = i := by
  simp [afterI, sk]; omega
theorem afterI_succ {xs : List Cel} {i j : Nat} (hi : i ≤ xs.length) : passI xs (afterI xs i j) = afterI xs i (j + 1) := by
  unfold afterI
  rw [sk_add]
  cases h : sk j (xs.drop i) with
  | none => rfl
  | some r =>
    obtain ⟨h1, h2⟩ := sk_at hi h
    simp only [Option.bind_some]
    unfold passI
    rw [if_pos (by omega), show ((xs.length : Int) - r.length).toNat = xs.length - r.length by omega]
    unfold endI
    rw [h2]
theorem endI_ok {xs : List Cel} {i : Nat} (hi : i < xs.length) (h : cellOk xs[i] = true) : endI xs i = afterI xs (i + 1) (ar xs[i]) := by
  unfold endI afterI
  have := sk_step 0 xs i hi
  rw [Nat.zero_add] at this
  rw [this, h]; simp
theorem endI_bad {xs : List Cel} {i : Nat} (hi : i < xs.length) (h : cellOk xs[i] = false) : endI xs i = -1 := by
  unfold endI
  have := sk_step 0 xs i hi
  rw [Nat.zero_add] at this
  rw [this, h]; simp
theorem endI_out {xs : List Cel} {i : Nat} (hi : xs.length ≤ i) : endI xs i = -1 := endI_none (sk_end 0 xs i hi)
theorem afterI_range {xs : List Cel} {i j : Nat} (hi : i ≤ xs.length) : afterI xs i j = -1 ∨ (i : Int) ≤ afterI xs i j ∧ afterI xs i j ≤ xs.length := by
  unfold afterI
  cases h : sk j (xs.drop i) with
  | none => exact .inl rfl
  | some r => obtain ⟨h1, _⟩ := sk_at hi h; right; simp only; omega
theorem arI_ar {c : Cel} (h : cellOk c = true) : arI c = ar c := by
  unfold arI ar
  by_cases h3 : c.k = 3
  · have := cellOk_fun c h (by simp [h3]); rw [if_pos h3, if_pos h3]; omega
  · rw [if_neg h3, if_neg h3]; rfl

def varsGo (acc : List Int) : List Cel → List Int
  | [] => acc
  | c :: l => varsGo (if c.k = 1 ∧ c.n ∉ acc then acc ++ [c.n] else acc) l
def varsL (xs : List Cel) : List Int := varsGo [] xs
theorem varsGo_step (acc : List Int) (xs : List Cel) (k : Nat) (h : k < xs.length) : varsGo acc (xs.drop k) = varsGo (if xs[k].k = 1 ∧ xs[k].n ∉ acc then acc ++ [xs[k].n] else acc) (xs.drop (k + 1)) := by
  rw [List.drop_eq_getElem_cons h]; rfl
theorem varsGo_fit (xs : List Cel) (hf : ∀ c ∈ xs, c.fit) : ∀ acc : List Int, (∀ n ∈ acc, -9223372036854775808 ≤ n ∧ n ≤ 9223372036854775807) → ∀ n ∈ varsGo acc xs, -9223372036854775808 ≤ n ∧ n ≤ 9223372036854775807 := by
  induction xs with
  | nil => intro acc h; exact h
  | cons c l ih =>
    intro acc h
    refine ih (fun d hd => hf d (List.mem_cons_of_mem _ hd)) _ ?_
    have hc := hf c List.mem_cons_self
    split
    · intro n hn
      rcases List.mem_append.1 hn with h' | h'
      · exact h n h'
      · simp at h'; subst h'; exact ⟨hc.n1, hc.n2⟩
    · exact h
theorem varsGo_length (xs : List Cel) : ∀ acc : List Int, (varsGo acc xs).length ≤ acc.length + xs.length := by
  induction xs with
  | nil => intro acc; simp [varsGo]
  | cons c l ih =>
    intro acc
    have h := ih (if c.k = 1 ∧ c.n ∉ acc then acc ++ [c.n] else acc)
    have h2 : (if c.k = 1 ∧ c.n ∉ acc then acc ++ [c.n] else acc).length ≤ acc.length + 1 := by split <;> simp
    simp only [varsGo, List.length_cons]
    omega
def groundB (xs : List Cel) : Bool := xs.all fun c => !decide (c.k = 1)
theorem varsGo_ne (xs : List Cel) : ∀ acc : List Int, acc ≠ [] → varsGo acc xs ≠ [] := by
  induction xs with
  | nil => intro acc h; exact h
  | cons c l ih =>
    intro acc h
    refine ih _ ?_
    split
    · simp
    · exact h
theorem ground_vars (xs : List Cel) : groundB xs = decide ((varsL xs).length = 0) := by
  unfold varsL
  induction xs with
  | nil => rfl
  | cons c l ih =>
    by_cases h : c.k = 1
    · have h1 : groundB (c :: l) = false := by simp [groundB, h]
      have h2 : varsGo [] (c :: l) = varsGo [c.n] l := by simp [varsGo, h]
      rw [h1, h2]
      have := varsGo_ne l [c.n] (by simp)
      simp [this]
    · have h1 : groundB (c :: l) = groundB l := by simp [groundB, h]
      have h2 : varsGo [] (c :: l) = varsGo [] l := by simp [varsGo, h]
      rw [h1, h2, ih]
end Go.Proofs.Ytfcebbfphjbkoaa
namespace Go.Proofs.Ytfcebbfphjbkoaa
open Go.RowKit

theorem sk_pos {m : Nat} {l r : List Cel} (h : sk (m + 1) l = some r) : r.length < l.length := by
  cases l with
  | nil => simp [sk] at h
  | cons c l =>
    simp only [sk] at h
    split at h
    · have := (sk_suffix _ _ _ h).1; simp; omega
    · cases h
theorem right_sk {xs : List Cel} (h : rightB xs = true) : ∃ c l, xs = c :: l ∧ cellOk c = true ∧ sk (ar c) l = some [] ∧ xs.length ≤ 200 := by
  simp only [rightB, Bool.and_eq_true, decide_eq_true_eq] at h
  obtain ⟨h1, h2⟩ := h
  cases xs with
  | nil => simp [endI, sk] at h2
  | cons c l =>
    refine ⟨c, l, rfl, ?_⟩
    unfold endI at h2
    rw [List.drop_zero] at h2
    have hs : sk 1 (c :: l) = if cellOk c then sk (0 + ar c) l else none := rfl
    rw [hs] at h2
    by_cases hc : cellOk c = true
    · rw [if_pos hc, Nat.zero_add] at h2
      cases hr : sk (ar c) l with
      | none => rw [hr] at h2; simp at h2; omega
      | some r =>
        rw [hr] at h2
        simp only at h2
        have : r.length = 0 := by omega
        exact ⟨hc, by rw [List.eq_nil_of_length_eq_zero this], by omega⟩
    · rw [if_neg hc] at h2; simp at h2; omega
theorem right_of_sk {c : Cel} {l : List Cel} (hc : cellOk c = true) (h : sk (ar c) l = some []) (hl : (c :: l).length ≤ 200) : rightB (c :: l) = true := by
  simp only [rightB, Bool.and_eq_true, decide_eq_true_eq]
  refine ⟨by omega, ?_⟩
  unfold endI
  rw [List.drop_zero]
  have hs : sk 1 (c :: l) = if cellOk c then sk (0 + ar c) l else none := rfl
  rw [hs, if_pos hc, Nat.zero_add, h]; simp

def ar0 : List Cel → Nat
  | [] => 0
  | c :: _ => ar c
/-- where the j-th argument begins -/
def aN (xs : List Cel) (j : Nat) : Nat := (afterI xs 1 j).toNat
def partJ (xs : List Cel) (j : Nat) : List Cel := (xs.drop (aN xs j)).take (aN xs (j + 1) - aN xs j)
def partsL (xs : List Cel) : List (List Cel) := (List.range (ar0 xs)).map (partJ xs)

theorem right_after {xs : List Cel} (h : rightB xs = true) {j : Nat} (hj : j ≤ ar0 xs) : afterI xs 1 j = aN xs j ∧ 1 ≤ aN xs j ∧ aN xs j ≤ xs.length ∧ sk j (xs.drop 1) = some (xs.drop (aN xs j)) := by
  obtain ⟨c, l, rfl, hc, hs, hl⟩ := right_sk h
  simp only [ar0] at hj
  have h1 : sk (j + (ar c - j)) l = some [] := by rw [show j + (ar c - j) = ar c by omega]; exact hs
  rw [sk_add] at h1
  have hd : (c :: l).drop 1 = l := rfl
  cases hr : sk j l with
  | none => rw [hr] at h1; simp at h1
  | some r =>
    have := sk_at (xs := c :: l) (i := 1) (j := j) (r := r) (by simp) (by rw [hd]; exact hr)
    obtain ⟨k1, k2⟩ := this
    have e : afterI (c :: l) 1 j = (c :: l).length - r.length := by unfold afterI; rw [hd, hr]
    have e2 : aN (c :: l) j = (c :: l).length - r.length := by unfold aN; rw [e]; omega
    refine ⟨by rw [e, e2]; simp at k1 ⊢; omega, by rw [e2]; simp at k1 ⊢; omega, by rw [e2]; omega, ?_⟩
    rw [hd, hr, e2, k2]
theorem right_next {xs : List Cel} (h : rightB xs = true) {j : Nat} (hj : j < ar0 xs) : aN xs j < aN xs (j + 1) ∧ endI xs (aN xs j) = aN xs (j + 1) := by
  obtain ⟨a1, a2, a3, a4⟩ := right_after h (Nat.le_of_lt hj)
  obtain ⟨b1, b2, b3, b4⟩ := right_after h (show j + 1 ≤ ar0 xs from hj)
  have hs : sk 1 (xs.drop (aN xs j)) = some (xs.drop (aN xs (j + 1))) := by
    rw [sk_add, a4] at b4; simpa using b4
  have := sk_pos hs
  simp at this
  refine ⟨by omega, ?_⟩
  unfold endI
  rw [hs]; simp; omega
theorem right_last {xs : List Cel} (h : rightB xs = true) : aN xs (ar0 xs) = xs.length := by
  obtain ⟨a1, a2, a3, a4⟩ := right_after h (Nat.le_refl (ar0 xs))
  obtain ⟨c, l, rfl, hc, hs, hl⟩ := right_sk h
  have : sk (ar0 (c :: l)) ((c :: l).drop 1) = some [] := hs
  rw [a4] at this
  have h2 := congrArg List.length (Option.some.inj this)
  simp at h2 a3 ⊢
  omega
theorem parts_succ (xs : List Cel) (j : Nat) : (List.range (j + 1)).map (partJ xs) = (List.range j).map (partJ xs) ++ [partJ xs j] := by
  rw [List.range_succ, List.map_append]; rfl
theorem partJ_length {xs : List Cel} (h : rightB xs = true) {j : Nat} (hj : j < ar0 xs) : (partJ xs j).length = aN xs (j + 1) - aN xs j := by
  obtain ⟨b1, b2, b3, b4⟩ := right_after h (show j + 1 ≤ ar0 xs from hj)
  have := right_next h hj
  unfold partJ; simp; omega
theorem ar_le6 {xs : List Cel} (h : rightB xs = true) : ar0 xs ≤ 6 := by
  obtain ⟨c, l, rfl, hc, _⟩ := right_sk h
  exact ar_le c hc
end Go.Proofs.Ytfcebbfphjbkoaa
namespace Go.Proofs.Ytfcebbfphjbkoaa
open Go.RowKit

/-- a term as a tree -/
inductive Tm where
  | mk (c : Cel) (args : List Tm)
def Tm.hd : Tm → Cel | .mk c _ => c
def Tm.args : Tm → List Tm | .mk _ ts => ts
mutual
def Tm.flat : Tm → List Cel
  | .mk c ts => c :: flats ts
def flats : List Tm → List Cel
  | [] => []
  | t :: ts => t.flat ++ flats ts
end
mutual
def Tm.ok : Tm → Prop
  | .mk c ts => cellOk c = true ∧ ts.length = ar c ∧ oks ts
def oks : List Tm → Prop
  | [] => True
  | t :: ts => t.ok ∧ oks ts
end
mutual
def Tm.depth : Tm → Nat
  | .mk _ ts => depths ts + 1
def depths : List Tm → Nat
  | [] => 0
  | t :: ts => max t.depth (depths ts)
end
theorem flats_append (a b : List Tm) : flats (a ++ b) = flats a ++ flats b := by
  induction a with
  | nil => simp [flats]
  | cons t a ih => simp [flats, ih]
theorem depths_append (a b : List Tm) : depths (a ++ b) = max (depths a) (depths b) := by
  induction a with
  | nil => simp [depths]
  | cons t a ih => simp [depths, ih, Nat.max_assoc]
theorem oks_append {a b : List Tm} : oks (a ++ b) ↔ oks a ∧ oks b := by
  induction a with
  | nil => simp [oks]
  | cons t a ih => simp [oks, ih, and_assoc]
theorem oks_mem {ts : List Tm} (h : oks ts) : ∀ t ∈ ts, t.ok := by
  induction ts with
  | nil => intro t ht; simp at ht
  | cons t ts ih =>
    intro u hu
    rcases List.mem_cons.1 hu with rfl | hu
    · exact h.1
    · exact ih h.2 u hu
theorem flat_cons (t : Tm) : t.flat = t.hd :: flats t.args := by cases t; rfl
theorem ok_iff (t : Tm) : t.ok ↔ cellOk t.hd = true ∧ t.args.length = ar t.hd ∧ oks t.args := by cases t; rfl
theorem depth_eq (t : Tm) : t.depth = depths t.args + 1 := by cases t; rfl
theorem flat_pos (t : Tm) : 0 < t.flat.length := by rw [flat_cons]; simp

/-- what is skipped is made of terms -/
theorem sk_parse (l : List Cel) : ∀ (m : Nat) (r : List Cel), sk m l = some r → ∃ ts : List Tm, ts.length = m ∧ oks ts ∧ l = flats ts ++ r := by
  induction l with
  | nil =>
    intro m r h
    cases m with
    | zero => simp [sk] at h; subst h; exact ⟨[], rfl, trivial, rfl⟩
    | succ m => simp [sk] at h
  | cons c l ih =>
    intro m r h
    cases m with
    | zero => simp [sk] at h; subst h; exact ⟨[], rfl, trivial, rfl⟩
    | succ m =>
      simp only [sk] at h
      split at h
      · rename_i hc
        obtain ⟨ts, hl, ho, e⟩ := ih _ _ h
        have hsplit : ts = ts.take (ar c) ++ ts.drop (ar c) := (List.take_append_drop _ _).symm
        rw [hsplit] at ho e
        rw [oks_append] at ho
        refine ⟨.mk c (ts.take (ar c)) :: ts.drop (ar c), by simp; omega, ⟨⟨hc, by simp; omega, ho.1⟩, ho.2⟩, ?_⟩
        rw [e, flats_append]
        simp [flats, Tm.flat]
      · cases h
mutual
theorem sk_flat : ∀ (t : Tm), t.ok → ∀ (m : Nat) (r : List Cel), sk (m + 1) (t.flat ++ r) = sk m r
  | .mk c ts, h, m, r => by
    obtain ⟨h1, h2, h3⟩ := h
    simp only [Tm.flat, List.cons_append, sk, h1, if_true]
    rw [← h2, Nat.add_comm, sk_flats ts h3]
theorem sk_flats : ∀ (ts : List Tm), oks ts → ∀ (m : Nat) (r : List Cel), sk (ts.length + m) (flats ts ++ r) = sk m r
  | [], _, m, r => by simp [flats]
  | t :: ts, h, m, r => by
    obtain ⟨h1, h2⟩ := h
    simp only [flats, List.append_assoc, List.length_cons]
    rw [show ts.length + 1 + m = ts.length + m + 1 by omega, sk_flat t h1, sk_flats ts h2]
end
theorem right_flat {t : Tm} (h : t.ok) (hl : t.flat.length ≤ 200) : rightB t.flat = true := by
  have h' := (ok_iff t).1 h
  rw [flat_cons] at hl ⊢
  refine right_of_sk h'.1 ?_ hl
  have := sk_flats t.args h'.2.2 0 []
  rw [List.append_nil, Nat.add_zero, h'.2.1] at this
  rw [this]; rfl
theorem right_tm {xs : List Cel} (h : rightB xs = true) : ∃ t : Tm, t.ok ∧ xs = t.flat ∧ xs.length ≤ 200 := by
  obtain ⟨c, l, rfl, hc, hs, hl⟩ := right_sk h
  obtain ⟨ts, h1, h2, h3⟩ := sk_parse l _ _ hs
  exact ⟨.mk c ts, ⟨hc, h1, h2⟩, by rw [h3]; simp [Tm.flat], hl⟩

/-- where the arguments lie -/
theorem after_flat {t : Tm} (h : t.ok) {j : Nat} (hj : j ≤ t.args.length) : afterI t.flat 1 j = 1 + (flats (t.args.take j)).length := by
  obtain ⟨_, _, h3⟩ := (ok_iff t).1 h
  have hs : t.args = t.args.take j ++ t.args.drop j := (List.take_append_drop _ _).symm
  have ho : oks (t.args.take j) := by rw [hs] at h3; exact (oks_append.1 h3).1
  have e := sk_flats (t.args.take j) ho 0 (flats (t.args.drop j))
  rw [Nat.add_zero, List.length_take, Nat.min_eq_left hj, ← flats_append, ← hs] at e
  unfold afterI
  rw [flat_cons, List.drop_one, List.tail_cons, e]
  simp only [sk, List.length_cons]
  have := congrArg List.length (congrArg flats hs)
  rw [flats_append, List.length_append] at this
  omega
theorem aN_flat {t : Tm} (h : t.ok) {j : Nat} (hj : j ≤ t.args.length) : aN t.flat j = 1 + (flats (t.args.take j)).length := by
  unfold aN; rw [after_flat h hj]; omega
theorem part_flat {t : Tm} (h : t.ok) {j : Nat} (hj : j < t.args.length) : partJ t.flat j = t.args[j].flat := by
  unfold partJ
  rw [aN_flat h (Nat.le_of_lt hj), aN_flat h hj]
  have hs : t.args = t.args.take j ++ (t.args[j] :: t.args.drop (j + 1)) := by
    rw [← List.drop_eq_getElem_cons hj, List.take_append_drop]
  have hf : flats t.args = flats (t.args.take j) ++ (t.args[j].flat ++ flats (t.args.drop (j + 1))) := by
    conv => lhs; rw [hs]
    rw [flats_append]; rfl
  have ht : flats (t.args.take (j + 1)) = flats (t.args.take j) ++ t.args[j].flat := by
    rw [List.take_succ_eq_append_getElem hj, flats_append]; simp [flats]
  rw [ht, flat_cons t, hf, Nat.add_comm 1 (flats (t.args.take j)).length, List.drop_succ_cons, List.drop_left, List.length_append]
  rw [show 1 + ((flats (t.args.take j)).length + t.args[j].flat.length) - ((flats (t.args.take j)).length + 1) = t.args[j].flat.length by omega]
  exact List.take_left
theorem ar0_flat {t : Tm} (h : t.ok) : ar0 t.flat = t.args.length := by
  rw [flat_cons]; exact ((ok_iff t).1 h).2.1.symm
theorem parts_flat {t : Tm} (h : t.ok) : partsL t.flat = t.args.map Tm.flat := by
  unfold partsL
  rw [ar0_flat h]
  refine List.ext_getElem (by simp) (fun j h1 h2 => ?_)
  simp at h1
  simp [part_flat h h1]
theorem flat_arg_lt {t : Tm} {u : Tm} (hu : u ∈ t.args) : u.flat.length < t.flat.length := by
  rw [flat_cons t]
  have : ∀ ts : List Tm, u ∈ ts → u.flat.length ≤ (flats ts).length := by
    intro ts h
    induction ts with
    | nil => simp at h
    | cons v ts ih =>
      simp only [flats, List.length_append]
      rcases List.mem_cons.1 h with e | h
      · rw [e]; omega
      · have := ih h; omega
  have := this _ hu
  simp only [List.length_cons]; omega
mutual
theorem depth_le : ∀ t : Tm, t.depth ≤ t.flat.length
  | .mk c ts => by
    have := depths_le ts
    simp only [Tm.depth, Tm.flat, List.length_cons]; omega
theorem depths_le : ∀ ts : List Tm, depths ts ≤ (flats ts).length
  | [] => by simp [depths]
  | t :: ts => by
    have h1 := depth_le t
    have h2 := depths_le ts
    simp only [depths, flats, List.length_append]; omega
end
theorem depth_pos (t : Tm) : 1 ≤ t.depth := by rw [depth_eq]; omega
end Go.Proofs.Ytfcebbfphjbkoaa
namespace Go.Proofs.Ytfcebbfphjbkoaa
open Go.RowKit

/-- cells changed one by one: the first k of them -/
def upTo (f : Cel → Cel) (xs : List Cel) (k : Nat) : List Cel := (xs.take k).map f ++ xs.drop k
theorem upTo_length (f : Cel → Cel) (xs : List Cel) (k : Nat) : (upTo f xs k).length = xs.length := by
  simp [upTo]; omega
theorem upTo_zero (f : Cel → Cel) (xs : List Cel) : upTo f xs 0 = xs := by simp [upTo]
theorem upTo_all (f : Cel → Cel) (xs : List Cel) {k : Nat} (h : xs.length ≤ k) : upTo f xs k = xs.map f := by
  simp [upTo, List.take_of_length_le h, List.drop_eq_nil_of_le h]
theorem upTo_at (f : Cel → Cel) (xs : List Cel) {k : Nat} (h : k < xs.length) : (upTo f xs k)[k]? = some xs[k] := by
  unfold upTo
  rw [List.getElem?_append_right (by simp; omega), List.length_map, List.length_take, Nat.min_eq_left (Nat.le_of_lt h), Nat.sub_self, List.getElem?_drop]
  simp
theorem upTo_succ (f : Cel → Cel) (xs : List Cel) {k : Nat} (h : k < xs.length) : upTo f xs (k + 1) = (upTo f xs k).set k (f xs[k]) := by
  unfold upTo
  rw [List.take_succ_eq_append_getElem h, List.map_append, List.drop_eq_getElem_cons h, List.append_assoc]
  rw [List.set_append_right _ _ (by simp; omega), List.length_map, List.length_take, Nat.min_eq_left (Nat.le_of_lt h), Nat.sub_self]
  rfl
theorem upTo_same (f : Cel → Cel) (xs : List Cel) {k : Nat} (h : k < xs.length) (e : f xs[k] = xs[k]) : upTo f xs (k + 1) = upTo f xs k := by
  rw [upTo_succ f xs h, e]
  refine List.ext_getElem? fun i => ?_
  rw [List.getElem?_set]
  split
  · rename_i hi
    subst hi
    rw [if_pos (by rw [upTo_length]; exact h), upTo_at f xs h]
  · rfl
theorem flat_set (xs : List Cel) (i : Nat) (hi : i < xs.length) (m : Int) : (flat xs).set (i * 3 + 2) (.int .i64 m) = flat (xs.set i { xs[i] with n := m }) := by
  induction xs generalizing i with
  | nil => simp at hi
  | cons c xs ih =>
    cases i with
    | zero => simp [flat]
    | succ i =>
      have := ih i (by simpa using hi)
      have hf : flat (c :: xs) = .int .i64 c.k :: .string c.s :: .int .i64 c.n :: flat xs := rfl
      rw [hf, show (i + 1) * 3 + 2 = i * 3 + 2 + 1 + 1 + 1 by omega]
      simp only [List.set_cons_succ, List.getElem_cons_succ]
      rw [this]; rfl
theorem wrap64_range (n : Int) : -9223372036854775808 ≤ wrap64 n ∧ wrap64 n ≤ 9223372036854775807 := by
  unfold wrap64; omega
/-- one variable shifted -/
def shiftC (d : Int) (c : Cel) : Cel := if c.k = 1 then { c with n := wrap64 (c.n + d) } else c
def shiftL (xs : List Cel) (d : Int) : List Cel := if rightB (xs.map (shiftC d)) then xs.map (shiftC d) else []
theorem shiftC_fit {d : Int} {c : Cel} (h : c.fit) : (shiftC d c).fit := by
  unfold shiftC
  have hw := wrap64_range (c.n + d)
  split
  · exact ⟨h.k1, h.k2, hw.1, hw.2, h.s⟩
  · exact h
theorem upTo_fit {f : Cel → Cel} {xs : List Cel} {k : Nat} (hf : ∀ c ∈ xs, c.fit) (h : ∀ c : Cel, c.fit → (f c).fit) : ∀ c ∈ upTo f xs k, c.fit := by
  intro c hc
  unfold upTo at hc
  rcases List.mem_append.1 hc with h1 | h1
  · obtain ⟨d, hd, rfl⟩ := List.mem_map.1 h1
    exact h d (hf d (List.mem_of_mem_take hd))
  · exact hf c (List.mem_of_mem_drop h1)
/-- a row of the call's own that holds something -/
theorem own_form {w : World} {B e size : Nat} {v : Value} {n : Nat} {vs : List Value} (h : w.ownsRow B e size v n vs) (hn : 0 < n) :
    ∃ g cap, v = .slice (some ⟨g, 0, none⟩) n cap ∧ B ≤ g ∧ g < w.heap.size ∧ n ≤ cap ∧ cap ≤ 9223372036854775807 := by
  rcases h.2 with ⟨_, h0⟩ | ⟨g, cap, cur, rfl, hb, hg, hc, hm, _⟩
  · omega
  · exact ⟨g, cap, rfl, hb, (Array.getElem?_eq_some_iff.1 hg).1, hc, by unfold maxLen at hm; omega⟩
theorem own_cel {w : World} {B e g n cap : Nat} {ys : List Cel} (h : w.ownsRow B e 3 (.slice (some ⟨g, 0, none⟩) n cap) n (flat ys)) {k : Nat} {c : Cel} (hc : ys[k]? = some c) :
    w.cell? ⟨g, k * 3, none⟩ = some (.int .i64 c.k) ∧ w.cell? ⟨g, k * 3 + 1, none⟩ = some (.string c.s) ∧ w.cell? ⟨g, k * 3 + 2, none⟩ = some (.int .i64 c.n) := by
  have hl : k < ys.length := (List.getElem?_eq_some_iff.1 hc).1
  have he : ys[k] = c := by rw [List.getElem?_eq_getElem hl] at hc; exact Option.some.inj hc
  obtain ⟨f0, f1, f2⟩ := flat_at ys k hl
  rw [he] at f0 f1 f2
  exact ⟨own_cells h _ _ f0, own_cells h _ _ f1, own_cells h _ _ f2⟩
/-- one number stored into a row of cells -/
theorem own_store {w : World} {B e g n cap : Nat} {f : Cel → Cel} {xs : List Cel} {k : Nat} (h : w.ownsRow B e 3 (.slice (some ⟨g, 0, none⟩) n cap) n (flat (upTo f xs k))) (hk : k < xs.length) {m : Int} (hf : f xs[k] = ⟨xs[k].k, xs[k].s, m⟩) :
    (w.setCell ⟨g, k * 3 + 2, none⟩ (.int .i64 m)).ownsRow B e 3 (.slice (some ⟨g, 0, none⟩) n cap) n (flat (upTo f xs (k + 1))) := by
  have := (h.stored (k * 3 + 2) (.int .i64 m)).1
  have hl : k < (upTo f xs k).length := by rw [upTo_length]; exact hk
  have he : (upTo f xs k)[k] = xs[k] := by
    have := upTo_at f xs hk; rw [List.getElem?_eq_getElem hl] at this; exact Option.some.inj this
  rw [flat_set _ _ hl, he] at this
  have hf' : f xs[k] = { xs[k] with n := m } := hf
  rw [← hf', ← upTo_succ f xs hk] at this
  exact this
theorem own_free {w : World} {B e size g n cap : Nat} {vs : List Value} (h : w.ownsRow B e size (.slice (some ⟨g, 0, none⟩) n cap) n vs) (j : Nat) : w.frozen? ⟨g, j, none⟩ = false := h.frozenAt j
end Go.Proofs.Ytfcebbfphjbkoaa
namespace Go.Proofs.Ytfcebbfphjbkoaa
open Go.RowKit

mutual
/-- a tree with its cells changed -/
def mapT (f : Cel → Cel) : Tm → Tm
  | .mk c ts => .mk (f c) (mapTs f ts)
def mapTs (f : Cel → Cel) : List Tm → List Tm
  | [] => []
  | t :: ts => mapT f t :: mapTs f ts
end
mutual
theorem mapT_flat (f : Cel → Cel) : ∀ t : Tm, (mapT f t).flat = t.flat.map f
  | .mk c ts => by simp only [mapT, Tm.flat, List.map_cons]; rw [mapTs_flat f ts]
theorem mapTs_flat (f : Cel → Cel) : ∀ ts : List Tm, flats (mapTs f ts) = (flats ts).map f
  | [] => rfl
  | t :: ts => by simp only [mapTs, flats, List.map_append]; rw [mapT_flat f t, mapTs_flat f ts]
end
theorem mapTs_length (f : Cel → Cel) (ts : List Tm) : (mapTs f ts).length = ts.length := by
  induction ts with
  | nil => rfl
  | cons t ts ih => simp [mapTs, ih]
mutual
theorem mapT_depth (f : Cel → Cel) : ∀ t : Tm, (mapT f t).depth = t.depth
  | .mk c ts => by simp only [mapT, Tm.depth]; rw [mapTs_depth f ts]
theorem mapTs_depth (f : Cel → Cel) : ∀ ts : List Tm, depths (mapTs f ts) = depths ts
  | [] => rfl
  | t :: ts => by simp only [mapTs, depths]; rw [mapT_depth f t, mapTs_depth f ts]
end
mutual
theorem mapT_ok (f : Cel → Cel) : ∀ t : Tm, t.ok → (∀ c ∈ t.flat, cellOk (f c) = true ∧ ar (f c) = ar c) → (mapT f t).ok
  | .mk c ts, h, hf => by
    obtain ⟨h1, h2, h3⟩ := h
    have hc := hf c (by simp [Tm.flat])
    exact ⟨hc.1, by rw [mapTs_length, h2, hc.2], mapTs_ok f ts h3 (fun d hd => hf d (by simp only [Tm.flat]; exact List.mem_cons_of_mem _ hd))⟩
theorem mapTs_ok (f : Cel → Cel) : ∀ ts : List Tm, oks ts → (∀ c ∈ flats ts, cellOk (f c) = true ∧ ar (f c) = ar c) → oks (mapTs f ts)
  | [], _, _ => trivial
  | t :: ts, h, hf => ⟨mapT_ok f t h.1 (fun c hc => hf c (by simp only [flats]; exact List.mem_append_left _ hc)), mapTs_ok f ts h.2 (fun c hc => hf c (by simp only [flats]; exact List.mem_append_right _ hc))⟩
end
mutual
theorem ok_cells : ∀ t : Tm, t.ok → ∀ c ∈ t.flat, cellOk c = true
  | .mk c ts, h, d, hd => by
    simp only [Tm.flat, List.mem_cons] at hd
    rcases hd with rfl | hd
    · exact h.1
    · exact oks_cells ts h.2.2 d hd
theorem oks_cells : ∀ ts : List Tm, oks ts → ∀ c ∈ flats ts, cellOk c = true
  | [], _, d, hd => by simp [flats] at hd
  | t :: ts, h, d, hd => by
    simp only [flats, List.mem_append] at hd
    rcases hd with hd | hd
    · exact ok_cells t h.1 d hd
    · exact oks_cells ts h.2 d hd
end
theorem right_cells {xs : List Cel} (h : rightB xs = true) : ∀ c ∈ xs, cellOk c = true := by
  obtain ⟨t, ht, rfl, _⟩ := right_tm h
  exact ok_cells t ht
theorem var_range {c : Cel} (h : cellOk c = true) (h1 : c.k = 1) : 0 ≤ c.n ∧ c.n ≤ 999 := by
  simp [cellOk, h1] at h; omega

/-- the variables of a term, shifted -/
def shiftI (d : Int) (c : Cel) : Cel := if c.k = 1 then ⟨c.k, c.s, c.n + d⟩ else c
theorem shiftC_eq {d : Int} (hd : -100000 ≤ d ∧ d ≤ 100000) {c : Cel} (h : c.k = 1 → -100000 ≤ c.n ∧ c.n ≤ 100000) : shiftC d c = shiftI d c := by
  unfold shiftC shiftI
  by_cases h1 : c.k = 1
  · have := h h1
    rw [if_pos h1, if_pos h1, IntWalk.wrap64_in _ (by constructor <;> omega)]
  · rw [if_neg h1, if_neg h1]
theorem map_shift {xs : List Cel} {d : Int} (hd : -100000 ≤ d ∧ d ≤ 100000) (h : ∀ c ∈ xs, c.k = 1 → -100000 ≤ c.n ∧ c.n ≤ 100000) : xs.map (shiftC d) = xs.map (shiftI d) :=
  List.map_congr_left (fun c hc => shiftC_eq hd (h c hc))
theorem varsGo_shift (d : Int) (xs : List Cel) : ∀ acc : List Int, varsGo (acc.map (· + d)) (xs.map (shiftI d)) = (varsGo acc xs).map (· + d) := by
  induction xs with
  | nil => intro acc; rfl
  | cons c xs ih =>
    intro acc
    simp only [List.map_cons, varsGo]
    have hk : (shiftI d c).k = c.k := by unfold shiftI; split <;> rfl
    have hm : ∀ n : Int, n + d ∈ acc.map (· + d) ↔ n ∈ acc := by
      intro n
      rw [List.mem_map]
      constructor
      · rintro ⟨m, hm, e⟩
        have : m = n := by omega
        rw [← this]; exact hm
      · intro h; exact ⟨n, h, rfl⟩
    by_cases h1 : c.k = 1
    · have hn : (shiftI d c).n = c.n + d := by unfold shiftI; rw [if_pos h1]
      by_cases h2 : c.n ∈ acc
      · rw [if_neg (by rw [hk, hn]; simp only [hm]; exact fun h => h.2 h2), if_neg (fun h => h.2 h2)]
        exact ih acc
      · rw [if_pos (by rw [hk, hn]; simp only [hm]; exact ⟨h1, h2⟩), if_pos ⟨h1, h2⟩, hn]
        have := ih (acc ++ [c.n])
        rw [List.map_append] at this
        exact this
    · rw [if_neg (by rw [hk]; exact fun h => h1 h.1), if_neg (fun h => h1 h.1)]
      exact ih acc
theorem vars_shift {xs : List Cel} (d : Int) : varsL (xs.map (shiftI d)) = (varsL xs).map (· + d) := varsGo_shift d xs []
theorem mem_vars_of (xs : List Cel) : ∀ (acc : List Int) (n : Int), n ∈ varsGo acc xs → n ∈ acc ∨ ∃ c ∈ xs, c.k = 1 ∧ c.n = n := by
  induction xs with
  | nil => intro acc n h; exact .inl h
  | cons c xs ih =>
    intro acc n h
    simp only [varsGo] at h
    rcases ih _ _ h with h | ⟨e, he, h1, h2⟩
    · split at h
      · rename_i hc
        rcases List.mem_append.1 h with h | h
        · exact .inl h
        · simp at h; exact .inr ⟨c, List.mem_cons_self, hc.1, h.symm⟩
      · exact .inl h
    · exact .inr ⟨e, List.mem_cons_of_mem _ he, h1, h2⟩
theorem vars_range {xs : List Cel} (h : rightB xs = true) : ∀ n ∈ varsL xs, 0 ≤ n ∧ n ≤ 999 := by
  intro n hn
  rcases mem_vars_of xs [] n hn with h' | ⟨c, hc, h1, rfl⟩
  · simp at h'
  · exact var_range (right_cells h c hc) h1
theorem shift_ok {c : Cel} {d : Int} (h : cellOk c = true) (hr : c.k = 1 → 0 ≤ c.n + d ∧ c.n + d ≤ 999) : cellOk (shiftI d c) = true ∧ ar (shiftI d c) = ar c := by
  unfold shiftI
  by_cases h1 : c.k = 1
  · rw [if_pos h1]
    have := hr h1
    refine ⟨?_, by simp [ar, h1]⟩
    simp [cellOk, h1] at h ⊢
    exact ⟨⟨h.1.1, this.1⟩, this.2⟩
  · rw [if_neg h1]; exact ⟨h, rfl⟩
theorem mem_varsL {xs : List Cel} {c : Cel} (hc : c ∈ xs) (h1 : c.k = 1) : c.n ∈ varsL xs := by
  have : ∀ (xs : List Cel) (acc : List Int), c ∈ xs → c.n ∈ varsGo acc xs := by
    intro xs
    induction xs with
    | nil => intro acc h; simp at h
    | cons e l ih =>
      intro acc h
      rcases List.mem_cons.1 h with rfl | h
      · simp only [varsGo]
        have sub : ∀ (l : List Cel) (acc : List Int) (n : Int), n ∈ acc → n ∈ varsGo acc l := by
          intro l
          induction l with
          | nil => intro acc n h; exact h
          | cons f l ih => intro acc n h; refine ih _ _ ?_; split; exact List.mem_append_left _ h; exact h
        refine sub _ _ _ ?_
        by_cases h2 : c.n ∈ acc
        · rw [if_neg (fun h => h.2 h2)]; exact h2
        · rw [if_pos ⟨h1, h2⟩]; simp
      · exact ih _ h
  exact this xs [] hc
theorem small_vars {xs : List Cel} (h : rightB xs = true) : ∀ c ∈ xs, c.k = 1 → -100000 ≤ c.n ∧ c.n ≤ 100000 := fun c hc h1 => by
  have := var_range (right_cells h c hc) h1; omega

/-- all variables stay within the limits -/
def stays (vs : List Int) (d : Int) : Bool := vs.all fun n => decide (0 ≤ n + d) && decide (n + d ≤ 999)
theorem shift_stays {t : Tm} (ht : t.ok) (h200 : t.flat.length ≤ 200) {d : Int} (hd : -100000 ≤ d ∧ d ≤ 100000) (h : stays (varsL t.flat) d = true) :
    shiftL t.flat d = (mapT (shiftI d) t).flat ∧ (mapT (shiftI d) t).ok ∧ (mapT (shiftI d) t).flat.length = t.flat.length := by
  have hR := right_flat ht h200
  have hok : (mapT (shiftI d) t).ok := mapT_ok _ t ht (fun c hc => shift_ok (ok_cells t ht c hc) (fun h1 => by
    have := List.all_eq_true.1 h c.n (mem_varsL hc h1)
    simpa using this))
  have hl : (mapT (shiftI d) t).flat.length = t.flat.length := by rw [mapT_flat, List.length_map]
  refine ⟨?_, hok, hl⟩
  unfold shiftL
  rw [map_shift hd (small_vars hR), ← mapT_flat, if_pos (right_flat hok (by omega))]
theorem shift_leaves {t : Tm} (ht : t.ok) (h200 : t.flat.length ≤ 200) {d : Int} (hd : -100000 ≤ d ∧ d ≤ 100000) (h : stays (varsL t.flat) d = false) : shiftL t.flat d = [] := by
  have hR := right_flat ht h200
  unfold shiftL
  rw [map_shift hd (small_vars hR), if_neg]
  intro hr
  obtain ⟨n, hn, hb⟩ := List.all_eq_false.1 h
  rcases mem_vars_of t.flat [] n hn with h' | ⟨c, hc, h1, rfl⟩
  · simp at h'
  · have h2 := right_cells hr (shiftI d c) (List.mem_map_of_mem hc)
    have h3 : (shiftI d c).k = 1 := by unfold shiftI; rw [if_pos h1]; exact h1
    have h4 := var_range h2 h3
    have h5 : (shiftI d c).n = c.n + d := by unfold shiftI; rw [if_pos h1]
    rw [h5] at h4
    exact hb (by simp; exact h4)
theorem shift_back {t : Tm} (ht : t.ok) (h200 : t.flat.length ≤ 200) {d : Int} (hd : -100000 ≤ d ∧ d ≤ 99000) (hd2 : -99000 ≤ d) (h : stays (varsL t.flat) d = true) : shiftL (mapT (shiftI d) t).flat (-d) = t.flat := by
  obtain ⟨_, hok, hl⟩ := shift_stays ht h200 ⟨hd.1, by omega⟩ h
  have hR := right_flat ht h200
  have hR2 := right_flat hok (by omega)
  have e : (mapT (shiftI d) t).flat.map (shiftC (-d)) = t.flat := by
    rw [map_shift ⟨by omega, by omega⟩ (small_vars hR2), mapT_flat, List.map_map]
    have : ∀ c ∈ t.flat, (shiftI (-d) ∘ shiftI d) c = c := by
      intro c _
      show shiftI (-d) (shiftI d c) = c
      unfold shiftI
      by_cases h1 : c.k = 1
      · rw [if_pos h1, if_pos h1]
        exact (Cel.eq_iff _ _).2 ⟨rfl, rfl, by show c.n + d + -d = c.n; omega⟩
      · rw [if_neg h1, if_neg h1]
    exact (List.map_congr_left this).trans (List.map_id _)
  unfold shiftL
  rw [e, if_pos hR]
theorem shift_zero {t : Tm} (ht : t.ok) (h200 : t.flat.length ≤ 200) : shiftL t.flat 0 = t.flat := by
  have hR := right_flat ht h200
  have e : t.flat.map (shiftC 0) = t.flat := by
    rw [map_shift ⟨by omega, by omega⟩ (small_vars hR)]
    have : ∀ c ∈ t.flat, shiftI 0 c = c := by
      intro c _
      unfold shiftI
      by_cases h1 : c.k = 1
      · rw [if_pos h1]
        exact (Cel.eq_iff _ _).2 ⟨rfl, rfl, by show c.n + 0 = c.n; omega⟩
      · rw [if_neg h1]
    exact (List.map_congr_left this).trans (List.map_id _)
  unfold shiftL
  rw [e, if_pos hR]
end Go.Proofs.Ytfcebbfphjbkoaa
