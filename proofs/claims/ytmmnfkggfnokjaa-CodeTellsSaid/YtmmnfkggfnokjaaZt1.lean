import Derived.Test.YtmmnfkggfnokjaaRows
import Derived.WalkKit
import Derived.Below
import Derived.BigQuiet
import Derived.WalkSpells
import Derived.Laws.AppendOwnNone
namespace Go.RowKit
/-- chains of Below -/
theorem Below.then {a b c : World} (h : Below a.heap.size a b) (k : Below b.heap.size b c) : Below a.heap.size a c :=
  h.trans (k.mono h.size)
theorem Below.new {a b : World} (h : Below a.heap.size a b) (o : Obj) : Below a.heap.size a (b.alloc o) := h.alloc h.size o
end Go.RowKit
namespace Go.Proofs.Ytmmnfkggfnokjaa
open Go.RowKit
theorem mkHid {p : Prop} (h : p) : Hid p := h
theorem ret_bool {a b : Bool} (h : a = b) : Ending.returned (.bool a) = .returned (.bool b) := by rw [h]
theorem ret_int {k : IntKind} {a b : Int} (h : a = b) : Ending.returned (.int k a) = .returned (.int k b) := by rw [h]
theorem cell_lt {w : World} {b o : Nat} {v : Value} (h : w.cell? ⟨b, o, none⟩ = some v) : b < w.heap.size :=
  World.block_lt_of_cell? w ⟨b, o, none⟩ h
/-- a cell that was there reads as it did -/
theorem keep {w w' : World} {b o : Nat} {v : Value} (h : w.cell? ⟨b, o, none⟩ = some v) (hb : Below w.heap.size w w') : w'.cell? ⟨b, o, none⟩ = some v :=
  (hb.cell (p := ⟨b, o, none⟩) (cell_lt h)).trans h
/-- all cells that could be read read as they did -/
def Keeps (w w' : World) : Prop := ∀ b o v, w.cell? ⟨b, o, none⟩ = some v → w'.cell? ⟨b, o, none⟩ = some v
theorem Keeps.of {w w' : World} (h : Below w.heap.size w w') : Keeps w w' := fun _ _ _ hc => keep hc h
theorem Keeps.refl (w : World) : Keeps w w := fun _ _ _ h => h
theorem Keeps.trans {a b c : World} (h : Keeps a b) (k : Keeps b c) : Keeps a c := fun _ _ _ hc => k _ _ _ (h _ _ _ hc)
/-- the world without one block -/
def hide (r : Option Nat) (w : World) : World := match r with
  | none => w
  | some g => { w with heap := w.heap.setIfInBounds g (.cells #[] 0) }
theorem hide_heap (g : Nat) (w : World) (b : Nat) (h : b ≠ g) : (hide (some g) w).heap[b]? = w.heap[b]? := by
  simp [hide, Ne.symm h]
theorem hide_cell {g : Nat} {w : World} {b o : Nat} {v : Value} (h : (hide (some g) w).cell? ⟨b, o, none⟩ = some v) : b ≠ g ∧ w.cell? ⟨b, o, none⟩ = some v := by
  by_cases hb : b = g
  · subst hb
    simp only [World.cell?, hide, Array.getElem?_setIfInBounds] at h
    by_cases hs : b < w.heap.size <;> simp [hs] at h
  · refine ⟨hb, ?_⟩
    rwa [World.cell?, hide_heap g w b hb] at h
theorem hide_keeps (r : Option Nat) (w : World) : Keeps (hide r w) w := by
  cases r with
  | none => exact Keeps.refl _
  | some g => exact fun b o v h => (hide_cell h).2
theorem hide_of_ne {g : Nat} {w : World} {b o : Nat} {v : Value} (hb : b ≠ g) (h : w.cell? ⟨b, o, none⟩ = some v) : (hide (some g) w).cell? ⟨b, o, none⟩ = some v := by
  rwa [World.cell?, hide_heap g w b hb]
theorem grown_keeps {w w' : World} {r : Option Nat} (h : w.grownBy w' r) : Keeps (hide r w) (hide r w') := by
  intro b o v hc
  cases r with
  | none => exact (World.cell?_of_block (w := w) (a := ⟨b, o, none⟩) (h.block b (cell_lt hc) (by simp))).trans hc
  | some g =>
    obtain ⟨hb, hc'⟩ := hide_cell hc
    exact hide_of_ne hb ((World.cell?_of_block (w := w) (a := ⟨b, o, none⟩) (h.block b (cell_lt hc') (by simp; exact hb))).trans hc')
/-- what was there before a block was made is read without it -/
theorem fresh_keeps {w w' : World} {g : Nat} (h : Keeps w w') (hg : w.heap.size ≤ g) : Keeps w (hide (some g) w') := by
  intro b o v hc
  have := cell_lt hc
  exact hide_of_ne (by omega) (h _ _ _ hc)
/-- data of a kind, laid at a place of memory -/
class Rep (α : Type) where
  sz : Nat
  E : World → Nat → Nat → α → Prop
  mono : ∀ {w w' : World} {b o : Nat} {x : α}, E w b o x → Keeps w w' → E w' b o x
  lt : ∀ {w : World} {b o : Nat} {x : α}, E w b o x → b < w.heap.size

/-- a slice reads as a list -/
structure Row {α : Type} [Rep α] (w : World) (a : Option Addr) (cap : Nat) (xs : List α) : Prop where
  le : xs.length ≤ cap
  max : cap ≤ 9223372036854775807
  nil : a = none → cap = 0
  at_ : ∀ i x, xs[i]? = some x → ∃ b off, a = some ⟨b, off, none⟩ ∧ Rep.E w b (off + i * Rep.sz α) x
section
variable {α : Type} [Rep α]
theorem Row.keeps {w w' : World} {a : Option Addr} {cap : Nat} {xs : List α} (h : Row w a cap xs) (hb : Keeps w w') : Row w' a cap xs :=
  ⟨h.le, h.max, h.nil, fun i c hi => let ⟨b, off, e, hc⟩ := h.at_ i c hi; ⟨b, off, e, Rep.mono hc hb⟩⟩
theorem Row.below {w w' : World} {a : Option Addr} {cap : Nat} {xs : List α} (h : Row w a cap xs) (hb : Below w.heap.size w w') : Row w' a cap xs :=
  h.keeps (Keeps.of hb)
/-- empty, or at a block -/
theorem Row.cases {w : World} {a : Option Addr} {cap : Nat} {xs : List α} (h : Row w a cap xs) :
    xs = [] ∨ ∃ b off, a = some ⟨b, off, none⟩ ∧ b < w.heap.size ∧ ∀ i (hi : i < xs.length), Rep.E w b (off + i * Rep.sz α) xs[i] := by
  by_cases hx : xs = []
  · exact .inl hx
  · right
    have h0 : 0 < xs.length := List.length_pos_iff.2 hx
    obtain ⟨b, off, e, hc⟩ := h.at_ 0 xs[0] (List.getElem?_eq_getElem h0)
    refine ⟨b, off, e, Rep.lt hc, fun i hi => ?_⟩
    obtain ⟨b', off', e', hc'⟩ := h.at_ i xs[i] (List.getElem?_eq_getElem hi)
    rw [e] at e'
    simp at e'
    obtain ⟨rfl, rfl⟩ := e'
    exact hc'
theorem Row.empty (w : World) (a : Option Addr) (cap : Nat) (h : cap ≤ 9223372036854775807) (hn : a = none → cap = 0) : Row w a cap ([] : List α) :=
  ⟨Nat.zero_le _, h, hn, fun i x hi => by simp at hi⟩
end
structure IntE (w : World) (b o : Nat) (n : Int) : Prop where
  c : w.cell? ⟨b, o, none⟩ = some (.int .i64 n)
  lo : -9223372036854775808 ≤ n
  hi : n ≤ 9223372036854775807
instance : Rep Int where
  sz := 1
  E := IntE
  mono h hb := ⟨hb _ _ _ h.c, h.lo, h.hi⟩
  lt h := cell_lt h.c
structure StrE (w : World) (b o : Nat) (s : ByteArray) : Prop where
  c : w.cell? ⟨b, o, none⟩ = some (.string s)
  hi : s.size ≤ 9223372036854775807
instance : Rep ByteArray where
  sz := 1
  E := StrE
  mono h hb := ⟨hb _ _ _ h.c, h.hi⟩
  lt h := cell_lt h.c
structure BoolE (w : World) (b o : Nat) (s : Bool) : Prop where
  c : w.cell? ⟨b, o, none⟩ = some (.bool s)
instance : Rep Bool where
  sz := 1
  E := BoolE
  mono h hb := ⟨hb _ _ _ h.c⟩
  lt h := cell_lt h.c
structure ListE {α : Type} [Rep α] (w : World) (b o : Nat) (xs : List α) : Prop where
  ex : ∃ a cap, w.cell? ⟨b, o, none⟩ = some (.slice a xs.length cap) ∧ Row w a cap xs
instance {α : Type} [Rep α] : Rep (List α) where
  sz := 1
  E := ListE
  mono h hb := let ⟨a, cap, hc, hr⟩ := h.ex; ⟨a, cap, hb _ _ _ hc, hr.keeps hb⟩
  lt h := let ⟨_, _, hc, _⟩ := h.ex; cell_lt hc
/-- a cell of a term -/
structure Cel where
  k : Int
  s : ByteArray
  n : Int
  deriving DecidableEq
abbrev Cel.v (c : Cel) : Value := .agg #[.int .i64 c.k, .string c.s, .int .i64 c.n]
structure Cel.fit (c : Cel) : Prop where
  k1 : -9223372036854775808 ≤ c.k
  k2 : c.k ≤ 9223372036854775807
  n1 : -9223372036854775808 ≤ c.n
  n2 : c.n ≤ 9223372036854775807
  s : c.s.size ≤ 9223372036854775807
structure CelAt (w : World) (b o : Nat) (c : Cel) : Prop where
  c0 : w.cell? ⟨b, o, none⟩ = some (.int .i64 c.k)
  c1 : w.cell? ⟨b, o + 1, none⟩ = some (.string c.s)
  c2 : w.cell? ⟨b, o + 2, none⟩ = some (.int .i64 c.n)
  fit : c.fit
theorem CelAt.keeps {w w' : World} {b o : Nat} {c : Cel} (h : CelAt w b o c) (hb : Keeps w w') : CelAt w' b o c :=
  ⟨hb _ _ _ h.c0, hb _ _ _ h.c1, hb _ _ _ h.c2, h.fit⟩
theorem CelAt.below {w w' : World} {b o : Nat} {c : Cel} (h : CelAt w b o c) (hb : Below w.heap.size w w') : CelAt w' b o c := h.keeps (Keeps.of hb)
instance : Rep Cel where
  sz := 3
  E := CelAt
  mono := CelAt.keeps
  lt h := cell_lt h.c0
theorem Row.fit {w : World} {a : Option Addr} {cap : Nat} {xs : List Cel} (h : Row w a cap xs) : ∀ c ∈ xs, c.fit := by
  intro c hc
  obtain ⟨i, hi, rfl⟩ := List.getElem_of_mem hc
  obtain ⟨b, off, _, he⟩ := h.at_ i xs[i] (List.getElem?_eq_getElem hi)
  exact CelAt.fit he
/-- a slice of cells at a block -/
theorem cel_at {w wr : World} {b off : Nat} {xs : List Cel} (hat : ∀ i (hi : i < xs.length), Rep.E w b (off + i * Rep.sz Cel) xs[i]) (hb : Below w.heap.size w wr) {k : Nat} (hk : k < xs.length) : CelAt wr b (off + k * 3) xs[k] :=
  CelAt.below (hat k hk) hb
theorem int_at {w wr : World} {b off : Nat} {xs : List Int} (hat : ∀ i (hi : i < xs.length), Rep.E w b (off + i * Rep.sz Int) xs[i]) (hb : Below w.heap.size w wr) {k : Nat} (hk : k < xs.length) : IntE wr b (off + k) xs[k] := by
  have h : IntE w b (off + k * 1) xs[k] := hat k hk
  rw [Nat.mul_one] at h
  exact ⟨keep h.c hb, h.lo, h.hi⟩
theorem Cel.eq_iff (x y : Cel) : x = y ↔ x.k = y.k ∧ x.s = y.s ∧ x.n = y.n := by
  cases x; cases y; simp
theorem toList_inj (a b : ByteArray) : (a.toList = b.toList) ↔ a = b := by
  rw [ByteArray.toList_eq, ByteArray.toList_eq]
  constructor
  · intro e
    cases a; cases b
    simp at e
    rw [e]
  · intro e; rw [e]
theorem take_eq_snoc {α : Type} {xs ys : List α} {k : Nat} (h : xs.take k = ys.take k) (hx : k < xs.length) (hy : k < ys.length) (e : xs[k] = ys[k]) : xs.take (k + 1) = ys.take (k + 1) := by
  rw [List.take_succ_eq_append_getElem hx, List.take_succ_eq_append_getElem hy, h, e]
theorem take_all {α : Type} {xs ys : List α} {k : Nat} (h : xs.take k = ys.take k) (hx : xs.length ≤ k) (hy : ys.length ≤ k) : xs = ys := by
  rwa [List.take_of_length_le hx, List.take_of_length_le hy] at h
/-! ### rows that a call makes and appends to -/
/-- the source of an append -/
structure Src (w : World) (size : Nat) (sa : Option Addr) (m c : Nat) (news : List Value) : Prop where
  len : news.length = m * size
  nil : sa = none → m = 0 ∧ c = 0
  cells : ∀ ad, sa = some ad → ∀ j u, news[j]? = some u → w.cell? (ad.add j) = some u
  one : ∀ u ∈ news, u.oneCell' = true
theorem grown_below {w w' : World} {B e size : Nat} {v : Value} {n : Nat} {xs : List Value} (hg : w.grownBy w' v.ownBlock) (hown : w.ownsRow B e size v n xs) (hB : B ≤ w.heap.size) : Below B w w' :=
  (Below.refl B w).grown hg hB (fun k hk => (hown.lt k hk).1)
theorem wpList_app {P : Program} {w : World} {ops : Array Oper} {rest : List Oper} {o : Oper} {a : Act} {Q : Exit → Act → World → Prop} (hgd : o.guard = none) (s x : Operand) (t : TypeId)
    (ho : o.op = .call { callee := .builtin .append, args := #[s, x], argTypes := #[t, t] })
    (B e size bytes : Nat) (z : Value) (ht : P.underlying t = some (.slice e)) (hinfo : (P.info? e).map (fun i => (i.zero, i.size, i.bytes)) = some (some z, size, bytes))
    (hzs : z.cells.size = size) (hsz : 0 < size) (hby : bytes ≤ 1000)
    (v : Value) (n : Nat) (xs : List Value) (hs : a.eval s = v) (hown : w.ownsRow B e size v n xs)
    (sa : Option Addr) (m c : Nat) (news : List Value) (hx : a.eval x = .slice sa m c) (hsrc : Src w size sa m c news)
    (hmax : n + m ≤ 1000000000) (hB : B ≤ w.heap.size)
    (h : ∀ v' w', w'.ownsRow B e size v' (n + m) (xs ++ news) → w.grownBy w' v.ownBlock → Below B w w' → wpList P ops Q rest (a.put o.dst v') w') : wpList P ops Q (o :: rest) a w := by
  obtain ⟨i, hi, hz0, hz1, hz2⟩ := info_parts hinfo
  have hb : (n + m) * bytes ≤ 140737488355328 := Nat.le_trans (Nat.mul_le_mul hmax hby) (by decide)
  cases sa with
  | none =>
    obtain ⟨rfl, rfl⟩ := hsrc.nil rfl
    have hn : news = [] := List.eq_nil_of_length_eq_zero (by have := hsrc.len; simpa using this)
    subst hn
    refine wpList_append_own_none hgd s x t ho B e i size ht hi v n xs hs hown hx ?_
    exact h v w (by simpa using hown) ⟨rfl, rfl, rfl, Nat.le_refl _, fun _ _ _ => rfl⟩ (Below.refl _ _)
  | some ad =>
    refine wpList_append_own w hgd s x t ho B e i z size bytes ht hi hz0 hz1 hz2 hzs hsz v n xs hs hown ad m c news hx hsrc.len (hsrc.cells ad rfl) hsrc.one (by unfold maxLen; omega) hb hB ?_
    intro v' w' h1 h2 _
    exact h v' w' h1 h2 (grown_below h2 hown hB)
/-- the cells of a row of cells of terms -/
def flat (xs : List Cel) : List Value := xs.flatMap fun c => [.int .i64 c.k, .string c.s, .int .i64 c.n]
theorem flat_length (xs : List Cel) : (flat xs).length = xs.length * 3 := by
  induction xs with
  | nil => rfl
  | cons c xs ih => simp only [flat, List.flatMap_cons, List.length_append, List.length_cons, List.length_nil] at ih ⊢; omega
theorem flat_at (xs : List Cel) (i : Nat) (hi : i < xs.length) : (flat xs)[i * 3]? = some (.int .i64 xs[i].k) ∧ (flat xs)[i * 3 + 1]? = some (.string xs[i].s) ∧ (flat xs)[i * 3 + 2]? = some (.int .i64 xs[i].n) := by
  induction xs generalizing i with
  | nil => simp at hi
  | cons c xs ih =>
    cases i with
    | zero => simp [flat]
    | succ i =>
      have := ih i (by simpa using hi)
      have hf : flat (c :: xs) = .int .i64 c.k :: .string c.s :: .int .i64 c.n :: flat xs := rfl
      rw [hf, show (i + 1) * 3 = i * 3 + 1 + 1 + 1 by omega]
      simp only [List.getElem_cons_succ, List.getElem?_cons_succ, Nat.add_right_comm _ 1]
      exact this
theorem flat_one (xs : List Cel) : ∀ u ∈ flat xs, u.oneCell' = true := by
  intro u hu
  simp [flat] at hu
  obtain ⟨c, _, rfl | rfl | rfl⟩ := hu <;> rfl
theorem Row.src {w : World} {a : Option Addr} {cap : Nat} {xs : List Cel} (h : Row w a cap xs) : Src w 3 a xs.length cap (flat xs) := by
  refine ⟨flat_length xs, fun e => ⟨?_, h.nil e⟩, ?_, flat_one xs⟩
  · have := h.le; have := h.nil e; omega
  · intro ad e j u hj
    have hl : j < xs.length * 3 := by rw [← flat_length]; exact (List.getElem?_eq_some_iff.1 hj).1
    have hi : j / 3 < xs.length := by omega
    obtain ⟨b, off, e', hc⟩ := h.at_ (j / 3) _ (List.getElem?_eq_getElem hi)
    rw [e] at e'
    simp at e'
    subst e'
    have hc' : CelAt w b (off + j / 3 * 3) xs[j / 3] := hc
    have ha : (Addr.mk b off none).add j = ⟨b, off + j, none⟩ := by unfold Addr.add; split <;> simp_all
    rw [ha]
    obtain ⟨f0, f1, f2⟩ := flat_at xs (j / 3) hi
    have : j = j / 3 * 3 ∨ j = j / 3 * 3 + 1 ∨ j = j / 3 * 3 + 2 := by omega
    rcases this with e | e | e
    · rw [e, f0] at hj; rw [e, ← Option.some.inj hj]; exact hc'.c0
    · rw [e, f1] at hj; rw [e, ← Option.some.inj hj]; exact hc'.c1
    · rw [e, f2] at hj; rw [e, ← Option.some.inj hj]; exact hc'.c2
/-- a row of the call's own reads as a row -/
theorem own_row {w : World} {B e : Nat} {v : Value} {xs : List Cel} (h : w.ownsRow B e 3 v xs.length (flat xs)) (hf : ∀ c ∈ xs, c.fit) : ∃ a cap, v = .slice a xs.length cap ∧ Row w a cap xs := by
  rcases h.2 with ⟨rfl, hn⟩ | ⟨g, cap, cur, rfl, hb, hg, hn, hm, hs, ht⟩
  · obtain rfl : xs = [] := List.eq_nil_of_length_eq_zero hn
    exact ⟨none, 0, rfl, Row.empty _ _ _ (by omega) (fun _ => rfl)⟩
  · refine ⟨_, cap, rfl, ⟨hn, by unfold maxLen at hm; omega, (fun e => by cases e), fun i x hi => ⟨g, 0, rfl, ?_⟩⟩⟩
    have hl : i < xs.length := (List.getElem?_eq_some_iff.1 hi).1
    have hx : xs[i] = x := by rw [List.getElem?_eq_getElem hl] at hi; exact Option.some.inj hi
    have hc : ∀ j u, (flat xs)[j]? = some u → w.cell? ⟨g, j, none⟩ = some u := by
      intro j u hu
      have := World.ownsRow.cells h (g := g) rfl j u hu
      have ha : (Addr.mk g 0 none).add j = ⟨g, j, none⟩ := by unfold Addr.add; split <;> simp_all
      rwa [ha] at this
    obtain ⟨f0, f1, f2⟩ := flat_at xs i hl
    subst hx
    show CelAt w g (0 + i * 3) xs[i]
    rw [Nat.zero_add]
    exact ⟨hc _ _ f0, hc _ _ f1, hc _ _ f2, hf _ (List.getElem_mem hl)⟩
/-- one new element, in a block of its own -/
theorem src_new (w : World) (cs : Array Value) (T size : Nat) (hs : cs.size = size) (h1 : ∀ u ∈ cs.toList, u.oneCell' = true) : Src (w.alloc (.cells cs T)) size (some ⟨w.heap.size, 0, none⟩) 1 1 cs.toList := by
  refine ⟨by simp [hs], (fun e => by cases e), ?_, h1⟩
  intro ad e j u hu
  simp at e
  subst e
  have ha : (Addr.mk w.heap.size 0 none).add j = ⟨w.heap.size, j, none⟩ := by unfold Addr.add; split <;> simp_all
  rw [ha, World.cell?_alloc_at _ _ _ _ rfl]
  simpa using hu
theorem own_cells {w : World} {B e size : Nat} {g n cap : Nat} {vs : List Value} (h : w.ownsRow B e size (.slice (some ⟨g, 0, none⟩) n cap) n vs) : ∀ j u, vs[j]? = some u → w.cell? ⟨g, j, none⟩ = some u := by
  intro j u hu
  have := World.ownsRow.cells h (g := g) rfl j u hu
  have ha : (Addr.mk g 0 none).add j = ⟨g, j, none⟩ := by unfold Addr.add; split <;> simp_all
  rwa [ha] at this
end Go.Proofs.Ytmmnfkggfnokjaa
namespace Go.Proofs.Ytmmnfkggfnokjaa
open Go.RowKit
def okByte (c : UInt8) : Bool := decide (32 ≤ (c.toNat : Int)) && decide ((c.toNat : Int) ≤ 126) && !((c.toNat : Int) == 39)
def nameOk (s : ByteArray) : Bool := s.data.toList.all okByte && decide (1 ≤ (s.size : Int)) && decide ((s.size : Int) ≤ 12)
def cellOk (c : Cel) : Bool :=
  (decide (c.k = 1) && decide (c.s.toList = []) && decide (0 ≤ c.n) && decide (c.n ≤ 999)) ||
  (decide (c.k = 2) && decide (c.s.toList = []) && decide (-2147483647 ≤ c.n) && decide (c.n ≤ 2147483647)) ||
  (decide (c.k = 3) && nameOk c.s && decide (0 ≤ c.n) && decide (c.n ≤ 6))
def ar (c : Cel) : Nat := if c.k = 3 then c.n.toNat else 0
def sk : Nat → List Cel → Option (List Cel)
  | 0, l => some l
  | _ + 1, [] => none
  | m + 1, c :: l => if cellOk c then sk (m + ar c) l else none
def endI (xs : List Cel) (i : Nat) : Int := match sk 1 (xs.drop i) with
  | none => -1
  | some r => xs.length - r.length
theorem take_snoc (s : ByteArray) (k : Nat) (h : k < s.size) : s.data.toList.take (k + 1) = s.data.toList.take k ++ [s[k]] := by
  rw [List.take_succ_eq_append_getElem (by simpa using h)]; rfl
theorem okByte_true {c : UInt8} (h : okByte c = true) : 32 ≤ (c.toNat : Int) ∧ (c.toNat : Int) ≤ 126 ∧ ((c.toNat : Int) == 39) = false := by
  simp [okByte] at h ⊢; omega
theorem okByte_false {c : UInt8} (h : okByte c = false) : (c.toNat : Int) < 32 ∨ 32 ≤ (c.toNat : Int) ∧ 126 < (c.toNat : Int) ∨ 32 ≤ (c.toNat : Int) ∧ (c.toNat : Int) ≤ 126 ∧ ((c.toNat : Int) == 39) = true := by
  simp [okByte] at h ⊢; omega
theorem all_bad (s : ByteArray) (k : Nat) (h : k < s.size) (hb : okByte s[k] = false) : nameOk s = false := by
  have : s.data.toList.all okByte = false := by
    rw [List.all_eq_false]
    exact ⟨s[k], by simp [ByteArray.getElem_eq_getElem_data], by simp [hb]⟩
  simp [nameOk, this]
theorem all_snoc (s : ByteArray) (k : Nat) (h : k < s.size) (h1 : (s.data.toList.take k).all okByte = true) (hb : okByte s[k] = true) : (s.data.toList.take (k + 1)).all okByte = true := by
  rw [take_snoc s k h, List.all_append, h1]; simp [hb]
theorem nameOk_of (s : ByteArray) (h : s.data.toList.all okByte = true) : nameOk s = (decide (1 ≤ (s.size : Int)) && decide ((s.size : Int) ≤ 12)) := by
  simp [nameOk, h]
theorem sk_step (m : Nat) (xs : List Cel) (i : Nat) (h : i < xs.length) : sk (m + 1) (xs.drop i) = if cellOk xs[i] then sk (m + ar xs[i]) (xs.drop (i + 1)) else none := by
  rw [List.drop_eq_getElem_cons h]; rfl
theorem sk_end (m : Nat) (xs : List Cel) (i : Nat) (h : xs.length ≤ i) : sk (m + 1) (xs.drop i) = none := by
  rw [List.drop_eq_nil_of_le h]; rfl
theorem ar_le (c : Cel) (h : cellOk c = true) : ar c ≤ 6 := by
  unfold ar; simp [cellOk] at h; split <;> omega
theorem cellOk_fun (c : Cel) (h : cellOk c = true) (h3 : (c.k == 3) = true) : 0 ≤ c.n ∧ c.n ≤ 6 := by
  simp [cellOk] at h h3; omega
theorem endI_zero {xs : List Cel} {i j : Nat} (h : sk 1 (xs.drop i) = sk 0 (xs.drop j)) (hj : j ≤ xs.length) : endI xs i = j := by
  unfold endI; rw [h]; simp [sk]; omega
theorem endI_none {xs : List Cel} {i : Nat} (h : sk 1 (xs.drop i) = none) : endI xs i = -1 := by
  unfold endI; rw [h]
section
variable {xs : List Cel} {i0 k m : Nat}
theorem end_l1 (h : sk 1 (xs.drop i0) = sk (m + 1) (xs.drop k)) (hk : k < xs.length) (ho : cellOk xs[k] = false) : endI xs i0 = -1 :=
  endI_none (by rw [h, sk_step m xs k hk, ho]; rfl)
theorem end_l2 (hm : m ≤ 6 * k) (hk' : k ≤ 1048576) (h : sk 1 (xs.drop i0) = sk (m + 1) (xs.drop k)) (hk : k < xs.length) (ho : cellOk xs[k] = true) (h3 : (xs[k].k == 3) = true)
    (hz : (wrap64 ((m : Int) + xs[k].n) == 0) = true) : endI xs i0 = k + 1 := by
  have hn := cellOk_fun _ ho h3
  have : wrap64 ((m : Int) + xs[k].n) = (m : Int) + xs[k].n := IntWalk.wrap64_in _ (by constructor <;> omega)
  rw [this] at hz; simp at hz h3
  exact endI_zero (by rw [h, sk_step m xs k hk, ho]; simp only [if_true]; congr 1; unfold ar; rw [if_pos h3]; omega) hk
theorem end_l3 (hm : m ≤ 6 * k) (hk' : k ≤ 1048576) (h : sk 1 (xs.drop i0) = sk (m + 1) (xs.drop k)) (hk : k < xs.length) (ho : cellOk xs[k] = true) (h3 : (xs[k].k == 3) = true)
    (hz : (wrap64 ((m : Int) + xs[k].n) == 0) = false) : ∃ m' : Nat, wrap64 ((m : Int) + xs[k].n) = m' + 1 ∧ m' ≤ 6 * (k + 1) ∧ sk 1 (xs.drop i0) = sk (m' + 1) (xs.drop (k + 1)) := by
  have hn := cellOk_fun _ ho h3
  have : wrap64 ((m : Int) + xs[k].n) = (m : Int) + xs[k].n := IntWalk.wrap64_in _ (by constructor <;> omega)
  rw [this] at hz ⊢; simp at hz h3
  refine ⟨m + xs[k].n.toNat - 1, by omega, by omega, ?_⟩
  rw [h, sk_step m xs k hk, ho]; simp only [if_true]; congr 1; unfold ar; rw [if_pos h3]; omega
theorem end_l4 (h : sk 1 (xs.drop i0) = sk (m + 1) (xs.drop k)) (hk : k < xs.length) (ho : cellOk xs[k] = true) (h3 : (xs[k].k == 3) = false)
    (hz : ((m : Int) == 0) = true) : endI xs i0 = k + 1 := by
  simp at hz h3
  exact endI_zero (by rw [h, sk_step m xs k hk, ho]; simp only [if_true]; congr 1; unfold ar; rw [if_neg h3]; omega) hk
theorem end_l5 (h : sk 1 (xs.drop i0) = sk (m + 1) (xs.drop k)) (hk : k < xs.length) (ho : cellOk xs[k] = true) (h3 : (xs[k].k == 3) = false)
    (hz : ((m : Int) == 0) = false) : sk 1 (xs.drop i0) = sk (m - 1 + 1) (xs.drop (k + 1)) := by
  simp at hz h3
  rw [h, sk_step m xs k hk, ho]; simp only [if_true]; congr 1; unfold ar; rw [if_neg h3]; omega
end
def rightB (xs : List Cel) : Bool := decide ((xs.length : Int) ≤ 200) && decide (endI xs 0 = xs.length)
def arI (c : Cel) : Int := if c.k = 3 then c.n else 0
theorem rightB_pos {xs : List Cel} (h : xs.length < 1) : rightB xs = false := by
  obtain rfl : xs = [] := List.eq_nil_of_length_eq_zero (by omega)
  decide
theorem rightB_le {xs : List Cel} (h : (xs.length : Int) ≤ 200) : (endI xs 0 == xs.length) = rightB xs := by
  rw [rightB, decide_eq_true h, Bool.true_and]; rfl
theorem rightB_gt {xs : List Cel} (h : 200 < (xs.length : Int)) : false = rightB xs := by
  simp [rightB]; intros; omega
def afterI (xs : List Cel) (i j : Nat) : Int := match sk j (xs.drop i) with
  | none => -1
  | some r => xs.length - r.length
def passI (xs : List Cel) (i : Int) : Int := if 0 ≤ i then endI xs i.toNat else -1
theorem sk_add (a b : Nat) (l : List Cel) : sk (a + b) l = (sk a l).bind (sk b) := by
  induction l generalizing a with
  | nil => cases a with
    | zero => simp [sk]
    | succ a => rw [show a + 1 + b = a + b + 1 by omega]; rfl
  | cons c l ih => cases a with
    | zero => simp [sk]
    | succ a =>
      rw [show a + 1 + b = a + b + 1 by omega]
      simp only [sk]
      split
      · rw [show a + b + ar c = a + ar c + b by omega, ih]
      · rfl
theorem sk_suffix (m : Nat) (l r : List Cel) (h : sk m l = some r) : r.length ≤ l.length ∧ r = l.drop (l.length - r.length) := by
  induction l generalizing m with
  | nil => cases m with
    | zero => simp [sk] at h; subst h; simp
    | succ m => simp [sk] at h
  | cons c l ih => cases m with
    | zero => simp [sk] at h; subst h; simp
    | succ m =>
      simp only [sk] at h
      split at h
      · obtain ⟨h1, h2⟩ := ih _ h
        refine ⟨by simp; omega, ?_⟩
        rw [show (c :: l).length - r.length = (l.length - r.length) + 1 by simp; omega]
        exact h2
      · cases h
theorem sk_at {xs : List Cel} {i j : Nat} {r : List Cel} (hi : i ≤ xs.length) (h : sk j (xs.drop i) = some r) : r.length ≤ xs.length - i ∧ xs.drop (xs.length - r.length) = r := by
  obtain ⟨h1, h2⟩ := sk_suffix _ _ _ h
  rw [List.length_drop] at h1 h2
  refine ⟨h1, ?_⟩
  rw [List.drop_drop] at h2
  rw [show xs.length - r.length = i + (xs.length - i - r.length) by omega]
  exact h2.symm
theorem afterI_zero {xs : List Cel} {i : Nat} (h : i ≤ xs.length) : afterI xs i 0 = i := by
  simp [afterI, sk]; omega
theorem afterI_succ {xs : List Cel} {i j : Nat} (hi : i ≤ xs.length) : passI xs (afterI xs i j) = afterI xs i (j + 1) := by
  unfold afterI
  rw [sk_add]
  cases h : sk j (xs.drop i) with
  | none => rfl
  | some r =>
    obtain ⟨h1, h2⟩ := sk_at hi h
    simp only [Option.bind_some]
    unfold passI
    rw [if_pos (by omega), show ((xs.length : Int) - r.length).toNat = xs.length - r.length by omega]
    unfold endI
    rw [h2]
theorem endI_ok {xs : List Cel} {i : Nat} (hi : i < xs.length) (h : cellOk xs[i] = true) : endI xs i = afterI xs (i + 1) (ar xs[i]) := by
  unfold endI afterI
  have := sk_step 0 xs i hi
  rw [Nat.zero_add] at this
  rw [this, h]; simp
theorem endI_bad {xs : List Cel} {i : Nat} (hi : i < xs.length) (h : cellOk xs[i] = false) : endI xs i = -1 := by
  unfold endI
  have := sk_step 0 xs i hi
  rw [Nat.zero_add] at this
  rw [this, h]; simp
theorem endI_out {xs : List Cel} {i : Nat} (hi : xs.length ≤ i) : endI xs i = -1 := endI_none (sk_end 0 xs i hi)
theorem afterI_range {xs : List Cel} {i j : Nat} (hi : i ≤ xs.length) : afterI xs i j = -1 ∨ (i : Int) ≤ afterI xs i j ∧ afterI xs i j ≤ xs.length := by
  unfold afterI
  cases h : sk j (xs.drop i) with
  | none => exact .inl rfl
  | some r => obtain ⟨h1, _⟩ := sk_at hi h; right; simp only; omega
theorem arI_ar {c : Cel} (h : cellOk c = true) : arI c = ar c := by
  unfold arI ar
  by_cases h3 : c.k = 3
  · have := cellOk_fun c h (by simp [h3]); rw [if_pos h3, if_pos h3]; omega
  · rw [if_neg h3, if_neg h3]; rfl
def varsGo (acc : List Int) : List Cel → List Int
  | [] => acc
  | c :: l => varsGo (if c.k = 1 ∧ c.n ∉ acc then acc ++ [c.n] else acc) l
def varsL (xs : List Cel) : List Int := varsGo [] xs
def groundB (xs : List Cel) : Bool := xs.all fun c => !decide (c.k = 1)
end Go.Proofs.Ytmmnfkggfnokjaa
namespace Go.Proofs.Ytmmnfkggfnokjaa
open Go.RowKit
theorem sk_pos {m : Nat} {l r : List Cel} (h : sk (m + 1) l = some r) : r.length < l.length := by
  cases l with
  | nil => simp [sk] at h
  | cons c l =>
    simp only [sk] at h
    split at h
    · have := (sk_suffix _ _ _ h).1; simp; omega
    · cases h
theorem right_sk {xs : List Cel} (h : rightB xs = true) : ∃ c l, xs = c :: l ∧ cellOk c = true ∧ sk (ar c) l = some [] ∧ xs.length ≤ 200 := by
  simp only [rightB, Bool.and_eq_true, decide_eq_true_eq] at h
  obtain ⟨h1, h2⟩ := h
  cases xs with
  | nil => simp [endI, sk] at h2
  | cons c l =>
    refine ⟨c, l, rfl, ?_⟩
    unfold endI at h2
    rw [List.drop_zero] at h2
    have hs : sk 1 (c :: l) = if cellOk c then sk (0 + ar c) l else none := rfl
    rw [hs] at h2
    by_cases hc : cellOk c = true
    · rw [if_pos hc, Nat.zero_add] at h2
      cases hr : sk (ar c) l with
      | none => rw [hr] at h2; simp at h2; omega
      | some r =>
        rw [hr] at h2
        simp only at h2
        have : r.length = 0 := by omega
        exact ⟨hc, by rw [List.eq_nil_of_length_eq_zero this], by omega⟩
    · rw [if_neg hc] at h2; simp at h2; omega
theorem right_of_sk {c : Cel} {l : List Cel} (hc : cellOk c = true) (h : sk (ar c) l = some []) (hl : (c :: l).length ≤ 200) : rightB (c :: l) = true := by
  simp only [rightB, Bool.and_eq_true, decide_eq_true_eq]
  refine ⟨by omega, ?_⟩
  unfold endI
  rw [List.drop_zero]
  have hs : sk 1 (c :: l) = if cellOk c then sk (0 + ar c) l else none := rfl
  rw [hs, if_pos hc, Nat.zero_add, h]; simp
def ar0 : List Cel → Nat
  | [] => 0
  | c :: _ => ar c
/-- where the j-th argument begins -/
def aN (xs : List Cel) (j : Nat) : Nat := (afterI xs 1 j).toNat
def partJ (xs : List Cel) (j : Nat) : List Cel := (xs.drop (aN xs j)).take (aN xs (j + 1) - aN xs j)
def partsL (xs : List Cel) : List (List Cel) := (List.range (ar0 xs)).map (partJ xs)
theorem right_after {xs : List Cel} (h : rightB xs = true) {j : Nat} (hj : j ≤ ar0 xs) : afterI xs 1 j = aN xs j ∧ 1 ≤ aN xs j ∧ aN xs j ≤ xs.length ∧ sk j (xs.drop 1) = some (xs.drop (aN xs j)) := by
  obtain ⟨c, l, rfl, hc, hs, hl⟩ := right_sk h
  simp only [ar0] at hj
  have h1 : sk (j + (ar c - j)) l = some [] := by rw [show j + (ar c - j) = ar c by omega]; exact hs
  rw [sk_add] at h1
  have hd : (c :: l).drop 1 = l := rfl
  cases hr : sk j l with
  | none => rw [hr] at h1; simp at h1
  | some r =>
    have := sk_at (xs := c :: l) (i := 1) (j := j) (r := r) (by simp) (by rw [hd]; exact hr)
    obtain ⟨k1, k2⟩ := this
    have e : afterI (c :: l) 1 j = (c :: l).length - r.length := by unfold afterI; rw [hd, hr]
    have e2 : aN (c :: l) j = (c :: l).length - r.length := by unfold aN; rw [e]; omega
    refine ⟨by rw [e, e2]; simp at k1 ⊢; omega, by rw [e2]; simp at k1 ⊢; omega, by rw [e2]; omega, ?_⟩
    rw [hd, hr, e2, k2]
theorem right_next {xs : List Cel} (h : rightB xs = true) {j : Nat} (hj : j < ar0 xs) : aN xs j < aN xs (j + 1) ∧ endI xs (aN xs j) = aN xs (j + 1) := by
  obtain ⟨a1, a2, a3, a4⟩ := right_after h (Nat.le_of_lt hj)
  obtain ⟨b1, b2, b3, b4⟩ := right_after h (show j + 1 ≤ ar0 xs from hj)
  have hs : sk 1 (xs.drop (aN xs j)) = some (xs.drop (aN xs (j + 1))) := by
    rw [sk_add, a4] at b4; simpa using b4
  have := sk_pos hs
  simp at this
  refine ⟨by omega, ?_⟩
  unfold endI
  rw [hs]; simp; omega
theorem parts_succ (xs : List Cel) (j : Nat) : (List.range (j + 1)).map (partJ xs) = (List.range j).map (partJ xs) ++ [partJ xs j] := by
  rw [List.range_succ, List.map_append]; rfl
theorem partJ_length {xs : List Cel} (h : rightB xs = true) {j : Nat} (hj : j < ar0 xs) : (partJ xs j).length = aN xs (j + 1) - aN xs j := by
  obtain ⟨b1, b2, b3, b4⟩ := right_after h (show j + 1 ≤ ar0 xs from hj)
  have := right_next h hj
  unfold partJ; simp; omega
theorem ar_le6 {xs : List Cel} (h : rightB xs = true) : ar0 xs ≤ 6 := by
  obtain ⟨c, l, rfl, hc, _⟩ := right_sk h
  exact ar_le c hc
end Go.Proofs.Ytmmnfkggfnokjaa
namespace Go.Proofs.Ytmmnfkggfnokjaa
open Go.RowKit
/-- a term as a tree -/
inductive Tm where
  | mk (c : Cel) (args : List Tm)
def Tm.hd : Tm → Cel | .mk c _ => c
def Tm.args : Tm → List Tm | .mk _ ts => ts
mutual
def Tm.flat : Tm → List Cel
  | .mk c ts => c :: flats ts
def flats : List Tm → List Cel
  | [] => []
  | t :: ts => t.flat ++ flats ts
end
mutual
def Tm.ok : Tm → Prop
  | .mk c ts => cellOk c = true ∧ ts.length = ar c ∧ oks ts
def oks : List Tm → Prop
  | [] => True
  | t :: ts => t.ok ∧ oks ts
end
mutual
def Tm.depth : Tm → Nat
  | .mk _ ts => depths ts + 1
def depths : List Tm → Nat
  | [] => 0
  | t :: ts => max t.depth (depths ts)
end
theorem flats_append (a b : List Tm) : flats (a ++ b) = flats a ++ flats b := by
  induction a with
  | nil => simp [flats]
  | cons t a ih => simp [flats, ih]
theorem oks_append {a b : List Tm} : oks (a ++ b) ↔ oks a ∧ oks b := by
  induction a with
  | nil => simp [oks]
  | cons t a ih => simp [oks, ih, and_assoc]
theorem oks_mem {ts : List Tm} (h : oks ts) : ∀ t ∈ ts, t.ok := by
  induction ts with
  | nil => intro t ht; simp at ht
  | cons t ts ih =>
    intro u hu
    rcases List.mem_cons.1 hu with rfl | hu
    · exact h.1
    · exact ih h.2 u hu
theorem flat_cons (t : Tm) : t.flat = t.hd :: flats t.args := by cases t; rfl
theorem ok_iff (t : Tm) : t.ok ↔ cellOk t.hd = true ∧ t.args.length = ar t.hd ∧ oks t.args := by cases t; rfl
theorem flat_pos (t : Tm) : 0 < t.flat.length := by rw [flat_cons]; simp
/-- what is skipped is made of terms -/
theorem sk_parse (l : List Cel) : ∀ (m : Nat) (r : List Cel), sk m l = some r → ∃ ts : List Tm, ts.length = m ∧ oks ts ∧ l = flats ts ++ r := by
  induction l with
  | nil =>
    intro m r h
    cases m with
    | zero => simp [sk] at h; subst h; exact ⟨[], rfl, trivial, rfl⟩
    | succ m => simp [sk] at h
  | cons c l ih =>
    intro m r h
    cases m with
    | zero => simp [sk] at h; subst h; exact ⟨[], rfl, trivial, rfl⟩
    | succ m =>
      simp only [sk] at h
      split at h
      · rename_i hc
        obtain ⟨ts, hl, ho, e⟩ := ih _ _ h
        have hsplit : ts = ts.take (ar c) ++ ts.drop (ar c) := (List.take_append_drop _ _).symm
        rw [hsplit] at ho e
        rw [oks_append] at ho
        refine ⟨.mk c (ts.take (ar c)) :: ts.drop (ar c), by simp; omega, ⟨⟨hc, by simp; omega, ho.1⟩, ho.2⟩, ?_⟩
        rw [e, flats_append]
        simp [flats, Tm.flat]
      · cases h
mutual
theorem sk_flat : ∀ (t : Tm), t.ok → ∀ (m : Nat) (r : List Cel), sk (m + 1) (t.flat ++ r) = sk m r
  | .mk c ts, h, m, r => by
    obtain ⟨h1, h2, h3⟩ := h
    simp only [Tm.flat, List.cons_append, sk, h1, if_true]
    rw [← h2, Nat.add_comm, sk_flats ts h3]
theorem sk_flats : ∀ (ts : List Tm), oks ts → ∀ (m : Nat) (r : List Cel), sk (ts.length + m) (flats ts ++ r) = sk m r
  | [], _, m, r => by simp [flats]
  | t :: ts, h, m, r => by
    obtain ⟨h1, h2⟩ := h
    simp only [flats, List.append_assoc, List.length_cons]
    rw [show ts.length + 1 + m = ts.length + m + 1 by omega, sk_flat t h1, sk_flats ts h2]
end
theorem right_flat {t : Tm} (h : t.ok) (hl : t.flat.length ≤ 200) : rightB t.flat = true := by
  have h' := (ok_iff t).1 h
  rw [flat_cons] at hl ⊢
  refine right_of_sk h'.1 ?_ hl
  have := sk_flats t.args h'.2.2 0 []
  rw [List.append_nil, Nat.add_zero, h'.2.1] at this
  rw [this]; rfl
theorem right_tm {xs : List Cel} (h : rightB xs = true) : ∃ t : Tm, t.ok ∧ xs = t.flat ∧ xs.length ≤ 200 := by
  obtain ⟨c, l, rfl, hc, hs, hl⟩ := right_sk h
  obtain ⟨ts, h1, h2, h3⟩ := sk_parse l _ _ hs
  exact ⟨.mk c ts, ⟨hc, h1, h2⟩, by rw [h3]; simp [Tm.flat], hl⟩
/-- where the arguments lie -/
theorem after_flat {t : Tm} (h : t.ok) {j : Nat} (hj : j ≤ t.args.length) : afterI t.flat 1 j = 1 + (flats (t.args.take j)).length := by
  obtain ⟨_, _, h3⟩ := (ok_iff t).1 h
  have hs : t.args = t.args.take j ++ t.args.drop j := (List.take_append_drop _ _).symm
  have ho : oks (t.args.take j) := by rw [hs] at h3; exact (oks_append.1 h3).1
  have e := sk_flats (t.args.take j) ho 0 (flats (t.args.drop j))
  rw [Nat.add_zero, List.length_take, Nat.min_eq_left hj, ← flats_append, ← hs] at e
  unfold afterI
  rw [flat_cons, List.drop_one, List.tail_cons, e]
  simp only [sk, List.length_cons]
  have := congrArg List.length (congrArg flats hs)
  rw [flats_append, List.length_append] at this
  omega
theorem aN_flat {t : Tm} (h : t.ok) {j : Nat} (hj : j ≤ t.args.length) : aN t.flat j = 1 + (flats (t.args.take j)).length := by
  unfold aN; rw [after_flat h hj]; omega
theorem part_flat {t : Tm} (h : t.ok) {j : Nat} (hj : j < t.args.length) : partJ t.flat j = t.args[j].flat := by
  unfold partJ
  rw [aN_flat h (Nat.le_of_lt hj), aN_flat h hj]
  have hs : t.args = t.args.take j ++ (t.args[j] :: t.args.drop (j + 1)) := by
    rw [← List.drop_eq_getElem_cons hj, List.take_append_drop]
  have hf : flats t.args = flats (t.args.take j) ++ (t.args[j].flat ++ flats (t.args.drop (j + 1))) := by
    conv => lhs; rw [hs]
    rw [flats_append]; rfl
  have ht : flats (t.args.take (j + 1)) = flats (t.args.take j) ++ t.args[j].flat := by
    rw [List.take_succ_eq_append_getElem hj, flats_append]; simp [flats]
  rw [ht, flat_cons t, hf, Nat.add_comm 1 (flats (t.args.take j)).length, List.drop_succ_cons, List.drop_left, List.length_append]
  rw [show 1 + ((flats (t.args.take j)).length + t.args[j].flat.length) - ((flats (t.args.take j)).length + 1) = t.args[j].flat.length by omega]
  exact List.take_left
theorem ar0_flat {t : Tm} (h : t.ok) : ar0 t.flat = t.args.length := by
  rw [flat_cons]; exact ((ok_iff t).1 h).2.1.symm
theorem parts_flat {t : Tm} (h : t.ok) : partsL t.flat = t.args.map Tm.flat := by
  unfold partsL
  rw [ar0_flat h]
  refine List.ext_getElem (by simp) (fun j h1 h2 => ?_)
  simp at h1
  simp [part_flat h h1]
mutual
theorem depth_le : ∀ t : Tm, t.depth ≤ t.flat.length
  | .mk c ts => by
    have := depths_le ts
    simp only [Tm.depth, Tm.flat, List.length_cons]; omega
theorem depths_le : ∀ ts : List Tm, depths ts ≤ (flats ts).length
  | [] => by simp [depths]
  | t :: ts => by
    have h1 := depth_le t
    have h2 := depths_le ts
    simp only [depths, flats, List.length_append]; omega
end
end Go.Proofs.Ytmmnfkggfnokjaa
set_option linter.unusedVariables false
namespace Go.Proofs.Ytmmnfkggfnokjaa
open Go.RowKit
def funsL (l : List Cel) : Nat := (l.filter fun c => c.k == 3).length
structure Ins where
  op : Int
  x : Int
  a : Int
  s : ByteArray
  n : Int
  neg : Bool
/-- the maker: its code, the register that is new, of each variable that was met its register -/
structure MkS where
  code : List Ins
  next : Int
  at_ : Int → Option Int
def MkS.lay (m : MkS) (i : Ins) : MkS := { m with code := m.code ++ [i] }
def MkS.fresh (m : MkS) : MkS := { m with next := m.next + 1 }
def MkS.var (m : MkS) (n first again a : Int) : MkS := match m.at_ n with
  | some r => m.lay ⟨again, r, a, ⟨#[]⟩, 0, false⟩
  | none => ({ m.fresh with at_ := fun j => if j = n then some m.next else m.at_ j } : MkS).lay ⟨first, m.next, a, ⟨#[]⟩, 0, false⟩
/-- the arguments of a Fun of a head: which are Funs, in which registers -/
def unifyS : List Tm → MkS → MkS × List (Tm × Int)
  | [], m => (m, [])
  | t :: ts, m =>
    if t.hd.k = 1 then unifyS ts (m.var t.hd.n 5 6 0)
    else if t.hd.k = 2 then unifyS ts (m.lay ⟨7, 0, 0, ⟨#[]⟩, t.hd.n, false⟩)
    else if t.hd.k = 3 then ((unifyS ts (m.fresh.lay ⟨5, m.next, 0, ⟨#[]⟩, 0, false⟩)).1, (t, m.next) :: (unifyS ts (m.fresh.lay ⟨5, m.next, 0, ⟨#[]⟩, 0, false⟩)).2)
    else unifyS ts m
def getS (p : Tm × Int) (m : MkS) : MkS × List (Tm × Int) :=
  if p.1.hd.k = 1 then (m.var p.1.hd.n 1 2 p.2, [])
  else if p.1.hd.k = 2 then (m.lay ⟨3, 0, p.2, ⟨#[]⟩, p.1.hd.n, false⟩, [])
  else if p.1.hd.k = 3 then unifyS p.1.args (m.lay ⟨4, 0, p.2, p.1.hd.s, p.1.hd.n, false⟩)
  else (m, [])
/-- the row of a head, taken from the front -/
def rowS : Nat → List (Tm × Int) → MkS → MkS
  | 0, _, m => m
  | _ + 1, [], m => m
  | f + 1, p :: ps, m => rowS f (ps ++ (getS p m).2) (getS p m).1
def setS (c : Cel) (r : Int) (m : MkS) : MkS :=
  if c.k = 1 then m.var c.n 9 10 0
  else if c.k = 2 then m.lay ⟨11, 0, 0, ⟨#[]⟩, c.n, false⟩
  else if c.k = 3 then m.lay ⟨10, r, 0, ⟨#[]⟩, 0, false⟩
  else m
def setsS : List Tm → List Int → MkS → MkS
  | t :: ts, r :: rs, m => setsS ts rs (setS t.hd r m)
  | _, _, m => m
mutual
/-- a structure, and its register -/
def structS : Tm → MkS → MkS × Int
  | .mk c ts, m =>
    let p := innerS ts m
    (setsS ts p.2 (p.1.fresh.lay ⟨8, 0, p.1.next, c.s, c.n, false⟩), p.1.next)
/-- the registers of arguments that are Funs; 0 of others -/
def innerS : List Tm → MkS → MkS × List Int
  | [], m => (m, [])
  | t :: ts, m => if t.hd.k = 3 then ((innerS ts (structS t m).1).1, (structS t m).2 :: (innerS ts (structS t m).1).2) else ((innerS ts m).1, 0 :: (innerS ts m).2)
end
def litS (x : Bool × Tm) (m : MkS) : MkS := (structS x.2 m).1.lay ⟨12, 0, (structS x.2 m).2, ⟨#[]⟩, 0, x.1⟩
def rowOf : List Tm → Nat → List (Tm × Int)
  | [], _ => []
  | t :: ts, i => (t, (i : Int)) :: rowOf ts (i + 1)
def compS (h : Tm) (b : List (Bool × Tm)) : List Ins :=
  ((b.foldl (fun m x => litS x m) (rowS (2 * h.flat.length + 1) (rowOf h.args 0) ⟨[], h.hd.n, fun _ => none⟩)).lay ⟨13, 0, 0, h.hd.s, h.hd.n, false⟩).code
/-! #### how many instructions -/
theorem lay_len (m : MkS) (i : Ins) : (m.lay i).code.length = m.code.length + 1 := by simp [MkS.lay]
theorem var_len (m : MkS) (n f g a : Int) : (m.var n f g a).code.length = m.code.length + 1 := by
  unfold MkS.var
  split <;> simp [MkS.lay, MkS.fresh]
def kindOk (c : Cel) : Prop := c.k = 1 ∨ c.k = 2 ∨ c.k = 3
theorem setS_len (c : Cel) (h : kindOk c) (r : Int) (m : MkS) : (setS c r m).code.length = m.code.length + 1 := by
  unfold setS
  rcases h with h | h | h
  · rw [if_pos h, var_len]
  · rw [if_neg (by omega), if_pos h, lay_len]
  · rw [if_neg (by omega), if_neg (by omega), if_pos h, lay_len]
theorem setsS_len : ∀ (ts : List Tm) (rs : List Int) (m : MkS), ts.length = rs.length → (∀ t ∈ ts, kindOk t.hd) → (setsS ts rs m).code.length = m.code.length + ts.length
  | [], [], m, _, _ => by simp [setsS]
  | [], _ :: _, m, h, _ => by simp at h
  | _ :: _, [], m, h, _ => by simp at h
  | t :: ts, r :: rs, m, h, hk => by
    unfold setsS
    rw [setsS_len ts rs _ (by simpa using h) (fun u hu => hk u (List.mem_cons_of_mem _ hu)), setS_len _ (hk t List.mem_cons_self)]
    simp; omega
theorem innerS_regs : ∀ (ts : List Tm) (m : MkS), (innerS ts m).2.length = ts.length
  | [], m => by simp [innerS]
  | t :: ts, m => by
    unfold innerS
    split
    · simp [innerS_regs ts]
    · simp [innerS_regs ts]
mutual
def Kinds : Tm → Prop
  | .mk c ts => kindOk c ∧ (c.k ≠ 3 → ts = []) ∧ KindsL ts
def KindsL : List Tm → Prop
  | [] => True
  | t :: ts => Kinds t ∧ KindsL ts
end
theorem KindsL.mem : ∀ {ts : List Tm}, KindsL ts → ∀ t ∈ ts, kindOk t.hd
  | [], _, t, h => by cases h
  | u :: ts, h, t, hm => by
    rcases List.mem_cons.1 hm with rfl | hm
    · cases t with
      | mk c az => exact h.1.1
    · exact KindsL.mem h.2 t hm
theorem funs_cons (c : Cel) (l : List Cel) : funsL (c :: l) = (if c.k = 3 then 1 else 0) + funsL l := by
  unfold funsL
  rw [List.filter_cons]
  by_cases h : c.k = 3
  · simp [h]; omega
  · simp [h]
theorem funs_app (a b : List Cel) : funsL (a ++ b) = funsL a + funsL b := by simp [funsL]
mutual
theorem structS_len : ∀ (t : Tm) (m : MkS), Kinds t → t.hd.k = 3 → (structS t m).1.code.length + 1 = m.code.length + t.flat.length + funsL t.flat
  | .mk c ts, m, h, h3 => by
    have h3' : c.k = 3 := h3
    have hi := innerS_len ts m h.2.2
    unfold structS
    simp only
    rw [setsS_len ts _ _ (innerS_regs ts m).symm (KindsL.mem h.2.2), lay_len]
    simp only [Tm.flat, List.length_cons, MkS.fresh]
    rw [funs_cons, if_pos h3']
    omega
theorem innerS_len : ∀ (ts : List Tm) (m : MkS), KindsL ts → (innerS ts m).1.code.length + ts.length = m.code.length + (flats ts).length + funsL (flats ts)
  | [], m, _ => by simp [innerS, flats, funsL]
  | t :: ts, m, h => by
    unfold innerS
    by_cases h3 : t.hd.k = 3
    · rw [if_pos h3]
      have h1 := structS_len t m h.1 h3
      have h2 := innerS_len ts (structS t m).1 h.2
      simp only [flats, List.length_cons, List.length_append, funs_app]
      omega
    · rw [if_neg h3]
      have h2 := innerS_len ts m h.2
      have hf : t.flat = [t.hd] := by
        cases t with
        | mk c az =>
          have := h.1.2.1 h3
          subst this
          simp [Tm.flat, flats, Tm.hd]
      simp only [flats, List.length_cons, List.length_append, funs_app, hf, List.length_nil]
      rw [funs_cons, if_neg h3]
      have : funsL [] = 0 := rfl
      omega
end
/-- of a term on a head's row, the instructions that it and all within it make -/
def cntR (t : Tm) : Nat := t.flat.length - 1 + funsL t.flat + (if t.hd.k = 3 then 0 else 1)
def sumC (ps : List (Tm × Int)) : Nat := (ps.map fun p => cntR p.1).sum
def sumF (ps : List (Tm × Int)) : Nat := (ps.map fun p => p.1.flat.length).sum
theorem unifyS_len : ∀ (ts : List Tm) (m : MkS), KindsL ts → (unifyS ts m).1.code.length = m.code.length + ts.length ∧ sumC (unifyS ts m).2 + ts.length = (flats ts).length + funsL (flats ts) ∧ sumF (unifyS ts m).2 ≤ (flats ts).length ∧ (∀ p ∈ (unifyS ts m).2, p.1 ∈ ts)
  | [], m, _ => by simp [unifyS, sumC, sumF, flats, funsL]
  | t :: ts, m, h => by
    have hk : kindOk t.hd := KindsL.mem h t List.mem_cons_self
    have hfl := flat_pos t
    have one : t.hd.k ≠ 3 → t.flat = [t.hd] := fun h3 => by
      cases t with
      | mk c az =>
        have := h.1.2.1 h3
        subst this
        simp [Tm.flat, flats, Tm.hd]
    have h0 : funsL [] = 0 := rfl
    unfold unifyS
    rcases hk with h1 | h2 | h3
    · obtain ⟨a, b, c, d⟩ := unifyS_len ts (m.var t.hd.n 5 6 0) h.2
      rw [if_pos h1]
      simp only [flats, List.length_append, funs_app, one (by omega), List.length_cons, List.length_nil]
      rw [funs_cons, if_neg (by omega), a, var_len]
      exact ⟨by omega, by omega, by omega, fun p hp => List.mem_cons_of_mem _ (d p hp)⟩
    · obtain ⟨a, b, c, d⟩ := unifyS_len ts (m.lay ⟨7, 0, 0, ⟨#[]⟩, t.hd.n, false⟩) h.2
      rw [if_neg (by omega), if_pos h2]
      simp only [flats, List.length_append, funs_app, one (by omega), List.length_cons, List.length_nil]
      rw [funs_cons, if_neg (by omega), a, lay_len]
      exact ⟨by omega, by omega, by omega, fun p hp => List.mem_cons_of_mem _ (d p hp)⟩
    · obtain ⟨a, b, c, d⟩ := unifyS_len ts (m.fresh.lay ⟨5, m.next, 0, ⟨#[]⟩, 0, false⟩) h.2
      rw [if_neg (by omega), if_neg (by omega), if_pos h3]
      simp only [flats, List.length_append, funs_app, List.length_cons]
      rw [a, lay_len]
      have e1 : sumC ((t, m.next) :: (unifyS ts (m.fresh.lay ⟨5, m.next, 0, ⟨#[]⟩, 0, false⟩)).2) = cntR t + sumC (unifyS ts (m.fresh.lay ⟨5, m.next, 0, ⟨#[]⟩, 0, false⟩)).2 := by simp [sumC]
      have e2 : sumF ((t, m.next) :: (unifyS ts (m.fresh.lay ⟨5, m.next, 0, ⟨#[]⟩, 0, false⟩)).2) = t.flat.length + sumF (unifyS ts (m.fresh.lay ⟨5, m.next, 0, ⟨#[]⟩, 0, false⟩)).2 := by simp [sumF]
      rw [e1, e2]
      have e3 : cntR t + 1 = t.flat.length + funsL t.flat := by unfold cntR; rw [if_pos h3]; omega
      refine ⟨by simp [MkS.fresh]; omega, by omega, by omega, fun p hp => ?_⟩
      rcases List.mem_cons.1 hp with rfl | hp
      · exact List.mem_cons_self
      · exact List.mem_cons_of_mem _ (d p hp)
theorem KindsL.of : ∀ {ts : List Tm}, KindsL ts → ∀ t ∈ ts, Kinds t
  | [], _, t, h => by cases h
  | u :: ts, h, t, hm => by
    rcases List.mem_cons.1 hm with rfl | hm
    · exact h.1
    · exact KindsL.of h.2 t hm
theorem getS_len (p : Tm × Int) (m : MkS) (h : Kinds p.1) : (getS p m).1.code.length + sumC (getS p m).2 = m.code.length + cntR p.1 ∧ sumF (getS p m).2 + 1 ≤ p.1.flat.length ∧ (∀ q ∈ (getS p m).2, Kinds q.1) := by
  obtain ⟨t, r⟩ := p
  have hfl := flat_pos t
  cases t with
  | mk c ts =>
    have hk : kindOk c := h.1
    have hflat : (Tm.mk c ts).flat.length = 1 + (flats ts).length := by simp [Tm.flat]; omega
    have hfuns : funsL (Tm.mk c ts).flat = (if c.k = 3 then 1 else 0) + funsL (flats ts) := by simp only [Tm.flat]; exact funs_cons _ _
    have hnil : c.k ≠ 3 → (flats ts).length = 0 ∧ funsL (flats ts) = 0 := fun h3 => by have := h.2.1 h3; subst this; exact ⟨rfl, rfl⟩
    have hcn : cntR (Tm.mk c ts) = (flats ts).length + ((if c.k = 3 then 1 else 0) + funsL (flats ts)) + (if c.k = 3 then 0 else 1) := by
      unfold cntR
      rw [hflat, hfuns]
      show 1 + (flats ts).length - 1 + _ + (if c.k = 3 then 0 else 1) = _
      omega
    show (getS (Tm.mk c ts, r) m).1.code.length + sumC (getS (Tm.mk c ts, r) m).2 = m.code.length + cntR (Tm.mk c ts) ∧ sumF (getS (Tm.mk c ts, r) m).2 + 1 ≤ (Tm.mk c ts).flat.length ∧ _
    rw [hcn, hflat]
    rcases hk with h1 | h2 | h3
    · have e : getS (Tm.mk c ts, r) m = (m.var c.n 1 2 r, []) := by unfold getS; exact if_pos h1
      obtain ⟨n1, n2⟩ := hnil (by omega)
      rw [e, if_neg (show ¬ c.k = 3 by omega), if_neg (show ¬ c.k = 3 by omega), var_len]
      have z1 : sumC [] = 0 := rfl
      have z2 : sumF [] = 0 := rfl
      dsimp only
      exact ⟨by omega, by omega, fun q hq => by cases hq⟩
    · have e : getS (Tm.mk c ts, r) m = (m.lay ⟨3, 0, r, ⟨#[]⟩, c.n, false⟩, []) := by unfold getS; exact (if_neg (show ¬ c.k = 1 by omega)).trans (if_pos h2)
      obtain ⟨n1, n2⟩ := hnil (by omega)
      rw [e, if_neg (show ¬ c.k = 3 by omega), if_neg (show ¬ c.k = 3 by omega), lay_len]
      have z1 : sumC [] = 0 := rfl
      have z2 : sumF [] = 0 := rfl
      dsimp only
      exact ⟨by omega, by omega, fun q hq => by cases hq⟩
    · have e : getS (Tm.mk c ts, r) m = unifyS ts (m.lay ⟨4, 0, r, c.s, c.n, false⟩) := by unfold getS; exact (if_neg (show ¬ c.k = 1 by omega)).trans ((if_neg (show ¬ c.k = 2 by omega)).trans (if_pos h3))
      rw [e, if_pos h3, if_pos h3]
      obtain ⟨a, b, cc, d⟩ := unifyS_len ts (m.lay ⟨4, 0, r, c.s, c.n, false⟩) h.2.2
      rw [a, lay_len]
      exact ⟨by omega, by omega, fun q hq => KindsL.of h.2.2 _ (d q hq)⟩
theorem sumC_app (a b : List (Tm × Int)) : sumC (a ++ b) = sumC a + sumC b := by simp [sumC]
theorem sumF_app (a b : List (Tm × Int)) : sumF (a ++ b) = sumF a + sumF b := by simp [sumF]
theorem rowS_len : ∀ (f : Nat) (ps : List (Tm × Int)) (m : MkS), (∀ p ∈ ps, Kinds p.1) → sumF ps ≤ f → (rowS f ps m).code.length = m.code.length + sumC ps
  | 0, [], m, _, _ => by simp [rowS, sumC]
  | 0, p :: ps, m, _, h => by
    have := flat_pos p.1
    have e : sumF (p :: ps) = p.1.flat.length + sumF ps := by simp [sumF]
    omega
  | _ + 1, [], m, _, _ => by simp [rowS, sumC]
  | f + 1, p :: ps, m, hk, h => by
    obtain ⟨a, b, c⟩ := getS_len p m (hk p List.mem_cons_self)
    have e1 : sumF (p :: ps) = p.1.flat.length + sumF ps := by simp [sumF]
    have e2 : sumC (p :: ps) = cntR p.1 + sumC ps := by simp [sumC]
    unfold rowS
    rw [rowS_len f (ps ++ (getS p m).2) (getS p m).1 (fun q hq => by
      rcases List.mem_append.1 hq with hq | hq
      · exact hk q (List.mem_cons_of_mem _ hq)
      · exact c q hq) (by rw [sumF_app]; omega), sumC_app]
    omega
theorem rowOf_sums : ∀ (ts : List Tm) (i : Nat), sumF (rowOf ts i) = (flats ts).length
  | [], _ => rfl
  | t :: ts, i => by
    have := rowOf_sums ts (i + 1)
    unfold rowOf
    simp only [flats, List.length_append]
    simp [sumF] at this ⊢
    omega
theorem lits_len : ∀ (b : List (Bool × Tm)) (m : MkS), (∀ x ∈ b, Kinds x.2 ∧ x.2.hd.k = 3) → (b.foldl (fun m x => litS x m) m).code.length = m.code.length + (b.map fun x => x.2.flat.length + funsL x.2.flat).sum
  | [], m, _ => by simp
  | x :: b, m, h => by
    have h1 := h x List.mem_cons_self
    have h2 := structS_len x.2 m h1.1 h1.2
    rw [List.foldl_cons, lits_len b _ (fun y hy => h y (List.mem_cons_of_mem _ hy))]
    unfold litS
    rw [lay_len]
    simp only [List.map_cons, List.sum_cons]
    omega
/-- az many instructions az the document says -/
theorem compS_len (h : Tm) (b : List (Bool × Tm)) (hh : Kinds h) (h3 : h.hd.k = 3) (hb : ∀ x ∈ b, Kinds x.2 ∧ x.2.hd.k = 3) :
    (compS h b).length = sumC (rowOf h.args 0) + (b.map fun x => x.2.flat.length + funsL x.2.flat).sum + 1 := by
  cases h with
  | mk c ts =>
    unfold compS
    rw [lay_len, lits_len b _ hb, rowS_len _ _ _ _ (by rw [rowOf_sums]; simp [Tm.flat, Tm.args]; omega)]
    · simp
    · have key : ∀ (ts : List Tm) (i : Nat), KindsL ts → ∀ p ∈ rowOf ts i, Kinds p.1 := by
        intro ts
        induction ts with
        | nil => intro i _ p hp; cases hp
        | cons t ts ih =>
          intro i hk p hp
          unfold rowOf at hp
          rcases List.mem_cons.1 hp with rfl | hp
          · exact hk.1
          · exact ih (i + 1) hk.2 p hp
      exact key ts 0 hh.2.2
/-! #### Uni's behind GetFun, Set's behind PutFun -/
def isU (i : Ins) : Bool := i.op == 5 || i.op == 6 || i.op == 7
def isS (i : Ins) : Bool := i.op == 9 || i.op == 10 || i.op == 11
def runGo (left : Int) (body : Bool) : List Ins → Option (Int × Bool)
  | [] => some (left, body)
  | i :: l =>
    if ((isU i || isS i) != decide (left > 0)) || (isU i && body) || (isS i && !body) then none
    else if left > 0 then runGo (left - 1) body l
    else if i.op = 8 then runGo i.n true l
    else if i.op = 4 then (if body then none else runGo i.n body l)
    else runGo left body l
theorem runGo_cons (i : Ins) (l : List Ins) (left : Int) (body : Bool) : runGo left body (i :: l) = if ((isU i || isS i) != decide (left > 0)) || (isU i && body) || (isS i && !body) then none
    else if left > 0 then runGo (left - 1) body l
    else if i.op = 8 then runGo i.n true l
    else if i.op = 4 then (if body then none else runGo i.n body l)
    else runGo left body l := rfl
theorem runGo_app : ∀ (a b : List Ins) (left : Int) (body : Bool), runGo left body (a ++ b) = (runGo left body a).bind fun p => runGo p.1 p.2 b
  | [], b, left, body => rfl
  | i :: a, b, left, body => by
    rw [List.cons_append, runGo_cons, runGo_cons i a]
    split
    · rfl
    · split
      · exact runGo_app a b _ _
      · split
        · exact runGo_app a b _ _
        · split
          · split
            · rfl
            · exact runGo_app a b _ _
          · exact runGo_app a b _ _
theorem run_unis : ∀ (us : List Ins), (∀ i ∈ us, isU i = true ∧ isS i = false) → runGo (us.length : Int) false us = some (0, false)
  | [], _ => rfl
  | i :: us, h => by
    obtain ⟨h1, h2⟩ := h i List.mem_cons_self
    have hl : ((i :: us).length : Int) > 0 := by simp
    unfold runGo
    rw [h1, h2, decide_eq_true hl]
    simp only [Bool.or_false, bne_self_eq_false, Bool.and_false, Bool.false_and, Bool.false_eq_true, if_false]
    rw [if_pos hl, show ((i :: us).length : Int) - 1 = (us.length : Int) by simp]
    exact run_unis us fun j hj => h j (List.mem_cons_of_mem _ hj)
theorem run_sets : ∀ (us : List Ins), (∀ i ∈ us, isU i = false ∧ isS i = true) → runGo (us.length : Int) true us = some (0, true)
  | [], _ => rfl
  | i :: us, h => by
    obtain ⟨h1, h2⟩ := h i List.mem_cons_self
    have hl : ((i :: us).length : Int) > 0 := by simp
    unfold runGo
    rw [h1, h2, decide_eq_true hl]
    simp only [Bool.false_or, bne_self_eq_false, Bool.and_false, Bool.false_and, Bool.not_true, Bool.or_self, Bool.false_eq_true, if_false]
    rw [if_pos hl, show ((i :: us).length : Int) - 1 = (us.length : Int) by simp]
    exact run_sets us fun j hj => h j (List.mem_cons_of_mem _ hj)
theorem var_app (m : MkS) (n f g a : Int) : ∃ i : Ins, (m.var n f g a).code = m.code ++ [i] ∧ (i.op = f ∨ i.op = g) := by
  unfold MkS.var
  split
  · exact ⟨_, rfl, .inr rfl⟩
  · exact ⟨_, rfl, .inl rfl⟩
theorem unifyS_app : ∀ (ts : List Tm) (m : MkS), KindsL ts → ∃ us : List Ins, (unifyS ts m).1.code = m.code ++ us ∧ us.length = ts.length ∧ ∀ i ∈ us, isU i = true ∧ isS i = false
  | [], m, _ => ⟨[], by simp [unifyS], rfl, by simp⟩
  | t :: ts, m, h => by
    have hk : kindOk t.hd := KindsL.mem h t List.mem_cons_self
    have mk : ∀ (m' : MkS) (i : Ins), m'.code = m.code ++ [i] → (isU i = true ∧ isS i = false) → ∃ us : List Ins, (unifyS ts m').1.code = m.code ++ us ∧ us.length = (t :: ts).length ∧ ∀ j ∈ us, isU j = true ∧ isS j = false := by
      intro m' i e hi
      obtain ⟨us, a, b, c⟩ := unifyS_app ts m' h.2
      refine ⟨i :: us, by rw [a, e]; simp, by simp [b], fun j hj => ?_⟩
      rcases List.mem_cons.1 hj with rfl | hj
      · exact hi
      · exact c j hj
    unfold unifyS
    rcases hk with h1 | h2 | h3
    · rw [if_pos h1]
      obtain ⟨i, e, ho⟩ := var_app m t.hd.n 5 6 0
      exact mk _ i e (by rcases ho with ho | ho <;> simp [isU, isS, ho])
    · rw [if_neg (by omega), if_pos h2]
      exact mk _ _ rfl (by simp [isU, isS])
    · rw [if_neg (by omega), if_neg (by omega), if_pos h3]
      exact mk _ _ rfl (by simp [isU, isS])
theorem setS_app (c : Cel) (h : kindOk c) (r : Int) (m : MkS) : ∃ i : Ins, (setS c r m).code = m.code ++ [i] ∧ isU i = false ∧ isS i = true := by
  unfold setS
  rcases h with h | h | h
  · rw [if_pos h]
    obtain ⟨i, e, ho⟩ := var_app m c.n 9 10 0
    exact ⟨i, e, by rcases ho with ho | ho <;> simp [isU, isS, ho]⟩
  · rw [if_neg (by omega), if_pos h]
    exact ⟨_, rfl, by simp [isU, isS]⟩
  · rw [if_neg (by omega), if_neg (by omega), if_pos h]
    exact ⟨_, rfl, by simp [isU, isS]⟩
theorem setsS_app : ∀ (ts : List Tm) (rs : List Int) (m : MkS), ts.length = rs.length → (∀ t ∈ ts, kindOk t.hd) → ∃ us : List Ins, (setsS ts rs m).code = m.code ++ us ∧ us.length = ts.length ∧ ∀ i ∈ us, isU i = false ∧ isS i = true
  | [], [], m, _, _ => ⟨[], by simp [setsS], rfl, by simp⟩
  | [], _ :: _, m, h, _ => by simp at h
  | _ :: _, [], m, h, _ => by simp at h
  | t :: ts, r :: rs, m, h, hk => by
    unfold setsS
    obtain ⟨i, e, h1, h2⟩ := setS_app t.hd (hk t List.mem_cons_self) r m
    obtain ⟨us, a, b, c⟩ := setsS_app ts rs (setS t.hd r m) (by simpa using h) (fun u hu => hk u (List.mem_cons_of_mem _ hu))
    refine ⟨i :: us, by rw [a, e]; simp, by simp [b], fun j hj => ?_⟩
    rcases List.mem_cons.1 hj with rfl | hj
    · exact ⟨h1, h2⟩
    · exact c j hj
mutual
/-- Funs have az many arguments az they say -/
def Aris : Tm → Prop
  | .mk c ts => (c.k = 3 → c.n = (ts.length : Int)) ∧ ArisL ts
def ArisL : List Tm → Prop
  | [] => True
  | t :: ts => Aris t ∧ ArisL ts
end
theorem ArisL.of : ∀ {ts : List Tm}, ArisL ts → ∀ t ∈ ts, Aris t
  | [], _, t, h => by cases h
  | u :: ts, h, t, hm => by
    rcases List.mem_cons.1 hm with rfl | hm
    · exact h.1
    · exact ArisL.of h.2 t hm
/-- a step that is none of them -/
theorem run_other {i : Ins} {b : Bool} (h1 : isU i = false) (h2 : isS i = false) (h8 : i.op ≠ 8) (h4 : i.op ≠ 4) : runGo 0 b [i] = some (0, b) := by
  unfold runGo
  rw [h1, h2]
  simp [h8, h4, runGo]
theorem getS_app (p : Tm × Int) (m : MkS) (h : Kinds p.1) (ha : Aris p.1) : ∃ ch : List Ins, (getS p m).1.code = m.code ++ ch ∧ runGo 0 false ch = some (0, false) ∧ (∀ q ∈ (getS p m).2, Kinds q.1 ∧ Aris q.1) := by
  obtain ⟨t, r⟩ := p
  cases t with
  | mk c ts =>
    have hk : kindOk c := h.1
    rcases hk with h1 | h2 | h3
    · have e : getS (Tm.mk c ts, r) m = (m.var c.n 1 2 r, []) := by unfold getS; exact if_pos h1
      obtain ⟨i, ec, ho⟩ := var_app m c.n 1 2 r
      rw [e]
      refine ⟨[i], ec, run_other ?_ ?_ ?_ ?_, fun q hq => by cases hq⟩
      · rcases ho with ho | ho <;> simp [isU, ho]
      · rcases ho with ho | ho <;> simp [isS, ho]
      · rcases ho with ho | ho <;> omega
      · rcases ho with ho | ho <;> omega
    · have e : getS (Tm.mk c ts, r) m = (m.lay ⟨3, 0, r, ⟨#[]⟩, c.n, false⟩, []) := by unfold getS; exact (if_neg (show ¬ c.k = 1 by omega)).trans (if_pos h2)
      rw [e]
      exact ⟨[_], rfl, run_other (by simp [isU]) (by simp [isS]) (by simp) (by simp), fun q hq => by cases hq⟩
    · have e : getS (Tm.mk c ts, r) m = unifyS ts (m.lay ⟨4, 0, r, c.s, c.n, false⟩) := by unfold getS; exact (if_neg (show ¬ c.k = 1 by omega)).trans ((if_neg (show ¬ c.k = 2 by omega)).trans (if_pos h3))
      rw [e]
      obtain ⟨us, a, b, cc⟩ := unifyS_app ts (m.lay ⟨4, 0, r, c.s, c.n, false⟩) h.2.2
      have d := (unifyS_len ts (m.lay ⟨4, 0, r, c.s, c.n, false⟩) h.2.2).2.2.2
      refine ⟨⟨4, 0, r, c.s, c.n, false⟩ :: us, by rw [a]; simp [MkS.lay], ?_, fun q hq => ⟨KindsL.of h.2.2 _ (d q hq), ArisL.of ha.2 _ (d q hq)⟩⟩
      unfold runGo
      have hn := ha.1 h3
      simp only [isU, isS]
      simp
      rw [hn, ← b]
      exact run_unis us cc
mutual
theorem structS_app : ∀ (t : Tm) (m : MkS), Kinds t → Aris t → t.hd.k = 3 → ∃ ch : List Ins, (structS t m).1.code = m.code ++ ch ∧ ∀ b, runGo 0 b ch = some (0, true)
  | .mk c ts, m, h, ha, h3 => by
    have h3' : c.k = 3 := h3
    obtain ⟨ch, a, b⟩ := innerS_app ts m h.2.2 ha.2
    obtain ⟨us, a2, b2, c2⟩ := setsS_app ts (innerS ts m).2 ((innerS ts m).1.fresh.lay ⟨8, 0, (innerS ts m).1.next, c.s, c.n, false⟩) (innerS_regs ts m).symm (KindsL.mem h.2.2)
    refine ⟨ch ++ (⟨8, 0, (innerS ts m).1.next, c.s, c.n, false⟩ :: us), ?_, fun b0 => ?_⟩
    · unfold structS
      simp only
      rw [a2]
      simp [MkS.lay, MkS.fresh, a]
    · obtain ⟨b1, hb1⟩ := b b0
      rw [runGo_app, hb1]
      simp only [Option.bind_some]
      unfold runGo
      have hn := ha.1 h3'
      simp only [isU, isS]
      simp
      rw [hn, ← b2]
      exact run_sets us c2
theorem innerS_app : ∀ (ts : List Tm) (m : MkS), KindsL ts → ArisL ts → ∃ ch : List Ins, (innerS ts m).1.code = m.code ++ ch ∧ ∀ b, ∃ b', runGo 0 b ch = some (0, b')
  | [], m, _, _ => ⟨[], by simp [innerS], fun b => ⟨b, rfl⟩⟩
  | t :: ts, m, h, ha => by
    by_cases h3 : t.hd.k = 3
    · obtain ⟨ch, a, b⟩ := structS_app t m h.1 ha.1 h3
      obtain ⟨ch2, a2, b2⟩ := innerS_app ts (structS t m).1 h.2 ha.2
      refine ⟨ch ++ ch2, by unfold innerS; rw [if_pos h3]; simp only; rw [a2, a, List.append_assoc], fun b0 => ?_⟩
      rw [runGo_app, b b0]
      exact b2 true
    · obtain ⟨ch2, a2, b2⟩ := innerS_app ts m h.2 ha.2
      exact ⟨ch2, by unfold innerS; rw [if_neg h3]; exact a2, b2⟩
end
theorem rowOf_mem : ∀ (ts : List Tm) (i : Nat), ∀ p ∈ rowOf ts i, p.1 ∈ ts
  | [], _, p, h => by cases h
  | t :: ts, i, p, h => by
    unfold rowOf at h
    rcases List.mem_cons.1 h with rfl | h
    · exact List.mem_cons_self
    · exact List.mem_cons_of_mem _ (rowOf_mem ts (i + 1) p h)
/-! #### each register set once, ahead of its use -/
def isVal (i : Ins) : Bool := i.op == 2 || i.op == 6 || i.op == 10
def isArg (i : Ins) : Bool := i.op == 1 || i.op == 2 || i.op == 3 || i.op == 4 || i.op == 12
def setsX (i : Ins) : Bool := i.op == 1 || i.op == 5 || i.op == 9
/-- the registers below k are set: what an instruction uses is, what it sets is k -/
def onceGo (k : Int) : List Ins → Option Int
  | [] => some k
  | i :: l =>
    if (isVal i && !(decide (0 ≤ i.x) && decide (i.x < k))) || (isArg i && !(decide (0 ≤ i.a) && decide (i.a < k))) then none
    else if setsX i then (if i.x = k then onceGo (k + 1) l else none)
    else if i.op = 8 then (if i.a = k then onceGo (k + 1) l else none)
    else onceGo k l
theorem onceGo_cons (i : Ins) (l : List Ins) (k : Int) : onceGo k (i :: l) = if (isVal i && !(decide (0 ≤ i.x) && decide (i.x < k))) || (isArg i && !(decide (0 ≤ i.a) && decide (i.a < k))) then none
    else if setsX i then (if i.x = k then onceGo (k + 1) l else none)
    else if i.op = 8 then (if i.a = k then onceGo (k + 1) l else none)
    else onceGo k l := rfl
theorem onceGo_app : ∀ (a b : List Ins) (k : Int), onceGo k (a ++ b) = (onceGo k a).bind fun q => onceGo q b
  | [], b, k => rfl
  | i :: a, b, k => by
    rw [List.cons_append, onceGo_cons, onceGo_cons i a]
    split
    · rfl
    · split
      · split
        · exact onceGo_app a b _
        · rfl
      · split
        · split
          · exact onceGo_app a b _
          · rfl
        · exact onceGo_app a b _
/-- a maker whose variables' registers are set -/
def MkS.fit (m : MkS) : Prop := 0 ≤ m.next ∧ ∀ n r, m.at_ n = some r → 0 ≤ r ∧ r < m.next
/-- what a piece of work lays: code that keeps the rule, and a maker that fits -/
def Lays (m m' : MkS) : Prop := m'.fit ∧ m.next ≤ m'.next ∧ ∃ ch : List Ins, m'.code = m.code ++ ch ∧ onceGo m.next ch = some m'.next
theorem Lays.refl {m : MkS} (h : m.fit) : Lays m m := ⟨h, by omega, [], by simp, rfl⟩
theorem Lays.trans {m m' m'' : MkS} (h : Lays m m') (h' : Lays m' m'') : Lays m m'' := by
  obtain ⟨_, n1, ch, e, o⟩ := h
  obtain ⟨f, n2, ch', e', o'⟩ := h'
  exact ⟨f, by omega, ch ++ ch', by rw [e', e, List.append_assoc], by rw [onceGo_app, o]; exact o'⟩
theorem var_lays (m : MkS) (n f g a : Int) (h : m.fit) (hf : f = 1 ∨ f = 5 ∨ f = 9) (hg : g = f + 1) (ha : f = 1 → 0 ≤ a ∧ a < m.next) : Lays m (m.var n f g a) := by
  obtain ⟨h0, hm⟩ := h
  unfold MkS.var
  cases hr : m.at_ n with
  | some r =>
    obtain ⟨r1, r2⟩ := hm n r hr
    refine ⟨⟨h0, hm⟩, by simp [MkS.lay], [⟨g, r, a, ⟨#[]⟩, 0, false⟩], rfl, ?_⟩
    rw [onceGo_cons]
    rcases hf with rfl | rfl | rfl
    · obtain ⟨a1, a2⟩ := ha rfl
      subst hg
      simp [isVal, isArg, setsX, onceGo, MkS.lay, r1, r2, a1, a2]
    · subst hg
      simp [isVal, isArg, setsX, onceGo, MkS.lay, r1, r2]
    · subst hg
      simp [isVal, isArg, setsX, onceGo, MkS.lay, r1, r2]
  | none =>
    refine ⟨⟨by simp [MkS.lay, MkS.fresh]; omega, fun j r hj => ?_⟩, by simp [MkS.lay, MkS.fresh]; omega, [⟨f, m.next, a, ⟨#[]⟩, 0, false⟩], rfl, ?_⟩
    · simp only [MkS.lay, MkS.fresh] at hj ⊢
      split at hj
      · injection hj with hj; omega
      · have := hm j r hj; omega
    · rw [onceGo_cons]
      rcases hf with rfl | rfl | rfl
      · obtain ⟨a1, a2⟩ := ha rfl
        simp [isVal, isArg, setsX, onceGo, MkS.lay, MkS.fresh, a1, a2]
      · simp [isVal, isArg, setsX, onceGo, MkS.lay, MkS.fresh]
      · simp [isVal, isArg, setsX, onceGo, MkS.lay, MkS.fresh]
theorem lay_lays {m : MkS} (h : m.fit) (i : Ins) (ho : onceGo m.next [i] = some m.next) : Lays m (m.lay i) := ⟨h, by simp [MkS.lay], [i], rfl, ho⟩
theorem fresh_lays {m : MkS} (h : m.fit) (i : Ins) (ho : onceGo m.next [i] = some (m.next + 1)) : Lays m (m.fresh.lay i) := by
  refine ⟨⟨by have := h.1; simp [MkS.lay, MkS.fresh]; omega, fun n r hr => ?_⟩, by simp [MkS.lay, MkS.fresh]; omega, [i], rfl, ho⟩
  have := h.2 n r hr
  simp [MkS.lay, MkS.fresh]; omega
theorem unifyS_lays : ∀ (ts : List Tm) (m : MkS), KindsL ts → m.fit → Lays m (unifyS ts m).1 ∧ ∀ p ∈ (unifyS ts m).2, 0 ≤ p.2 ∧ p.2 < (unifyS ts m).1.next
  | [], m, _, h => by simp [unifyS]; exact Lays.refl h
  | t :: ts, m, hk, h => by
    have hkt : kindOk t.hd := KindsL.mem hk t List.mem_cons_self
    unfold unifyS
    rcases hkt with h1 | h2 | h3
    · rw [if_pos h1]
      have hl := var_lays m t.hd.n 5 6 0 h (by omega) (by omega) (by omega)
      obtain ⟨a, b⟩ := unifyS_lays ts _ hk.2 hl.1
      exact ⟨hl.trans a, b⟩
    · rw [if_neg (by omega), if_pos h2]
      have hl := lay_lays h ⟨7, 0, 0, ⟨#[]⟩, t.hd.n, false⟩ (by simp [onceGo, isVal, isArg, setsX])
      obtain ⟨a, b⟩ := unifyS_lays ts _ hk.2 hl.1
      exact ⟨hl.trans a, b⟩
    · rw [if_neg (by omega), if_neg (by omega), if_pos h3]
      have hl := fresh_lays h ⟨5, m.next, 0, ⟨#[]⟩, 0, false⟩ (by simp [onceGo, isVal, isArg, setsX])
      obtain ⟨a, b⟩ := unifyS_lays ts _ hk.2 hl.1
      refine ⟨hl.trans a, fun p hp => ?_⟩
      rcases List.mem_cons.1 hp with rfl | hp
      · have h0 := h.1
        have h5 := a.2.1
        simp [MkS.lay, MkS.fresh] at h5 ⊢
        omega
      · exact b p hp
theorem getS_lays (p : Tm × Int) (m : MkS) (hk : Kinds p.1) (h : m.fit) (hp : 0 ≤ p.2 ∧ p.2 < m.next) : Lays m (getS p m).1 ∧ ∀ q ∈ (getS p m).2, 0 ≤ q.2 ∧ q.2 < (getS p m).1.next := by
  obtain ⟨t, r⟩ := p
  obtain ⟨p1, p2⟩ := hp
  simp only at p1 p2
  cases t with
  | mk c ts =>
    rcases (show kindOk c from hk.1) with h1 | h2 | h3
    · have e : getS (Tm.mk c ts, r) m = (m.var c.n 1 2 r, []) := by unfold getS; exact if_pos h1
      rw [e]
      exact ⟨var_lays m c.n 1 2 r h (by omega) (by omega) fun _ => ⟨p1, p2⟩, fun q hq => by cases hq⟩
    · have e : getS (Tm.mk c ts, r) m = (m.lay ⟨3, 0, r, ⟨#[]⟩, c.n, false⟩, []) := by unfold getS; exact (if_neg (show ¬ c.k = 1 by omega)).trans (if_pos h2)
      rw [e]
      exact ⟨lay_lays h _ (by simp [onceGo, isVal, isArg, setsX, p1, p2]), fun q hq => by cases hq⟩
    · have e : getS (Tm.mk c ts, r) m = unifyS ts (m.lay ⟨4, 0, r, c.s, c.n, false⟩) := by unfold getS; exact (if_neg (show ¬ c.k = 1 by omega)).trans ((if_neg (show ¬ c.k = 2 by omega)).trans (if_pos h3))
      rw [e]
      have hl := lay_lays h ⟨4, 0, r, c.s, c.n, false⟩ (by simp [onceGo, isVal, isArg, setsX, p1, p2])
      obtain ⟨a, b⟩ := unifyS_lays ts _ hk.2.2 hl.1
      exact ⟨hl.trans a, b⟩
theorem rowS_lays : ∀ (f : Nat) (ps : List (Tm × Int)) (m : MkS), (∀ p ∈ ps, Kinds p.1 ∧ 0 ≤ p.2 ∧ p.2 < m.next) → m.fit → Lays m (rowS f ps m)
  | 0, _, m, _, h => Lays.refl h
  | _ + 1, [], m, _, h => Lays.refl h
  | f + 1, p :: ps, m, hp, h => by
    obtain ⟨h1, h2⟩ := hp p List.mem_cons_self
    obtain ⟨a, b⟩ := getS_lays p m h1 h h2
    obtain ⟨_, _, c⟩ := getS_len p m h1
    unfold rowS
    refine a.trans (rowS_lays f _ _ (fun q hq => ?_) a.1)
    rcases List.mem_append.1 hq with hq | hq
    · have := hp q (List.mem_cons_of_mem _ hq)
      have := a.2.1
      exact ⟨(hp q (List.mem_cons_of_mem _ hq)).1, by omega, by omega⟩
    · exact ⟨c q hq, b q hq⟩
theorem setS_lays (c : Cel) (hk : kindOk c) (r : Int) (m : MkS) (h : m.fit) (hr : c.k = 3 → 0 ≤ r ∧ r < m.next) : Lays m (setS c r m) := by
  unfold setS
  rcases hk with h1 | h2 | h3
  · rw [if_pos h1]; exact var_lays m c.n 9 10 0 h (by omega) (by omega) (by omega)
  · rw [if_neg (by omega), if_pos h2]; exact lay_lays h _ (by simp [onceGo, isVal, isArg, setsX])
  · obtain ⟨r1, r2⟩ := hr h3
    rw [if_neg (by omega), if_neg (by omega), if_pos h3]; exact lay_lays h _ (by simp [onceGo, isVal, isArg, setsX, r1, r2])
/-- registers fit arguments -/
def RegsOk (m : MkS) : List Tm → List Int → Prop
  | t :: ts, r :: rs => (t.hd.k = 3 → 0 ≤ r ∧ r < m.next) ∧ RegsOk m ts rs
  | _, _ => True
theorem RegsOk.mono {m m' : MkS} (hn : m.next ≤ m'.next) : ∀ {ts : List Tm} {rs : List Int}, RegsOk m ts rs → RegsOk m' ts rs
  | [], [], _ => trivial
  | [], _ :: _, _ => trivial
  | _ :: _, [], _ => trivial
  | _ :: _, _ :: _, ⟨h1, h2⟩ => ⟨fun e => by have := h1 e; omega, h2.mono hn⟩
theorem setsS_lays : ∀ (ts : List Tm) (rs : List Int) (m : MkS), (∀ t ∈ ts, kindOk t.hd) → m.fit → RegsOk m ts rs → Lays m (setsS ts rs m)
  | [], [], m, _, h, _ => Lays.refl h
  | [], _ :: _, m, _, h, _ => Lays.refl h
  | _ :: _, [], m, _, h, _ => Lays.refl h
  | t :: ts, r :: rs, m, hk, h, ⟨h1, h2⟩ => by
    unfold setsS
    have a := setS_lays t.hd (hk t List.mem_cons_self) r m h h1
    exact a.trans (setsS_lays ts rs _ (fun u hu => hk u (List.mem_cons_of_mem _ hu)) a.1 (h2.mono a.2.1))
mutual
theorem structS_lays : ∀ (t : Tm) (m : MkS), Kinds t → m.fit → Lays m (structS t m).1 ∧ 0 ≤ (structS t m).2 ∧ (structS t m).2 < (structS t m).1.next
  | .mk c ts, m, hk, h => by
    obtain ⟨a, b⟩ := innerS_lays ts m hk.2.2 h
    have hl := fresh_lays a.1 ⟨8, 0, (innerS ts m).1.next, c.s, c.n, false⟩ (by simp [onceGo, isVal, isArg, setsX])
    have hs := setsS_lays ts (innerS ts m).2 _ (KindsL.mem hk.2.2) hl.1 (b.mono (by simp [MkS.lay, MkS.fresh]; omega))
    unfold structS
    refine ⟨a.trans (hl.trans hs), a.1.1, ?_⟩
    have := hs.2.1
    simp [MkS.lay, MkS.fresh] at this ⊢
    omega
theorem innerS_lays : ∀ (ts : List Tm) (m : MkS), KindsL ts → m.fit → Lays m (innerS ts m).1 ∧ RegsOk (innerS ts m).1 ts (innerS ts m).2
  | [], m, _, h => by simp [innerS]; exact ⟨Lays.refl h, trivial⟩
  | t :: ts, m, hk, h => by
    by_cases h3 : t.hd.k = 3
    · obtain ⟨a, r1, r2⟩ := structS_lays t m hk.1 h
      obtain ⟨b, c⟩ := innerS_lays ts (structS t m).1 hk.2 a.1
      unfold innerS
      rw [if_pos h3]
      have := b.2.1
      exact ⟨a.trans b, fun _ => ⟨r1, by simp only; omega⟩, c⟩
    · obtain ⟨b, c⟩ := innerS_lays ts m hk.2 h
      unfold innerS
      rw [if_neg h3]
      exact ⟨b, fun e => absurd e h3, c⟩
end
theorem lits_lays : ∀ (b : List (Bool × Tm)) (m : MkS), (∀ x ∈ b, Kinds x.2) → m.fit → Lays m (b.foldl (fun m x => litS x m) m)
  | [], m, _, h => Lays.refl h
  | x :: b, m, hb, h => by
    obtain ⟨a, r1, r2⟩ := structS_lays x.2 m (hb x List.mem_cons_self) h
    have hl := lay_lays a.1 ⟨12, 0, (structS x.2 m).2, ⟨#[]⟩, 0, x.1⟩ (by simp [onceGo, isVal, isArg, setsX, r1, r2])
    rw [List.foldl_cons]
    exact (a.trans hl).trans (lits_lays b _ (fun y hy => hb y (List.mem_cons_of_mem _ hy)) hl.1)
/-! #### how many registers -/
def inX (i : Ins) : Bool := i.op == 1 || i.op == 2 || i.op == 5 || i.op == 6 || i.op == 9 || i.op == 10
def inA (i : Ins) : Bool := i.op == 1 || i.op == 2 || i.op == 3 || i.op == 4 || i.op == 8 || i.op == 12
def regs1 (n : Int) (i : Ins) : Int := let n' := if inX i then max n (i.x + 1) else n; if inA i then max n' (i.a + 1) else n'
def regsL (l : List Ins) : Int := l.foldl regs1 0
theorem regs1_ge (n : Int) (i : Ins) : n ≤ regs1 n i ∧ (inX i = true → i.x + 1 ≤ regs1 n i) ∧ (inA i = true → i.a + 1 ≤ regs1 n i) := by
  unfold regs1
  simp only
  refine ⟨?_, fun h => ?_, fun h => ?_⟩
  · split <;> split <;> omega
  · rw [if_pos h]; split <;> omega
  · rw [if_pos h]; omega
theorem regs1_le {n : Int} {i : Ins} {K : Int} (h : n ≤ K) (hx : inX i = true → i.x + 1 ≤ K) (ha : inA i = true → i.a + 1 ≤ K) : regs1 n i ≤ K := by
  unfold regs1
  simp only
  split
  · rename_i h2
    have := ha h2
    split
    · rename_i h1; have := hx h1; omega
    · omega
  · split
    · rename_i h1; have := hx h1; omega
    · omega
theorem fold_ge : ∀ (l : List Ins) (n : Int), n ≤ l.foldl regs1 n ∧ ∀ i ∈ l, (inX i = true → i.x + 1 ≤ l.foldl regs1 n) ∧ (inA i = true → i.a + 1 ≤ l.foldl regs1 n)
  | [], n => ⟨by simp, fun i hi => by cases hi⟩
  | j :: l, n => by
    obtain ⟨a, b⟩ := fold_ge l (regs1 n j)
    obtain ⟨c, d, e⟩ := regs1_ge n j
    rw [List.foldl_cons]
    refine ⟨by omega, fun i hi => ?_⟩
    rcases List.mem_cons.1 hi with rfl | hi
    · exact ⟨fun h => by have := d h; omega, fun h => by have := e h; omega⟩
    · exact b i hi
theorem fold_le : ∀ (l : List Ins) (n K : Int), n ≤ K → (∀ i ∈ l, (inX i = true → i.x + 1 ≤ K) ∧ (inA i = true → i.a + 1 ≤ K)) → l.foldl regs1 n ≤ K
  | [], n, K, h, _ => by simpa using h
  | j :: l, n, K, h, hl => by
    rw [List.foldl_cons]
    obtain ⟨h1, h2⟩ := hl j List.mem_cons_self
    exact fold_le l _ K (regs1_le h h1 h2) fun i hi => hl i (List.mem_cons_of_mem _ hi)
theorem inX_or {i : Ins} (h : inX i = true) : isVal i = true ∨ setsX i = true := by
  unfold inX at h
  unfold isVal setsX
  simp at h ⊢
  omega
theorem inA_or {i : Ins} (h : inA i = true) : isArg i = true ∨ i.op = 8 := by
  unfold inA at h
  unfold isArg
  simp at h ⊢
  omega
theorem op8_sets {i : Ins} (h : i.op = 8) : setsX i = false := by simp [setsX, h]
theorem once_facts : ∀ (l : List Ins) (k K : Int), onceGo k l = some K → k ≤ K ∧ (∀ i ∈ l, (inX i = true → i.x < K) ∧ (inA i = true → i.a < K)) ∧ (k < K → ∃ i ∈ l, (inX i = true ∧ i.x = K - 1) ∨ (inA i = true ∧ i.a = K - 1))
  | [], k, K, h => by
    unfold onceGo at h
    injection h with h
    exact ⟨by omega, (fun i hi => by cases hi), fun e => by omega⟩
  | i :: l, k, K, h => by
    rw [onceGo_cons] at h
    split at h
    · cases h
    · rename_i hc
      have hcc : ¬ ((isVal i && !(decide (0 ≤ i.x) && decide (i.x < k))) || (isArg i && !(decide (0 ≤ i.a) && decide (i.a < k)))) = true := hc
      have hval : isVal i = true → i.x < k := fun hv => by
        rw [hv] at hcc
        simp at hcc
        exact hcc.1.2
      have harg : isArg i = true → i.a < k := fun hv => by
        rw [hv] at hcc
        simp at hcc
        exact hcc.2.2
      -- what follows, from the register k' on
      have go : ∀ k' : Int, k ≤ k' → onceGo k' l = some K → (setsX i = true → i.x < k') → (i.op = 8 → i.a < k') → (k < k' → k' = k + 1 ∧ ((inX i = true ∧ i.x = k) ∨ (inA i = true ∧ i.a = k))) → k ≤ K ∧ (∀ j ∈ i :: l, (inX j = true → j.x < K) ∧ (inA j = true → j.a < K)) ∧ (k < K → ∃ j ∈ i :: l, (inX j = true ∧ j.x = K - 1) ∨ (inA j = true ∧ j.a = K - 1)) := by
        intro k' hk ho hs h8 hnew
        obtain ⟨a, b, c⟩ := once_facts l k' K ho
        refine ⟨by omega, fun j hj => ?_, fun hlt => ?_⟩
        · rcases List.mem_cons.1 hj with rfl | hj
          · refine ⟨fun e => ?_, fun e => ?_⟩
            · rcases inX_or e with e | e
              · have := hval e; omega
              · have := hs e; omega
            · rcases inA_or e with e | e
              · have := harg e; omega
              · have := h8 e; omega
          · exact b j hj
        · by_cases hk2 : k' < K
          · obtain ⟨j, hj, hc⟩ := c hk2
            exact ⟨j, List.mem_cons_of_mem _ hj, hc⟩
          · obtain ⟨e1, e2⟩ := hnew (by omega)
            refine ⟨i, List.mem_cons_self, ?_⟩
            rcases e2 with ⟨e2, e3⟩ | ⟨e2, e3⟩
            · exact .inl ⟨e2, by omega⟩
            · exact .inr ⟨e2, by omega⟩
      split at h
      · rename_i hs
        split at h
        · rename_i hx
          refine go (k + 1) (by omega) h (fun _ => by omega) (fun h8 => by rw [op8_sets h8] at hs; cases hs) (fun _ => ⟨rfl, .inl ⟨?_, hx⟩⟩)
          unfold setsX at hs
          unfold inX
          simp at hs ⊢
          omega
        · cases h
      · rename_i hs
        split at h
        · rename_i h8
          split at h
          · rename_i ha
            exact go (k + 1) (by omega) h (fun e => absurd e hs) (fun _ => by omega) (fun _ => ⟨rfl, .inr ⟨by simp [inA, h8], ha⟩⟩)
          · cases h
        · rename_i h8
          exact go k (by omega) h (fun e => absurd e hs) (fun e => absurd e h8) (fun e => by omega)
/-- each term on a head's row is asked of its register -/
theorem getS_asks (p : Tm × Int) (m : MkS) (h : Kinds p.1) : ∃ i ch, (getS p m).1.code = m.code ++ i :: ch ∧ inA i = true ∧ i.a = p.2 := by
  obtain ⟨t, r⟩ := p
  cases t with
  | mk c ts =>
    rcases (show kindOk c from h.1) with h1 | h2 | h3
    · have e : getS (Tm.mk c ts, r) m = (m.var c.n 1 2 r, []) := by unfold getS; exact if_pos h1
      rw [e]
      unfold MkS.var
      split
      · exact ⟨_, [], rfl, by simp [inA], rfl⟩
      · exact ⟨_, [], rfl, by simp [inA], rfl⟩
    · have e : getS (Tm.mk c ts, r) m = (m.lay ⟨3, 0, r, ⟨#[]⟩, c.n, false⟩, []) := by unfold getS; exact (if_neg (show ¬ c.k = 1 by omega)).trans (if_pos h2)
      rw [e]
      exact ⟨_, [], rfl, by simp [inA], rfl⟩
    · have e : getS (Tm.mk c ts, r) m = unifyS ts (m.lay ⟨4, 0, r, c.s, c.n, false⟩) := by unfold getS; exact (if_neg (show ¬ c.k = 1 by omega)).trans ((if_neg (show ¬ c.k = 2 by omega)).trans (if_pos h3))
      rw [e]
      obtain ⟨us, a, _, _⟩ := unifyS_app ts (m.lay ⟨4, 0, r, c.s, c.n, false⟩) h.2.2
      exact ⟨⟨4, 0, r, c.s, c.n, false⟩, us, by rw [a]; simp [MkS.lay], by simp [inA], rfl⟩
theorem rowS_asks : ∀ (f : Nat) (ps : List (Tm × Int)) (m : MkS), (∀ p ∈ ps, Kinds p.1) → sumF ps ≤ f → (∀ i ∈ m.code, i ∈ (rowS f ps m).code) ∧ ∀ p ∈ ps, ∃ i ∈ (rowS f ps m).code, inA i = true ∧ i.a = p.2
  | 0, [], m, _, _ => ⟨fun i hi => hi, fun p hp => by cases hp⟩
  | 0, p :: ps, m, _, h => by
    have := flat_pos p.1
    have e : sumF (p :: ps) = p.1.flat.length + sumF ps := by simp [sumF]
    omega
  | _ + 1, [], m, _, _ => ⟨fun i hi => hi, fun p hp => by cases hp⟩
  | f + 1, p :: ps, m, hk, h => by
    obtain ⟨_, b, c⟩ := getS_len p m (hk p List.mem_cons_self)
    obtain ⟨i, ch, e, h1, h2⟩ := getS_asks p m (hk p List.mem_cons_self)
    have e1 : sumF (p :: ps) = p.1.flat.length + sumF ps := by simp [sumF]
    obtain ⟨k1, k2⟩ := rowS_asks f (ps ++ (getS p m).2) (getS p m).1 (fun q hq => by
      rcases List.mem_append.1 hq with hq | hq
      · exact hk q (List.mem_cons_of_mem _ hq)
      · exact c q hq) (by rw [sumF_app]; omega)
    unfold rowS
    refine ⟨fun j hj => k1 j (by rw [e]; exact List.mem_append_left _ hj), fun q hq => ?_⟩
    rcases List.mem_cons.1 hq with rfl | hq
    · exact ⟨i, k1 i (by rw [e]; simp), h1, h2⟩
    · exact k2 q (List.mem_append_left _ hq)
theorem rowOf_regs : ∀ (ts : List Tm) (i : Nat) (r : Nat), i ≤ r → r < i + ts.length → ∃ p ∈ rowOf ts i, p.2 = (r : Int)
  | [], i, r, h1, h2 => by simp at h2; omega
  | t :: ts, i, r, h1, h2 => by
    unfold rowOf
    by_cases e : r = i
    · exact ⟨_, List.mem_cons_self, by rw [e]⟩
    · obtain ⟨p, hp, e2⟩ := rowOf_regs ts (i + 1) r (by omega) (by simp at h2; omega)
      exact ⟨p, List.mem_cons_of_mem _ hp, e2⟩
theorem rowOf_low : ∀ (ts : List Tm) (i : Nat), ∀ p ∈ rowOf ts i, (i : Int) ≤ p.2 ∧ p.2 < (i : Int) + ts.length
  | [], i, p, h => by cases h
  | t :: ts, i, p, h => by
    unfold rowOf at h
    rcases List.mem_cons.1 h with rfl | h
    · simp; omega
    · have := rowOf_low ts (i + 1) p h
      simp at this ⊢
      omega
/-- the registers of a clause's code: all that were set, from the head's arguments on -/
theorem compS_regs (h : Tm) (b : List (Bool × Tm)) (hh : Kinds h) (ha : Aris h) (h3 : h.hd.k = 3) (hb : ∀ x ∈ b, Kinds x.2) : ∃ K : Int, h.hd.n ≤ K ∧ onceGo h.hd.n (compS h b) = some K ∧ regsL (compS h b) = K := by
  cases h with
  | mk c ts =>
    have hn : c.n = (ts.length : Int) := ha.1 h3
    have hf0 : (⟨[], c.n, fun _ => none⟩ : MkS).fit := ⟨by simp only; omega, fun n r hr => by cases hr⟩
    have hps : ∀ p ∈ rowOf ts 0, Kinds p.1 ∧ 0 ≤ p.2 ∧ p.2 < c.n := fun p hp => by
      have := rowOf_low ts 0 p hp
      exact ⟨KindsL.of hh.2.2 _ (rowOf_mem ts 0 p hp), by omega, by omega⟩
    have hsum : sumF (rowOf ts 0) ≤ 2 * (Tm.mk c ts).flat.length + 1 := by rw [rowOf_sums]; simp [Tm.flat]; omega
    have l1 := rowS_lays (2 * (Tm.mk c ts).flat.length + 1) (rowOf ts 0) ⟨[], c.n, fun _ => none⟩ hps hf0
    have asks := (rowS_asks (2 * (Tm.mk c ts).flat.length + 1) (rowOf ts 0) ⟨[], c.n, fun _ => none⟩ (fun p hp => (hps p hp).1) hsum).2
    have l2 := lits_lays b (rowS (2 * (Tm.mk c ts).flat.length + 1) (rowOf ts 0) ⟨[], c.n, fun _ => none⟩) hb l1.1
    obtain ⟨f2, n2, ch, e2, o2⟩ := l1.trans l2
    obtain ⟨_, _, ch2, e3, _⟩ := l2
    generalize hm : b.foldl (fun m x => litS x m) (rowS (2 * (Tm.mk c ts).flat.length + 1) (rowOf ts 0) ⟨[], c.n, fun _ => none⟩) = m at f2 n2 e2 o2 e3
    have hc : compS (Tm.mk c ts) b = ch ++ [⟨13, 0, 0, c.s, c.n, false⟩] := by
      unfold compS
      show ((b.foldl (fun m x => litS x m) (rowS (2 * (Tm.mk c ts).flat.length + 1) (rowOf ts 0) ⟨[], c.n, fun _ => none⟩)).lay ⟨13, 0, 0, c.s, c.n, false⟩).code = _
      rw [hm]
      unfold MkS.lay
      rw [e2]
      simp
    have ho : onceGo c.n (compS (Tm.mk c ts) b) = some m.next := by
      rw [hc, onceGo_app]
      simp only at o2
      rw [o2]
      simp [onceGo, isVal, isArg, setsX]
    refine ⟨m.next, n2, ho, ?_⟩
    obtain ⟨k1, k2, k3⟩ := once_facts _ _ _ ho
    have up : regsL (compS (Tm.mk c ts) b) ≤ m.next := fold_le _ 0 _ f2.1 fun i hi => by
      obtain ⟨a1, a2⟩ := k2 i hi
      exact ⟨fun e => by have := a1 e; omega, fun e => by have := a2 e; omega⟩
    obtain ⟨g0, g1⟩ := fold_ge (compS (Tm.mk c ts) b) 0
    have dn : m.next ≤ regsL (compS (Tm.mk c ts) b) := by
      by_cases hlt : c.n < m.next
      · obtain ⟨i, hi, hx⟩ := k3 hlt
        obtain ⟨a1, a2⟩ := g1 i hi
        rcases hx with ⟨h4, h5⟩ | ⟨h4, h5⟩
        · have := a1 h4; unfold regsL; omega
        · have := a2 h4; unfold regsL; omega
      · by_cases h0 : ts.length = 0
        · have hz : (0 : Int) ≤ regsL (compS (Tm.mk c ts) b) := g0
          omega
        · obtain ⟨p, hp, ep⟩ := rowOf_regs ts 0 (ts.length - 1) (by omega) (by omega)
          obtain ⟨i, hi, h4, h5⟩ := asks p hp
          have hmem : i ∈ compS (Tm.mk c ts) b := by
            rw [hc]
            refine List.mem_append_left _ ?_
            have : i ∈ m.code := by rw [e3]; exact List.mem_append_left _ hi
            rw [e2] at this
            simpa using this
          have := (g1 i hmem).2 h4
          unfold regsL
          omega
    omega
/-! #### a body's code told again -/
abbrev Blt := Int → Option Tm
def updB (B : Blt) (r : Int) (t : Tm) : Blt := fun j => if j = r then some t else B j
def delB (B : Blt) (r : Int) : Blt := fun j => if j = r then none else B j
def vT (x : Int) : Tm := .mk ⟨1, ⟨#[]⟩, x⟩ []
def setD (i : Ins) (B : Blt) : Option (Tm × Blt) :=
  if i.op = 9 then some (vT i.x, B)
  else if i.op = 10 then some ((B i.x).getD (vT i.x), delB B i.x)
  else if i.op = 11 then some (.mk ⟨2, ⟨#[]⟩, i.n⟩ [], B)
  else none
inductive SetsR : List Ins → Blt → List Tm → Blt → Prop where
  | nil (B : Blt) : SetsR [] B [] B
  | cons {i : Ins} {l : List Ins} {B B' B'' : Blt} {t : Tm} {ts : List Tm} (h : setD i B = some (t, B')) (hs : SetsR l B' ts B'') : SetsR (i :: l) B (t :: ts) B''
inductive BodyR : List Ins → Blt → List (Bool × Tm) → Prop where
  | nil (B : Blt) : BodyR [] B []
  | put {i : Ins} {us rest : List Ins} {B B' : Blt} {ts : List Tm} {bs : List (Bool × Tm)} (h : i.op = 8) (hn : i.n = (us.length : Int)) (hs : SetsR us B ts B') (hr : BodyR rest (updB B' i.a (.mk ⟨3, i.s, i.n⟩ ts)) bs) : BodyR (i :: (us ++ rest)) B bs
  | call {i : Ins} {rest : List Ins} {B : Blt} {t : Tm} {bs : List (Bool × Tm)} (h : i.op = 12) (ht : B i.a = some t) (hr : BodyR rest (delB B i.a) bs) : BodyR (i :: rest) B ((i.neg, t) :: bs)
mutual
def renT (F : Int → Int) : Tm → Tm
  | .mk c ts => if c.k = 1 then vT (F c.n) else if c.k = 2 then .mk ⟨2, ⟨#[]⟩, c.n⟩ [] else .mk ⟨3, c.s, c.n⟩ (renTs F ts)
def renTs (F : Int → Int) : List Tm → List Tm
  | [] => []
  | t :: ts => renT F t :: renTs F ts
end
/-- variables' registers stay, and new ones are new -/
structure NewV (m m' : MkS) : Prop where
  keep : ∀ n r, m.at_ n = some r → m'.at_ n = some r
  new : ∀ n r, m'.at_ n = some r → m.at_ n = some r ∨ m.next ≤ r
  up : m.next ≤ m'.next
theorem NewV.refl (m : MkS) : NewV m m := ⟨fun _ _ h => h, fun _ _ h => .inl h, by omega⟩
theorem NewV.trans {m m' m'' : MkS} (h : NewV m m') (h' : NewV m' m'') : NewV m m'' :=
  ⟨fun n r e => h'.keep n r (h.keep n r e), fun n r e => by
    rcases h'.new n r e with e | e
    · exact h.new n r e
    · exact .inr (by have := h.up; omega), by have := h.up; have := h'.up; omega⟩
theorem NewV.lay (m : MkS) (i : Ins) : NewV m (m.lay i) := ⟨fun _ _ h => h, fun _ _ h => .inl h, by simp [MkS.lay]⟩
theorem NewV.fresh (m : MkS) : NewV m m.fresh := ⟨fun _ _ h => h, fun _ _ h => .inl h, by simp [MkS.fresh]; omega⟩
theorem NewV.var (m : MkS) (n f g a : Int) : NewV m (m.var n f g a) := by
  unfold MkS.var
  cases hr : m.at_ n with
  | some r => exact NewV.lay m _
  | none =>
    refine ⟨fun j r h => ?_, fun j r h => ?_, by simp [MkS.lay, MkS.fresh]; omega⟩
    · simp only [MkS.lay, MkS.fresh]
      split
      · rename_i e; rw [e, hr] at h; cases h
      · exact h
    · simp only [MkS.lay, MkS.fresh] at h
      split at h
      · injection h with h; exact .inr (by omega)
      · exact .inl h
theorem NewV.of_set (c : Cel) (r : Int) (m : MkS) : NewV m (setS c r m) := by
  unfold setS
  split
  · exact .var _ _ _ _ _
  · split
    · exact .lay _ _
    · split
      · exact .lay _ _
      · exact .refl _
theorem NewV.of_sets : ∀ (ts : List Tm) (rs : List Int) (m : MkS), NewV m (setsS ts rs m)
  | [], [], m => .refl m
  | [], _ :: _, m => .refl m
  | _ :: _, [], m => .refl m
  | t :: ts, r :: rs, m => by unfold setsS; exact (NewV.of_set t.hd r m).trans (NewV.of_sets ts rs _)
mutual
theorem NewV.of_struct : ∀ (t : Tm) (m : MkS), NewV m (structS t m).1
  | .mk c ts, m => by
    unfold structS
    exact (NewV.of_inner ts m).trans ((NewV.fresh _).trans ((NewV.lay _ _).trans (NewV.of_sets ts _ _)))
theorem NewV.of_inner : ∀ (ts : List Tm) (m : MkS), NewV m (innerS ts m).1
  | [], m => by unfold innerS; exact .refl m
  | t :: ts, m => by
    unfold innerS
    split
    · exact (NewV.of_struct t m).trans (NewV.of_inner ts _)
    · exact NewV.of_inner ts m
end
/-- structures that wait stand in no variable's register, and in none that is new -/
def FreeB (m : MkS) (B : Blt) : Prop := (∀ j, m.next ≤ j → B j = none) ∧ ∀ n r, m.at_ n = some r → B r = none
theorem FreeB.new {m m' : MkS} {B : Blt} (h : FreeB m B) (hn : NewV m m') : FreeB m' B := by
  refine ⟨fun j hj => h.1 j (by have := hn.up; omega), fun n r e => ?_⟩
  rcases hn.new n r e with e | e
  · exact h.2 n r e
  · exact h.1 r e
/-- one argument told again: of a Fun its structure waits at r -/
def argB (F : Int → Int) (B : Blt) : List Tm → List Int → Blt
  | t :: ts, r :: rs => if t.hd.k = 3 then updB (argB F B ts rs) r (renT F t) else argB F B ts rs
  | _, _ => B
def RegsUp : Int → Int → List Tm → List Int → Prop
  | lo, hi, t :: ts, r :: rs => if t.hd.k = 3 then lo ≤ r ∧ r < hi ∧ RegsUp (r + 1) hi ts rs else RegsUp lo hi ts rs
  | _, _, _, _ => True
theorem RegsUp.hi {hi hi' : Int} (hh : hi ≤ hi') : ∀ {ts : List Tm} {rs : List Int} {lo : Int}, RegsUp lo hi ts rs → RegsUp lo hi' ts rs
  | [], [], _, _ => trivial
  | [], _ :: _, _, _ => trivial
  | _ :: _, [], _, _ => trivial
  | t :: ts, r :: rs, lo, h => by
    unfold RegsUp at h ⊢
    split
    · rename_i h3
      rw [if_pos h3] at h
      exact ⟨h.1, by omega, RegsUp.hi hh h.2.2⟩
    · rename_i h3
      rw [if_neg h3] at h
      exact RegsUp.hi hh h
theorem RegsUp.lo {lo lo' hi : Int} (hh : lo' ≤ lo) : ∀ {ts : List Tm} {rs : List Int}, RegsUp lo hi ts rs → RegsUp lo' hi ts rs
  | [], [], _ => trivial
  | [], _ :: _, _ => trivial
  | _ :: _, [], _ => trivial
  | t :: ts, r :: rs, h => by
    unfold RegsUp at h ⊢
    split
    · rename_i h3
      rw [if_pos h3] at h
      exact ⟨by omega, h.2.1, h.2.2⟩
    · rename_i h3
      rw [if_neg h3] at h
      exact RegsUp.lo hh h
theorem argB_low {F : Int → Int} {B : Blt} {hi j : Int} (hj : B j = none) : ∀ {ts : List Tm} {rs : List Int} {lo : Int}, RegsUp lo hi ts rs → j < lo → argB F B ts rs j = none
  | [], [], _, _, _ => hj
  | [], _ :: _, _, _, _ => hj
  | _ :: _, [], _, _, _ => hj
  | t :: ts, r :: rs, lo, h, hl => by
    unfold RegsUp at h
    unfold argB
    split
    · rename_i h3
      rw [if_pos h3] at h
      unfold updB
      rw [if_neg (by omega)]
      exact argB_low hj h.2.2 (by omega)
    · rename_i h3
      rw [if_neg h3] at h
      exact argB_low hj h hl
theorem argB_high {F : Int → Int} {B : Blt} {hi j : Int} (hj : B j = none) (hh : hi ≤ j) : ∀ {ts : List Tm} {rs : List Int} {lo : Int}, RegsUp lo hi ts rs → argB F B ts rs j = none
  | [], [], _, _ => hj
  | [], _ :: _, _, _ => hj
  | _ :: _, [], _, _ => hj
  | t :: ts, r :: rs, lo, h => by
    unfold RegsUp at h
    unfold argB
    split
    · rename_i h3
      rw [if_pos h3] at h
      unfold updB
      rw [if_neg (by omega)]
      exact argB_high hj hh h.2.2
    · rename_i h3
      rw [if_neg h3] at h
      exact argB_high hj hh h
theorem updB_comm (B : Blt) {r q : Int} (h : r ≠ q) (x y : Tm) : updB (updB B r x) q y = updB (updB B q y) r x := by
  funext j
  unfold updB
  by_cases h1 : j = q
  · rw [if_pos h1, if_neg (by omega), if_pos h1]
  · rw [if_neg h1]
    by_cases h2 : j = r
    · rw [if_pos h2, if_pos h2]
    · rw [if_neg h2, if_neg h2, if_neg h1]
theorem argB_upd {F : Int → Int} {B : Blt} {hi q : Int} (y : Tm) : ∀ {ts : List Tm} {rs : List Int} {lo : Int}, RegsUp lo hi ts rs → q < lo → argB F (updB B q y) ts rs = updB (argB F B ts rs) q y
  | [], [], _, _, _ => rfl
  | [], _ :: _, _, _, _ => rfl
  | _ :: _, [], _, _, _ => rfl
  | t :: ts, r :: rs, lo, h, hl => by
    unfold RegsUp at h
    unfold argB
    split
    · rename_i h3
      rw [if_pos h3] at h
      rw [argB_upd y h.2.2 (by omega), updB_comm _ (by omega)]
    · rename_i h3
      rw [if_neg h3] at h
      exact argB_upd y h hl
theorem delB_none {B : Blt} {r : Int} (h : B r = none) : delB B r = B := by
  funext j
  unfold delB
  split
  · rename_i e; rw [e, h]
  · rfl
theorem delB_updB {B : Blt} {r : Int} (h : B r = none) (x : Tm) : delB (updB B r x) r = B := by
  funext j
  unfold delB updB
  split
  · rename_i e; rw [e, h]
  · rfl
/-- F tells the registers of m's variables -/
def FOk (F : Int → Int) (m : MkS) : Prop := ∀ n r, m.at_ n = some r → F n = r
theorem FOk.back {F : Int → Int} {m m' : MkS} (h : FOk F m') (hn : NewV m m') : FOk F m := fun n r e => h n r (hn.keep n r e)
theorem var_dec (m : MkS) (n : Int) {F : Int → Int} {B : Blt} (hF : FOk F (m.var n 9 10 0)) (hB : ∀ k r, m.at_ k = some r → B r = none) : ∃ i : Ins, (m.var n 9 10 0).code = m.code ++ [i] ∧ setD i B = some (vT (F n), B) := by
  unfold MkS.var at hF ⊢
  cases hr : m.at_ n with
  | some r =>
    rw [hr] at hF
    refine ⟨⟨10, r, 0, ⟨#[]⟩, 0, false⟩, rfl, ?_⟩
    have e1 := hF n r hr
    have e2 := hB n r hr
    simp [setD, delB_none e2, e2, e1]
  | none =>
    rw [hr] at hF
    refine ⟨⟨9, m.next, 0, ⟨#[]⟩, 0, false⟩, rfl, ?_⟩
    have e1 := hF n m.next (by simp [MkS.lay, MkS.fresh])
    simp [setD, e1]
theorem setsS_dec {F : Int → Int} {B : Blt} {hi : Int} : ∀ (ts : List Tm) (rs : List Int) (m : MkS) (lo : Int), ts.length = rs.length → KindsL ts → RegsUp lo hi ts rs → (∀ j, lo ≤ j → B j = none) → (∀ j, hi ≤ j → B j = none) → hi ≤ m.next → FOk F (setsS ts rs m) → (∀ k r, m.at_ k = some r → argB F B ts rs r = none) →
    ∃ us : List Ins, (setsS ts rs m).code = m.code ++ us ∧ us.length = ts.length ∧ SetsR us (argB F B ts rs) (renTs F ts) B
  | [], [], m, _, _, _, _, _, _, _, _, _ => ⟨[], by simp [setsS], rfl, by simp [renTs, argB]; exact .nil B⟩
  | [], _ :: _, m, _, h, _, _, _, _, _, _, _ => by simp at h
  | _ :: _, [], m, _, h, _, _, _, _, _, _, _ => by simp at h
  | t :: ts, r :: rs, m, lo, hlen, hk, hu, hb, hbn, hhi, hF, hv => by
    have hkt : kindOk t.hd := KindsL.mem hk t List.mem_cons_self
    have hFs : FOk F (setS t.hd r m) := by
      have h1 := hF
      unfold setsS at h1
      exact h1.back (NewV.of_sets ts rs _)
    have hF2 : FOk F (setsS ts rs (setS t.hd r m)) := by
      have h1 := hF
      unfold setsS at h1
      exact h1
    have hup := (NewV.of_set t.hd r m).up
    have step : ∀ (i : Ins) (B1 : Blt) (x : Tm), (setS t.hd r m).code = m.code ++ [i] → setD i (argB F B (t :: ts) (r :: rs)) = some (x, argB F B ts rs) → x = renT F t → (∃ lo', RegsUp lo' hi ts rs ∧ ∀ j, lo' ≤ j → B j = none) → (∀ k q, (setS t.hd r m).at_ k = some q → argB F B ts rs q = none) →
        ∃ us : List Ins, (setsS (t :: ts) (r :: rs) m).code = m.code ++ us ∧ us.length = (t :: ts).length ∧ SetsR us (argB F B (t :: ts) (r :: rs)) (renTs F (t :: ts)) B := by
      rintro i B1 x e hd rfl ⟨lo', hu', hb'⟩ hv'
      obtain ⟨us, a, b, c⟩ := setsS_dec ts rs (setS t.hd r m) lo' (by simpa using hlen) hk.2 hu' hb' hbn (by omega) hF2 hv'
      refine ⟨i :: us, ?_, by simp [b], ?_⟩
      · show (setsS ts rs (setS t.hd r m)).code = _
        rw [a, e]; simp
      · unfold renTs
        exact .cons hd c
    rcases hkt with h1 | h2 | h3
    · have hu' : RegsUp lo hi ts rs := by unfold RegsUp at hu; rwa [if_neg (by omega)] at hu
      have ha : argB F B (t :: ts) (r :: rs) = argB F B ts rs := by show (if t.hd.k = 3 then _ else _) = _; rw [if_neg (by omega)]
      rw [ha] at hv
      have es : setS t.hd r m = m.var t.hd.n 9 10 0 := by unfold setS; rw [if_pos h1]
      rw [es] at hFs
      obtain ⟨i, e, hd⟩ := var_dec m t.hd.n (B := argB F B ts rs) hFs hv
      refine step i B (vT (F t.hd.n)) (by rw [es]; exact e) (by rw [ha]; exact hd) ?_ ⟨lo, hu', hb⟩ (fun k q hq => ?_)
      · cases t with
        | mk c az => unfold renT; exact (if_pos (show c.k = 1 from h1)).symm
      · rcases (NewV.of_set t.hd r m).new k q hq with hq | hq
        · exact hv k q hq
        · exact argB_high (hbn q (by omega)) (by omega) hu'
    · have hu' : RegsUp lo hi ts rs := by unfold RegsUp at hu; rwa [if_neg (by omega)] at hu
      have ha : argB F B (t :: ts) (r :: rs) = argB F B ts rs := by show (if t.hd.k = 3 then _ else _) = _; rw [if_neg (by omega)]
      rw [ha] at hv
      have es : setS t.hd r m = m.lay ⟨11, 0, 0, ⟨#[]⟩, t.hd.n, false⟩ := by unfold setS; rw [if_neg (by omega), if_pos h2]
      refine step ⟨11, 0, 0, ⟨#[]⟩, t.hd.n, false⟩ B (.mk ⟨2, ⟨#[]⟩, t.hd.n⟩ []) (by rw [es]; rfl) (by rw [ha]; simp [setD]) ?_ ⟨lo, hu', hb⟩ (fun k q hq => by rw [es] at hq; exact hv k q hq)
      cases t with
      | mk c az => unfold renT; exact ((if_neg (show ¬ c.k = 1 from fun e => by have : c.k = 2 := h2; omega)).trans (if_pos (show c.k = 2 from h2))).symm
    · have hu2 : lo ≤ r ∧ r < hi ∧ RegsUp (r + 1) hi ts rs := by unfold RegsUp at hu; rwa [if_pos h3] at hu
      have ha : argB F B (t :: ts) (r :: rs) = updB (argB F B ts rs) r (renT F t) := by show (if t.hd.k = 3 then _ else _) = _; rw [if_pos h3]
      have hrn : argB F B ts rs r = none := argB_low (hb r hu2.1) hu2.2.2 (by omega)
      have es : setS t.hd r m = m.lay ⟨10, r, 0, ⟨#[]⟩, 0, false⟩ := by unfold setS; rw [if_neg (by omega), if_neg (by omega), if_pos h3]
      refine step ⟨10, r, 0, ⟨#[]⟩, 0, false⟩ B (renT F t) (by rw [es]; rfl) ?_ rfl ⟨r + 1, hu2.2.2, fun j hj => hb j (by omega)⟩ (fun k q hq => ?_)
      · rw [ha]
        have e1 : setD ⟨10, r, 0, ⟨#[]⟩, 0, false⟩ (updB (argB F B ts rs) r (renT F t)) = some (((updB (argB F B ts rs) r (renT F t)) r).getD (vT r), delB (updB (argB F B ts rs) r (renT F t)) r) := by simp [setD]
        have e2 : (updB (argB F B ts rs) r (renT F t)) r = some (renT F t) := by unfold updB; rw [if_pos rfl]
        rw [e1, delB_updB hrn, e2]; rfl
      · rw [es] at hq
        have h5 := hv k q hq
        rw [ha] at h5
        unfold updB at h5
        split at h5
        · cases h5
        · exact h5
mutual
/-- a structure's code is told again az that structure, in its register -/
theorem structS_dec {F : Int → Int} : ∀ (t : Tm) (m : MkS), Kinds t → Aris t → t.hd.k = 3 → m.fit → FOk F (structS t m).1 → ∃ ch : List Ins, (structS t m).1.code = m.code ++ ch ∧ (∀ n r, (structS t m).1.at_ n = some r → r ≠ (structS t m).2) ∧ m.next ≤ (structS t m).2 ∧ ∀ (B : Blt) (rest : List Ins) (bs : List (Bool × Tm)), FreeB m B → BodyR rest (updB B (structS t m).2 (renT F t)) bs → BodyR (ch ++ rest) B bs
  | .mk c ts, m, hk, ha, h3, hf, hF => by
    have h3' : c.k = 3 := h3
    have hFi : FOk F (innerS ts m).1 := by
      have h1 := hF
      unfold structS at h1
      exact h1.back ((NewV.fresh _).trans ((NewV.lay _ _).trans (NewV.of_sets ts _ _)))
    obtain ⟨ch, e, hu, hdec⟩ := innerS_dec ts m hk.2.2 ha.2 hf hFi
    have hlay := innerS_lays ts m hk.2.2 hf
    have hnv := NewV.of_inner ts m
    have hFs : FOk F (setsS ts (innerS ts m).2 ((innerS ts m).1.fresh.lay ⟨8, 0, (innerS ts m).1.next, c.s, c.n, false⟩)) := by
      have h1 := hF
      unfold structS at h1
      exact h1
    have hfit := hlay.1.1
    have hs : (structS (Tm.mk c ts) m).2 = (innerS ts m).1.next := by unfold structS; rfl
    have hm : (structS (Tm.mk c ts) m).1 = setsS ts (innerS ts m).2 ((innerS ts m).1.fresh.lay ⟨8, 0, (innerS ts m).1.next, c.s, c.n, false⟩) := by unfold structS; rfl
    -- the code of the sets does not hang on what waits: take it at what waits nowhere
    have key : ∀ B : Blt, FreeB m B → ∃ us : List Ins, (structS (Tm.mk c ts) m).1.code = ((innerS ts m).1.fresh.lay ⟨8, 0, (innerS ts m).1.next, c.s, c.n, false⟩).code ++ us ∧ us.length = ts.length ∧ SetsR us (argB F B ts (innerS ts m).2) (renTs F ts) B := fun B hB => by
      have hBi := hB.new hnv
      rw [hm]
      refine setsS_dec (hi := (innerS ts m).1.next) ts (innerS ts m).2 _ m.next (innerS_regs ts m).symm hk.2.2 hu (fun j hj => hB.1 j hj) (fun j hj => hBi.1 j hj) (by simp [MkS.lay, MkS.fresh]; omega) hFs (fun k r hr => ?_)
      -- a variable's register is none of those that wait
      have hr' : (innerS ts m).1.at_ k = some r := hr
      exact (innerS_vars ts m hk.2.2 hf F B hB) k r hr'
    obtain ⟨us0, e0, l0, _⟩ := key (fun _ => none) ⟨fun _ _ => rfl, fun _ _ _ => rfl⟩
    refine ⟨ch ++ (⟨8, 0, (innerS ts m).1.next, c.s, c.n, false⟩ :: us0), ?_, fun n r hr => ?_, ?_, fun B rest bs hB hrest => ?_⟩
    · rw [e0]
      simp [MkS.lay, MkS.fresh, e]
    · rw [hs]
      rw [hm] at hr
      rcases (NewV.of_sets ts (innerS ts m).2 ((innerS ts m).1.fresh.lay ⟨8, 0, (innerS ts m).1.next, c.s, c.n, false⟩)).new n r hr with h | h
      · have := hfit.2 n r h
        omega
      · simp [MkS.lay, MkS.fresh] at h
        omega
    · rw [hs]; exact hlay.1.2.1
    · obtain ⟨us, e1, l1, hset⟩ := key B hB
      have : us = us0 := by rw [e0] at e1; exact (List.append_cancel_left e1).symm
      subst this
      rw [List.append_assoc]
      refine hdec B _ bs hB ?_
      rw [List.cons_append]
      refine .put rfl (by rw [l1]; exact ha.1 h3') hset ?_
      rw [hs] at hrest
      have er : renT F (Tm.mk c ts) = .mk ⟨3, c.s, c.n⟩ (renTs F ts) := by unfold renT; rw [if_neg (by omega), if_neg (by omega)]
      rw [er] at hrest
      exact hrest
theorem innerS_dec {F : Int → Int} : ∀ (ts : List Tm) (m : MkS), KindsL ts → ArisL ts → m.fit → FOk F (innerS ts m).1 → ∃ ch : List Ins, (innerS ts m).1.code = m.code ++ ch ∧ RegsUp m.next (innerS ts m).1.next ts (innerS ts m).2 ∧ ∀ (B : Blt) (rest : List Ins) (bs : List (Bool × Tm)), FreeB m B → BodyR rest (argB F B ts (innerS ts m).2) bs → BodyR (ch ++ rest) B bs
  | [], m, _, _, _, _ => ⟨[], by simp [innerS], trivial, fun B rest bs _ h => by simpa [argB, innerS] using h⟩
  | t :: ts, m, hk, ha, hf, hF => by
    by_cases h3 : t.hd.k = 3
    · have ei : innerS (t :: ts) m = ((innerS ts (structS t m).1).1, (structS t m).2 :: (innerS ts (structS t m).1).2) := by
        conv => lhs; unfold innerS
        rw [if_pos h3]
      rw [ei] at hF
      have hF1 : FOk F (structS t m).1 := hF.back (NewV.of_inner ts _)
      obtain ⟨ch, e, hne, hlo, hd⟩ := structS_dec t m hk.1 ha.1 h3 hf hF1
      have hl := structS_lays t m hk.1 hf
      obtain ⟨ch2, e2, hu2, hd2⟩ := innerS_dec ts (structS t m).1 hk.2 ha.2 hl.1.1 hF
      have hl2 := innerS_lays ts (structS t m).1 hk.2 hl.1.1
      rw [ei]
      refine ⟨ch ++ ch2, by simp only; rw [e2, e, List.append_assoc], ?_, fun B rest bs hB hrest => ?_⟩
      · show (if t.hd.k = 3 then _ else _)
        rw [if_pos h3]
        exact ⟨hlo, by have := hl2.1.2.1; simp only; omega, hu2.lo (by have := hl.2.2; omega)⟩
      · rw [List.append_assoc]
        refine hd B _ bs hB (hd2 _ _ bs ?_ ?_)
        · have hB1 := hB.new (NewV.of_struct t m)
          refine ⟨fun j hj => ?_, fun n r hr => ?_⟩
          · unfold updB; rw [if_neg (by have := hl.2.2; omega)]; exact hB1.1 j hj
          · unfold updB; rw [if_neg (hne n r hr)]; exact hB1.2 n r hr
        · rw [argB_upd (renT F t) hu2 hl.2.2]
          have ea : argB F B (t :: ts) ((structS t m).2 :: (innerS ts (structS t m).1).2) = updB (argB F B ts (innerS ts (structS t m).1).2) (structS t m).2 (renT F t) := by show (if t.hd.k = 3 then _ else _) = _; rw [if_pos h3]
          simp only at hrest
          rw [ea] at hrest
          exact hrest
    · have ei : innerS (t :: ts) m = ((innerS ts m).1, 0 :: (innerS ts m).2) := by
        conv => lhs; unfold innerS
        rw [if_neg h3]
      rw [ei] at hF ⊢
      obtain ⟨ch, e, hu, hd⟩ := innerS_dec ts m hk.2 ha.2 hf hF
      refine ⟨ch, e, ?_, fun B rest bs hB hrest => hd B rest bs hB ?_⟩
      · show (if t.hd.k = 3 then _ else _)
        rw [if_neg h3]; exact hu
      · have ea : argB F B (t :: ts) (0 :: (innerS ts m).2) = argB F B ts (innerS ts m).2 := by show (if t.hd.k = 3 then _ else _) = _; rw [if_neg h3]
        simp only at hrest
        rw [ea] at hrest
        exact hrest
/-- a variable's register is none in which an argument's structure waits -/
theorem innerS_vars : ∀ (ts : List Tm) (m : MkS), KindsL ts → m.fit → ∀ (F : Int → Int) (B : Blt), FreeB m B → ∀ k r, (innerS ts m).1.at_ k = some r → argB F B ts (innerS ts m).2 r = none
  | [], m, _, _, F, B, hB, k, r, hr => by
    simp only [innerS] at hr
    exact hB.2 k r hr
  | t :: ts, m, hk, hf, F, B, hB, k, r, hr => by
    by_cases h3 : t.hd.k = 3
    · have ei : innerS (t :: ts) m = ((innerS ts (structS t m).1).1, (structS t m).2 :: (innerS ts (structS t m).1).2) := by
        conv => lhs; unfold innerS
        rw [if_pos h3]
      rw [ei] at hr ⊢
      simp only at hr
      have ea : argB F B (t :: ts) ((structS t m).2 :: (innerS ts (structS t m).1).2) = updB (argB F B ts (innerS ts (structS t m).1).2) (structS t m).2 (renT F t) := by show (if t.hd.k = 3 then _ else _) = _; rw [if_pos h3]
      simp only
      rw [ea]
      have hl := structS_lays t m hk.1 hf
      have hB1 := hB.new (NewV.of_struct t m)
      have h1 := innerS_vars ts (structS t m).1 hk.2 hl.1.1 F B hB1 k r hr
      unfold updB
      rw [if_neg ?_]
      · exact h1
      · rcases (NewV.of_inner ts (structS t m).1).new k r hr with h | h
        · exact structS_vars t m hk.1 hf h3 k r h
        · have := hl.2.2; omega
    · have ei : innerS (t :: ts) m = ((innerS ts m).1, 0 :: (innerS ts m).2) := by
        conv => lhs; unfold innerS
        rw [if_neg h3]
      rw [ei] at hr ⊢
      simp only at hr ⊢
      have ea : argB F B (t :: ts) (0 :: (innerS ts m).2) = argB F B ts (innerS ts m).2 := by show (if t.hd.k = 3 then _ else _) = _; rw [if_neg h3]
      rw [ea]
      exact innerS_vars ts m hk.2 hf F B hB k r hr
theorem structS_vars : ∀ (t : Tm) (m : MkS), Kinds t → m.fit → t.hd.k = 3 → ∀ k r, (structS t m).1.at_ k = some r → r ≠ (structS t m).2
  | .mk c ts, m, hk, hf, h3, k, r, hr => by
    have hlay := innerS_lays ts m hk.2.2 hf
    have hs : (structS (Tm.mk c ts) m).2 = (innerS ts m).1.next := by unfold structS; rfl
    have hm : (structS (Tm.mk c ts) m).1 = setsS ts (innerS ts m).2 ((innerS ts m).1.fresh.lay ⟨8, 0, (innerS ts m).1.next, c.s, c.n, false⟩) := by unfold structS; rfl
    rw [hs]
    rw [hm] at hr
    rcases (NewV.of_sets ts (innerS ts m).2 ((innerS ts m).1.fresh.lay ⟨8, 0, (innerS ts m).1.next, c.s, c.n, false⟩)).new k r hr with h | h
    · have := hlay.1.1.2 k r h
      omega
    · simp [MkS.lay, MkS.fresh] at h
      omega
end
theorem NewV.of_lit (x : Bool × Tm) (m : MkS) : NewV m (litS x m) := (NewV.of_struct x.2 m).trans (NewV.lay _ _)
theorem NewV.of_lits : ∀ (b : List (Bool × Tm)) (m : MkS), NewV m (b.foldl (fun m x => litS x m) m)
  | [], m => .refl m
  | x :: b, m => by rw [List.foldl_cons]; exact (NewV.of_lit x m).trans (NewV.of_lits b _)
/-- a body's code is told again az that body -/
theorem lits_dec {F : Int → Int} : ∀ (b : List (Bool × Tm)) (m : MkS), (∀ x ∈ b, Kinds x.2 ∧ Aris x.2 ∧ x.2.hd.k = 3) → m.fit → FOk F (b.foldl (fun m x => litS x m) m) → ∃ ch : List Ins, (b.foldl (fun m x => litS x m) m).code = m.code ++ ch ∧ ∀ B : Blt, FreeB m B → BodyR ch B (b.map fun x => (x.1, renT F x.2))
  | [], m, _, _, _ => ⟨[], by simp, fun B _ => .nil B⟩
  | x :: b, m, hb, hf, hF => by
    obtain ⟨k1, k2, k3⟩ := hb x List.mem_cons_self
    rw [List.foldl_cons] at hF ⊢
    have hF1 : FOk F (structS x.2 m).1 := (hF.back (NewV.of_lits b _)).back (NewV.lay _ _)
    obtain ⟨ch, e, hne, hlo, hd⟩ := structS_dec x.2 m k1 k2 k3 hf hF1
    have hl := structS_lays x.2 m k1 hf
    have hf2 : (litS x m).fit := hl.1.1
    obtain ⟨ch2, e2, hd2⟩ := lits_dec b (litS x m) (fun y hy => hb y (List.mem_cons_of_mem _ hy)) hf2 hF
    refine ⟨ch ++ (⟨12, 0, (structS x.2 m).2, ⟨#[]⟩, 0, x.1⟩ :: ch2), ?_, fun B hB => ?_⟩
    · rw [e2]
      unfold litS
      simp [MkS.lay, e]
    · refine hd B _ _ hB ?_
      rw [List.map_cons]
      have hr : B (structS x.2 m).2 = none := hB.1 _ hlo
      refine .call rfl (by unfold updB; exact if_pos rfl) ?_
      simp only
      rw [delB_updB hr]
      exact hd2 B (hB.new (NewV.of_lit x m))
/-! #### a head's code told again -/
/-- a Fun's arguments by its Uni's; those that funs tells are told later, in order -/
inductive UnisR (funs : Int → Bool) : List Ins → List Tm → List Tm → Prop where
  | nil : UnisR funs [] [] []
  | fn {i : Ins} {us : List Ins} {t : Tm} {os ts : List Tm} (h : i.op = 5) (hf : funs i.x = true) (hr : UnisR funs us os ts) : UnisR funs (i :: us) (t :: os) (t :: ts)
  | vr {i : Ins} {us : List Ins} {os ts : List Tm} (h : i.op = 5) (hf : funs i.x = false) (hr : UnisR funs us os ts) : UnisR funs (i :: us) os (vT i.x :: ts)
  | vl {i : Ins} {us : List Ins} {os ts : List Tm} (h : i.op = 6) (hr : UnisR funs us os ts) : UnisR funs (i :: us) os (vT i.x :: ts)
  | int {i : Ins} {us : List Ins} {os ts : List Tm} (h : i.op = 7) (hr : UnisR funs us os ts) : UnisR funs (i :: us) os (.mk ⟨2, ⟨#[]⟩, i.n⟩ [] :: ts)
/-- the terms on a head's row, from the front -/
inductive HeadR (funs : Int → Bool) : List Ins → List Tm → Prop where
  | nil : HeadR funs [] []
  | vr {i : Ins} {l : List Ins} {ts : List Tm} (h : i.op = 1 ∨ i.op = 2) (hr : HeadR funs l ts) : HeadR funs (i :: l) (vT i.x :: ts)
  | int {i : Ins} {l : List Ins} {ts : List Tm} (h : i.op = 3) (hr : HeadR funs l ts) : HeadR funs (i :: l) (.mk ⟨2, ⟨#[]⟩, i.n⟩ [] :: ts)
  | fn {i : Ins} {us l : List Ins} {os az ts : List Tm} (h : i.op = 4) (hn : i.n = (us.length : Int)) (hu : UnisR funs us os az) (hr : HeadR funs l (ts ++ os)) : HeadR funs (i :: (us ++ l)) (.mk ⟨3, i.s, i.n⟩ az :: ts)
theorem NewV.of_unify : ∀ (ts : List Tm) (m : MkS), NewV m (unifyS ts m).1
  | [], m => by unfold unifyS; exact .refl m
  | t :: ts, m => by
    unfold unifyS
    split
    · exact (NewV.var m _ _ _ _).trans (NewV.of_unify ts _)
    · split
      · exact (NewV.lay m _).trans (NewV.of_unify ts _)
      · split
        · exact ((NewV.fresh m).trans (NewV.lay _ _)).trans (NewV.of_unify ts _)
        · exact NewV.of_unify ts m
theorem NewV.of_get (p : Tm × Int) (m : MkS) : NewV m (getS p m).1 := by
  unfold getS
  split
  · exact .var m _ _ _ _
  · split
    · exact .lay m _
    · split
      · exact (NewV.lay m _).trans (NewV.of_unify _ _)
      · exact .refl m
theorem NewV.of_row : ∀ (f : Nat) (ps : List (Tm × Int)) (m : MkS), NewV m (rowS f ps m)
  | 0, _, m => .refl m
  | _ + 1, [], m => .refl m
  | f + 1, p :: ps, m => by unfold rowS; exact (NewV.of_get p m).trans (NewV.of_row f _ _)
theorem var_dec2 (m : MkS) (n f g a : Int) {F : Int → Int} (hF : FOk F (m.var n f g a)) : ∃ i : Ins, (m.var n f g a).code = m.code ++ [i] ∧ i.x = F n ∧ (i.op = g ∨ (i.op = f ∧ (m.var n f g a).at_ n = some i.x)) := by
  unfold MkS.var at hF ⊢
  cases hr : m.at_ n with
  | some r =>
    rw [hr] at hF
    exact ⟨⟨g, r, a, ⟨#[]⟩, 0, false⟩, rfl, (hF n r hr).symm, .inl rfl⟩
  | none =>
    rw [hr] at hF
    exact ⟨⟨f, m.next, a, ⟨#[]⟩, 0, false⟩, rfl, (hF n m.next (by simp [MkS.lay, MkS.fresh])).symm, .inr ⟨rfl, by simp [MkS.lay, MkS.fresh]⟩⟩
/-- funs tells the registers of Funs on the row, and none of a variable's -/
theorem unifyS_dec {F : Int → Int} {funs : Int → Bool} : ∀ (ts : List Tm) (m : MkS), KindsL ts → FOk F (unifyS ts m).1 → (∀ n r, (unifyS ts m).1.at_ n = some r → funs r = false) → (∀ p ∈ (unifyS ts m).2, funs p.2 = true) →
    ∃ us : List Ins, (unifyS ts m).1.code = m.code ++ us ∧ us.length = ts.length ∧ UnisR funs us ((unifyS ts m).2.map fun p => renT F p.1) (renTs F ts)
  | [], m, _, _, _, _ => ⟨[], by simp [unifyS], rfl, by simp [unifyS, renTs]; exact .nil⟩
  | t :: ts, m, hk, hF, hv, hfn => by
    have hkt : kindOk t.hd := KindsL.mem hk t List.mem_cons_self
    rcases hkt with h1 | h2 | h3
    · have e : unifyS (t :: ts) m = unifyS ts (m.var t.hd.n 5 6 0) := by
        conv => lhs; unfold unifyS
        rw [if_pos h1]
      rw [e] at hF hv hfn ⊢
      obtain ⟨us, a, b, c⟩ := unifyS_dec ts _ hk.2 hF hv hfn
      obtain ⟨i, ec, ex, eo⟩ := var_dec2 m t.hd.n 5 6 0 (hF.back (NewV.of_unify ts _))
      have er : renT F t = vT i.x := by rw [ex]; cases t with | mk cc az => unfold renT; exact if_pos h1
      refine ⟨i :: us, by rw [a, ec]; simp, by simp [b], ?_⟩
      unfold renTs
      rw [er]
      rcases eo with eo | ⟨eo, ea⟩
      · exact .vl eo c
      · exact .vr eo (hv _ _ ((NewV.of_unify ts _).keep _ _ ea)) c
    · have e : unifyS (t :: ts) m = unifyS ts (m.lay ⟨7, 0, 0, ⟨#[]⟩, t.hd.n, false⟩) := by
        conv => lhs; unfold unifyS
        rw [if_neg (by omega), if_pos h2]
      rw [e] at hF hv hfn ⊢
      obtain ⟨us, a, b, c⟩ := unifyS_dec ts _ hk.2 hF hv hfn
      have er : renT F t = .mk ⟨2, ⟨#[]⟩, t.hd.n⟩ [] := by cases t with | mk cc az => unfold renT; exact (if_neg (show ¬ cc.k = 1 from fun e => by have : cc.k = 2 := h2; omega)).trans (if_pos h2)
      refine ⟨⟨7, 0, 0, ⟨#[]⟩, t.hd.n, false⟩ :: us, by rw [a]; simp [MkS.lay], by simp [b], ?_⟩
      unfold renTs
      rw [er]
      exact .int rfl c
    · have e : unifyS (t :: ts) m = ((unifyS ts (m.fresh.lay ⟨5, m.next, 0, ⟨#[]⟩, 0, false⟩)).1, (t, m.next) :: (unifyS ts (m.fresh.lay ⟨5, m.next, 0, ⟨#[]⟩, 0, false⟩)).2) := by
        conv => lhs; unfold unifyS
        rw [if_neg (by omega), if_neg (by omega), if_pos h3]
      rw [e] at hF hv hfn ⊢
      obtain ⟨us, a, b, c⟩ := unifyS_dec ts _ hk.2 hF hv (fun p hp => hfn p (List.mem_cons_of_mem _ hp))
      refine ⟨⟨5, m.next, 0, ⟨#[]⟩, 0, false⟩ :: us, by simp only; rw [a]; simp [MkS.lay, MkS.fresh], by simp [b], ?_⟩
      unfold renTs
      simp only [List.map_cons]
      exact .fn rfl (hfn (t, m.next) List.mem_cons_self) c
/-- a Fun on the row is asked of its register by a GetFun -/
theorem getS_asks4 (p : Tm × Int) (m : MkS) (h : Kinds p.1) (h3 : p.1.hd.k = 3) : ∃ i ch, (getS p m).1.code = m.code ++ i :: ch ∧ i.op = 4 ∧ i.a = p.2 := by
  obtain ⟨t, r⟩ := p
  cases t with
  | mk c ts =>
    have h3' : c.k = 3 := h3
    have e : getS (Tm.mk c ts, r) m = unifyS ts (m.lay ⟨4, 0, r, c.s, c.n, false⟩) := by unfold getS; exact (if_neg (show ¬ c.k = 1 by omega)).trans ((if_neg (show ¬ c.k = 2 by omega)).trans (if_pos h3'))
    rw [e]
    obtain ⟨us, a, _, _⟩ := unifyS_app ts (m.lay ⟨4, 0, r, c.s, c.n, false⟩) h.2.2
    exact ⟨⟨4, 0, r, c.s, c.n, false⟩, us, by rw [a]; simp [MkS.lay], rfl, rfl⟩
theorem rowS_asks4 : ∀ (f : Nat) (ps : List (Tm × Int)) (m : MkS), (∀ p ∈ ps, Kinds p.1) → sumF ps ≤ f → (∀ i ∈ m.code, i ∈ (rowS f ps m).code) ∧ ∀ p ∈ ps, p.1.hd.k = 3 → ∃ i ∈ (rowS f ps m).code, i.op = 4 ∧ i.a = p.2
  | 0, [], m, _, _ => ⟨fun i hi => hi, fun p hp => by cases hp⟩
  | 0, p :: ps, m, _, h => by
    have := flat_pos p.1
    have e : sumF (p :: ps) = p.1.flat.length + sumF ps := by simp [sumF]
    omega
  | _ + 1, [], m, _, _ => ⟨fun i hi => hi, fun p hp => by cases hp⟩
  | f + 1, p :: ps, m, hk, h => by
    obtain ⟨_, b, c⟩ := getS_len p m (hk p List.mem_cons_self)
    obtain ⟨i0, ch0, e0, _, _⟩ := getS_asks p m (hk p List.mem_cons_self)
    have e1 : sumF (p :: ps) = p.1.flat.length + sumF ps := by simp [sumF]
    obtain ⟨k1, k2⟩ := rowS_asks4 f (ps ++ (getS p m).2) (getS p m).1 (fun q hq => by
      rcases List.mem_append.1 hq with hq | hq
      · exact hk q (List.mem_cons_of_mem _ hq)
      · exact c q hq) (by rw [sumF_app]; omega)
    unfold rowS
    refine ⟨fun j hj => k1 j (by rw [e0]; exact List.mem_append_left _ hj), fun q hq h3 => ?_⟩
    rcases List.mem_cons.1 hq with rfl | hq
    · obtain ⟨i, ch, e, h1, h2⟩ := getS_asks4 q m (hk q List.mem_cons_self) h3
      exact ⟨i, k1 i (by rw [e]; simp), h1, h2⟩
    · exact k2 q (List.mem_append_left _ hq) h3
theorem unifyS_funs : ∀ (ts : List Tm) (m : MkS), ∀ p ∈ (unifyS ts m).2, p.1.hd.k = 3
  | [], m, p, hp => by simp [unifyS] at hp
  | t :: ts, m, p, hp => by
    unfold unifyS at hp
    split at hp
    · exact unifyS_funs ts _ p hp
    · split at hp
      · exact unifyS_funs ts _ p hp
      · split at hp
        · rename_i h3
          rcases List.mem_cons.1 hp with rfl | hp
          · exact h3
          · exact unifyS_funs ts _ p hp
        · exact unifyS_funs ts _ p hp
theorem getS_aris (p : Tm × Int) (m : MkS) (h : Kinds p.1) (ha : Aris p.1) : ∀ q ∈ (getS p m).2, Kinds q.1 ∧ Aris q.1 := (getS_app p m h ha).choose_spec.2.2
/-- a head's code is told again az its arguments -/
theorem rowS_dec {F : Int → Int} {funs : Int → Bool} : ∀ (f : Nat) (ps : List (Tm × Int)) (m : MkS), (∀ p ∈ ps, Kinds p.1 ∧ Aris p.1) → sumF ps ≤ f → FOk F (rowS f ps m) → (∀ n r, (rowS f ps m).at_ n = some r → funs r = false) → (∀ i ∈ (rowS f ps m).code, i.op = 4 → funs i.a = true) →
    ∃ ch : List Ins, (rowS f ps m).code = m.code ++ ch ∧ HeadR funs ch (ps.map fun p => renT F p.1)
  | 0, [], m, _, _, _, _, _ => ⟨[], by simp [rowS], .nil⟩
  | 0, p :: ps, m, _, h, _, _, _ => by
    have := flat_pos p.1
    have e : sumF (p :: ps) = p.1.flat.length + sumF ps := by simp [sumF]
    omega
  | _ + 1, [], m, _, _, _, _, _ => ⟨[], by simp [rowS], .nil⟩
  | f + 1, p :: ps, m, hk, h, hF, hv, h4 => by
    obtain ⟨kp, ap⟩ := hk p List.mem_cons_self
    obtain ⟨_, b, c⟩ := getS_len p m kp
    have e1 : sumF (p :: ps) = p.1.flat.length + sumF ps := by simp [sumF]
    have er : rowS (f + 1) (p :: ps) m = rowS f (ps ++ (getS p m).2) (getS p m).1 := by conv => lhs; unfold rowS
    rw [er] at hF hv h4 ⊢
    have hkq : ∀ q ∈ ps ++ (getS p m).2, Kinds q.1 ∧ Aris q.1 := fun q hq => by
      rcases List.mem_append.1 hq with hq | hq
      · exact hk q (List.mem_cons_of_mem _ hq)
      · exact getS_aris p m kp ap q hq
    have hsum : sumF (ps ++ (getS p m).2) ≤ f := by rw [sumF_app]; omega
    obtain ⟨ch, e, hd⟩ := rowS_dec f (ps ++ (getS p m).2) (getS p m).1 hkq hsum hF hv h4
    have asks := (rowS_asks4 f (ps ++ (getS p m).2) (getS p m).1 (fun q hq => (hkq q hq).1) hsum).2
    have hFg := hF.back (NewV.of_row f _ _)
    have hvg : ∀ n r, (getS p m).1.at_ n = some r → funs r = false := fun n r hr => hv n r ((NewV.of_row f _ _).keep n r hr)
    rw [List.map_append] at hd
    rw [List.map_cons]
    obtain ⟨t, r⟩ := p
    cases t with
    | mk cc ts =>
      rcases (show kindOk cc from kp.1) with h1 | h2 | h3
      · have eg : getS (Tm.mk cc ts, r) m = (m.var cc.n 1 2 r, []) := by unfold getS; exact if_pos h1
        rw [eg] at e hd hFg ⊢
        obtain ⟨i, ec, ex, eo⟩ := var_dec2 m cc.n 1 2 r hFg
        have en : renT F (Tm.mk cc ts) = vT i.x := by rw [ex]; unfold renT; exact if_pos h1
        refine ⟨i :: ch, by rw [e]; simp only; rw [ec]; simp, ?_⟩
        simp only
        rw [en]
        simp only [List.map_nil, List.append_nil] at hd
        refine .vr ?_ hd
        rcases eo with eo | ⟨eo, _⟩
        · exact .inr eo
        · exact .inl eo
      · have eg : getS (Tm.mk cc ts, r) m = (m.lay ⟨3, 0, r, ⟨#[]⟩, cc.n, false⟩, []) := by unfold getS; exact (if_neg (show ¬ cc.k = 1 by omega)).trans (if_pos h2)
        rw [eg] at e hd ⊢
        have en : renT F (Tm.mk cc ts) = .mk ⟨2, ⟨#[]⟩, cc.n⟩ [] := by unfold renT; exact (if_neg (show ¬ cc.k = 1 by omega)).trans (if_pos h2)
        refine ⟨⟨3, 0, r, ⟨#[]⟩, cc.n, false⟩ :: ch, by rw [e]; simp [MkS.lay], ?_⟩
        simp only
        rw [en]
        simp only [List.map_nil, List.append_nil] at hd
        exact .int rfl hd
      · have eg : getS (Tm.mk cc ts, r) m = unifyS ts (m.lay ⟨4, 0, r, cc.s, cc.n, false⟩) := by unfold getS; exact (if_neg (show ¬ cc.k = 1 by omega)).trans ((if_neg (show ¬ cc.k = 2 by omega)).trans (if_pos h3))
        rw [eg] at e hd hFg hvg asks ⊢
        have hfn : ∀ q ∈ (unifyS ts (m.lay ⟨4, 0, r, cc.s, cc.n, false⟩)).2, funs q.2 = true := fun q hq => by
          obtain ⟨i, hi, o4, oa⟩ := asks q (List.mem_append_right _ hq) (unifyS_funs _ _ q hq)
          rw [← oa]
          exact h4 i (by rw [eg]; exact hi) o4
        obtain ⟨us, a, bl, cu⟩ := unifyS_dec ts _ kp.2.2 hFg hvg hfn
        have en : renT F (Tm.mk cc ts) = .mk ⟨3, cc.s, cc.n⟩ (renTs F ts) := by unfold renT; exact (if_neg (show ¬ cc.k = 1 by omega)).trans (if_neg (show ¬ cc.k = 2 by omega))
        refine ⟨⟨4, 0, r, cc.s, cc.n, false⟩ :: (us ++ ch), by rw [e, a]; simp [MkS.lay], ?_⟩
        simp only
        rw [en]
        exact .fn rfl (by rw [bl]; exact ap.1 h3) cu hd
/-! #### no variable's register is a GetFun's -/
def Apart10 (m : MkS) (r : Int) : Prop := ∀ n q, m.at_ n = some q → q ≠ r
theorem Apart10.new {m m' : MkS} {r : Int} (h : Apart10 m r) (hn : NewV m m') (hr : r < m.next) : Apart10 m' r := fun n q e => by
  rcases hn.new n q e with e | e
  · exact h n q e
  · omega
theorem unifyS_sep : ∀ (ts : List Tm) (m : MkS), KindsL ts → m.fit → (∀ p ∈ (unifyS ts m).2, Apart10 (unifyS ts m).1 p.2) ∧ ∃ us : List Ins, (unifyS ts m).1.code = m.code ++ us ∧ ∀ i ∈ us, i.op ≠ 4
  | [], m, _, _ => ⟨by simp [unifyS], [], by simp [unifyS], by simp⟩
  | t :: ts, m, hk, hf => by
    have hkt : kindOk t.hd := KindsL.mem hk t List.mem_cons_self
    unfold unifyS
    rcases hkt with h1 | h2 | h3
    · rw [if_pos h1]
      have hl := var_lays m t.hd.n 5 6 0 hf (by omega) (by omega) (by omega)
      obtain ⟨a, us, b, c⟩ := unifyS_sep ts _ hk.2 hl.1
      obtain ⟨i, ei, eo⟩ := var_app m t.hd.n 5 6 0
      refine ⟨a, i :: us, by rw [b, ei]; simp, fun j hj => ?_⟩
      rcases List.mem_cons.1 hj with rfl | hj
      · omega
      · exact c j hj
    · rw [if_neg (by omega), if_pos h2]
      obtain ⟨a, us, b, c⟩ := unifyS_sep ts (m.lay ⟨7, 0, 0, ⟨#[]⟩, t.hd.n, false⟩) hk.2 hf
      refine ⟨a, ⟨7, 0, 0, ⟨#[]⟩, t.hd.n, false⟩ :: us, by rw [b]; simp [MkS.lay], fun j hj => ?_⟩
      rcases List.mem_cons.1 hj with rfl | hj
      · simp
      · exact c j hj
    · rw [if_neg (by omega), if_neg (by omega), if_pos h3]
      have hl := fresh_lays hf ⟨5, m.next, 0, ⟨#[]⟩, 0, false⟩ (by simp [onceGo, isVal, isArg, setsX])
      obtain ⟨a, us, b, c⟩ := unifyS_sep ts _ hk.2 hl.1
      refine ⟨fun p hp => ?_, ⟨5, m.next, 0, ⟨#[]⟩, 0, false⟩ :: us, by simp only; rw [b]; simp [MkS.lay, MkS.fresh], fun j hj => ?_⟩
      · rcases List.mem_cons.1 hp with rfl | hp
        · refine Apart10.new (m := m.fresh.lay ⟨5, m.next, 0, ⟨#[]⟩, 0, false⟩) ?_ (NewV.of_unify ts _) (by simp [MkS.lay, MkS.fresh]; omega)
          intro n q e
          have := hf.2 n q e
          simp only
          omega
        · exact a p hp
      · rcases List.mem_cons.1 hj with rfl | hj
        · simp
        · exact c j hj
theorem getS_sep (p : Tm × Int) (m : MkS) (hk : Kinds p.1) (hf : m.fit) (hp : 0 ≤ p.2 ∧ p.2 < m.next) (hs : Apart10 m p.2) : (∀ q ∈ (getS p m).2, Apart10 (getS p m).1 q.2) ∧ ∃ ch : List Ins, (getS p m).1.code = m.code ++ ch ∧ ∀ i ∈ ch, i.op = 4 → i.a = p.2 := by
  obtain ⟨t, r⟩ := p
  cases t with
  | mk c ts =>
    rcases (show kindOk c from hk.1) with h1 | h2 | h3
    · have e : getS (Tm.mk c ts, r) m = (m.var c.n 1 2 r, []) := by unfold getS; exact if_pos h1
      rw [e]
      obtain ⟨i, ei, eo⟩ := var_app m c.n 1 2 r
      refine ⟨(fun q hq => by cases hq), [i], ei, fun j hj h4 => ?_⟩
      simp at hj
      subst hj
      omega
    · have e : getS (Tm.mk c ts, r) m = (m.lay ⟨3, 0, r, ⟨#[]⟩, c.n, false⟩, []) := by unfold getS; exact (if_neg (show ¬ c.k = 1 by omega)).trans (if_pos h2)
      rw [e]
      refine ⟨(fun q hq => by cases hq), [_], rfl, fun j hj h4 => ?_⟩
      simp at hj
      subst hj
      simp at h4
    · have e : getS (Tm.mk c ts, r) m = unifyS ts (m.lay ⟨4, 0, r, c.s, c.n, false⟩) := by unfold getS; exact (if_neg (show ¬ c.k = 1 by omega)).trans ((if_neg (show ¬ c.k = 2 by omega)).trans (if_pos h3))
      rw [e]
      obtain ⟨a, us, b, cc⟩ := unifyS_sep ts (m.lay ⟨4, 0, r, c.s, c.n, false⟩) hk.2.2 hf
      refine ⟨a, ⟨4, 0, r, c.s, c.n, false⟩ :: us, by rw [b]; simp [MkS.lay], fun j hj h4 => ?_⟩
      rcases List.mem_cons.1 hj with rfl | hj
      · rfl
      · exact absurd h4 (cc j hj)
theorem rowS_sep : ∀ (f : Nat) (ps : List (Tm × Int)) (m : MkS), (∀ p ∈ ps, Kinds p.1 ∧ (0 ≤ p.2 ∧ p.2 < m.next) ∧ Apart10 m p.2) → m.fit → ∃ ch : List Ins, (rowS f ps m).code = m.code ++ ch ∧ ∀ i ∈ ch, i.op = 4 → i.a < (rowS f ps m).next ∧ Apart10 (rowS f ps m) i.a
  | 0, _, m, _, _ => ⟨[], by simp [rowS], by simp⟩
  | _ + 1, [], m, _, _ => ⟨[], by simp [rowS], by simp⟩
  | f + 1, p :: ps, m, hp, hf => by
    obtain ⟨k1, k2, k3⟩ := hp p List.mem_cons_self
    obtain ⟨a, ch, b, c⟩ := getS_sep p m k1 hf k2 k3
    obtain ⟨l1, l2⟩ := getS_lays p m k1 hf k2
    obtain ⟨_, _, kq⟩ := getS_len p m k1
    have hg := NewV.of_get p m
    obtain ⟨ch2, b2, c2⟩ := rowS_sep f (ps ++ (getS p m).2) (getS p m).1 (fun q hq => by
      rcases List.mem_append.1 hq with hq | hq
      · obtain ⟨q1, q2, q3⟩ := hp q (List.mem_cons_of_mem _ hq)
        have := hg.up
        exact ⟨q1, by omega, q3.new hg q2.2⟩
      · exact ⟨kq q hq, l2 q hq, a q hq⟩) l1.1
    have er : rowS (f + 1) (p :: ps) m = rowS f (ps ++ (getS p m).2) (getS p m).1 := by conv => lhs; unfold rowS
    rw [er]
    have hr := NewV.of_row f (ps ++ (getS p m).2) (getS p m).1
    refine ⟨ch ++ ch2, by rw [b2, b, List.append_assoc], fun i hi h4 => ?_⟩
    rcases List.mem_append.1 hi with hi | hi
    · rw [c i hi h4]
      have := hg.up
      have := hr.up
      exact ⟨by omega, (k3.new hg k2.2).new hr (by omega)⟩
    · exact c2 i hi h4
mutual
theorem structS_no4 : ∀ (t : Tm) (m : MkS), Kinds t → ∃ ch : List Ins, (structS t m).1.code = m.code ++ ch ∧ ∀ i ∈ ch, i.op ≠ 4
  | .mk c ts, m, hk => by
    obtain ⟨ch, a, b⟩ := innerS_no4 ts m hk.2.2
    obtain ⟨us, a2, _, c2⟩ := setsS_app ts (innerS ts m).2 ((innerS ts m).1.fresh.lay ⟨8, 0, (innerS ts m).1.next, c.s, c.n, false⟩) (innerS_regs ts m).symm (KindsL.mem hk.2.2)
    refine ⟨ch ++ (⟨8, 0, (innerS ts m).1.next, c.s, c.n, false⟩ :: us), by unfold structS; simp only; rw [a2]; simp [MkS.lay, MkS.fresh, a], fun i hi => ?_⟩
    rcases List.mem_append.1 hi with hi | hi
    · exact b i hi
    · rcases List.mem_cons.1 hi with rfl | hi
      · simp
      · intro e
        have := (c2 i hi).2
        simp [isS, e] at this
theorem innerS_no4 : ∀ (ts : List Tm) (m : MkS), KindsL ts → ∃ ch : List Ins, (innerS ts m).1.code = m.code ++ ch ∧ ∀ i ∈ ch, i.op ≠ 4
  | [], m, _ => ⟨[], by simp [innerS], by simp⟩
  | t :: ts, m, hk => by
    by_cases h3 : t.hd.k = 3
    · obtain ⟨ch, a, b⟩ := structS_no4 t m hk.1
      obtain ⟨ch2, a2, b2⟩ := innerS_no4 ts (structS t m).1 hk.2
      refine ⟨ch ++ ch2, by unfold innerS; rw [if_pos h3]; simp only; rw [a2, a, List.append_assoc], fun i hi => ?_⟩
      rcases List.mem_append.1 hi with hi | hi
      · exact b i hi
      · exact b2 i hi
    · obtain ⟨ch2, a2, b2⟩ := innerS_no4 ts m hk.2
      exact ⟨ch2, by unfold innerS; rw [if_neg h3]; exact a2, b2⟩
end
theorem lits_no4 : ∀ (b : List (Bool × Tm)) (m : MkS), (∀ x ∈ b, Kinds x.2) → ∃ ch : List Ins, (b.foldl (fun m x => litS x m) m).code = m.code ++ ch ∧ ∀ i ∈ ch, i.op ≠ 4
  | [], m, _ => ⟨[], by simp, by simp⟩
  | x :: b, m, h => by
    obtain ⟨ch, a, e⟩ := structS_no4 x.2 m (h x List.mem_cons_self)
    obtain ⟨ch2, a2, e2⟩ := lits_no4 b (litS x m) (fun y hy => h y (List.mem_cons_of_mem _ hy))
    refine ⟨ch ++ (⟨12, 0, (structS x.2 m).2, ⟨#[]⟩, 0, x.1⟩ :: ch2), by rw [List.foldl_cons, a2]; unfold litS; simp [MkS.lay, a], fun i hi => ?_⟩
    rcases List.mem_append.1 hi with hi | hi
    · exact e i hi
    · rcases List.mem_cons.1 hi with rfl | hi
      · simp
      · exact e2 i hi
/-- the registers that a GetFun asks of -/
def funsOf (l : List Ins) (r : Int) : Bool := l.any fun i => i.op == 4 && i.a == r
theorem funsOf_iff {l : List Ins} {r : Int} : funsOf l r = true ↔ ∃ i ∈ l, i.op = 4 ∧ i.a = r := by
  unfold funsOf
  rw [List.any_eq_true]
  simp
/-! #### different variables have different registers -/
def InjM (m : MkS) : Prop := m.fit ∧ ∀ n n' r, m.at_ n = some r → m.at_ n' = some r → n = n'
theorem InjM.lay {m : MkS} (h : InjM m) (i : Ins) : InjM (m.lay i) := h
theorem InjM.fresh {m : MkS} (h : InjM m) : InjM m.fresh := by
  refine ⟨⟨by have := h.1.1; simp [MkS.fresh]; omega, fun n r e => ?_⟩, h.2⟩
  have := h.1.2 n r e
  simp [MkS.fresh]; omega
theorem InjM.var {m : MkS} (h : InjM m) (n f g a : Int) : InjM (m.var n f g a) := by
  unfold MkS.var
  cases hr : m.at_ n with
  | some r => exact h.lay _
  | none =>
    refine InjM.lay (m := { m.fresh with at_ := fun j => if j = n then some m.next else m.at_ j }) ⟨⟨by have := h.1.1; simp [MkS.fresh]; omega, fun k r e => ?_⟩, fun k k' r e e' => ?_⟩ _
    · simp only [MkS.fresh] at e ⊢
      split at e
      · injection e with e
        have := h.1.1
        omega
      · have := h.1.2 k r e; omega
    · simp only [MkS.fresh] at e e'
      split at e
      · rename_i e1
        injection e with e
        split at e'
        · rename_i e2; omega
        · have := h.1.2 k' r e'; omega
      · split at e'
        · injection e' with e'
          have := h.1.2 k r e
          omega
        · exact h.2 k k' r e e'
theorem InjM.ofUnify : ∀ (ts : List Tm) {m : MkS}, InjM m → InjM (unifyS ts m).1
  | [], m, h => by unfold unifyS; exact h
  | t :: ts, m, h => by
    unfold unifyS
    split
    · exact InjM.ofUnify ts (h.var _ _ _ _)
    · split
      · exact InjM.ofUnify ts (h.lay _)
      · split
        · exact InjM.ofUnify ts (h.fresh.lay _)
        · exact InjM.ofUnify ts h
theorem InjM.ofGet (p : Tm × Int) {m : MkS} (h : InjM m) : InjM (getS p m).1 := by
  unfold getS
  split
  · exact h.var _ _ _ _
  · split
    · exact h.lay _
    · split
      · exact InjM.ofUnify _ (h.lay _)
      · exact h
theorem InjM.ofRow : ∀ (f : Nat) (ps : List (Tm × Int)) {m : MkS}, InjM m → InjM (rowS f ps m)
  | 0, _, _, h => h
  | _ + 1, [], _, h => h
  | f + 1, p :: ps, m, h => by unfold rowS; exact InjM.ofRow f _ (h.ofGet p)
theorem InjM.ofSet (c : Cel) (r : Int) {m : MkS} (h : InjM m) : InjM (setS c r m) := by
  unfold setS
  split
  · exact h.var _ _ _ _
  · split
    · exact h.lay _
    · split
      · exact h.lay _
      · exact h
theorem InjM.ofSets : ∀ (ts : List Tm) (rs : List Int) {m : MkS}, InjM m → InjM (setsS ts rs m)
  | [], [], _, h => h
  | [], _ :: _, _, h => h
  | _ :: _, [], _, h => h
  | t :: ts, r :: rs, _, h => by unfold setsS; exact InjM.ofSets ts rs (h.ofSet t.hd r)
mutual
theorem InjM.ofStruct : ∀ (t : Tm) {m : MkS}, InjM m → InjM (structS t m).1
  | .mk c ts, m, h => by
    unfold structS
    exact InjM.ofSets ts _ ((InjM.ofInner ts h).fresh.lay _)
theorem InjM.ofInner : ∀ (ts : List Tm) {m : MkS}, InjM m → InjM (innerS ts m).1
  | [], m, h => by unfold innerS; exact h
  | t :: ts, m, h => by
    unfold innerS
    split
    · exact InjM.ofInner ts (InjM.ofStruct t h)
    · exact InjM.ofInner ts h
end
theorem InjM.ofLits : ∀ (b : List (Bool × Tm)) {m : MkS}, InjM m → InjM (b.foldl (fun m x => litS x m) m)
  | [], _, h => h
  | x :: b, _, h => by rw [List.foldl_cons]; exact InjM.ofLits b ((InjM.ofStruct x.2 h).lay _)
end Go.Proofs.Ytmmnfkggfnokjaa
namespace Go.Proofs.Ytmmnfkggfnokjaa
open Go.RowKit
/-- A world that comes later: what was there is as it was. -/
structure Later (w : World) where
  w' : World
  ok : Below w.heap.size w w'
instance (w : World) : Nonempty (Later w) := ⟨⟨w, Below.refl _ _⟩⟩
end Go.Proofs.Ytmmnfkggfnokjaa
