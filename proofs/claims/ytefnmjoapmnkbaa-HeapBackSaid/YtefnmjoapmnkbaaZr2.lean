import Derived.Test.YtefnmjoapmnkbaaZr1
import Derived.BigFrame
import Derived.WalkSmall
import Derived.Deep.LoopGhost
import Derived.Deep.RegionHeld3
import Derived.Maps.OwnOps
import Derived.Maps.OwnSet
import Derived.Maps.OwnIn
namespace Go.Proofs.Ytefnmjoapmnkbaa
open Go.RowKit

/-- data of a kind, whose cells are told by a list of values -/
class RepC (α : Type) extends Rep α where
  C : World → List Value → α → Prop
  len : ∀ {w : World} {cs : List Value} {x : α}, C w cs x → cs.length = Rep.sz α
  one : ∀ {w : World} {cs : List Value} {x : α}, C w cs x → ∀ u ∈ cs, u.oneCell' = true
  cmono : ∀ {w w' : World} {cs : List Value} {x : α}, C w cs x → Keeps w w' → C w' cs x
  toE : ∀ {w : World} {cs : List Value} {x : α} {b o : Nat}, C w cs x → (∀ j u, cs[j]? = some u → w.cell? ⟨b, o + j, none⟩ = some u) → Rep.E w b o x
  ofE : ∀ {w : World} {x : α} {b o : Nat}, Rep.E w b o x → ∃ cs, C w cs x ∧ ∀ j u, cs[j]? = some u → w.cell? ⟨b, o + j, none⟩ = some u
  pos : 0 < sz

/-- values that read as a list, element by element -/
inductive CRows {α : Type} [RepC α] (w : World) : List Value → List α → Prop where
  | nil : CRows w [] []
  | cons {cs : List Value} {x : α} {vs : List Value} {xs : List α} : RepC.C w cs x → CRows w vs xs → CRows w (cs ++ vs) (x :: xs)

section
variable {α : Type} [RepC α]
theorem CRows.len {w : World} {vs : List Value} {xs : List α} (h : CRows w vs xs) : vs.length = xs.length * Rep.sz α := by
  induction h with
  | nil => simp
  | cons hc _ ih => rw [List.length_append, RepC.len hc, ih, List.length_cons, Nat.succ_mul, Nat.add_comm]
theorem CRows.one {w : World} {vs : List Value} {xs : List α} (h : CRows w vs xs) : ∀ u ∈ vs, u.oneCell' = true := by
  induction h with
  | nil => intro u hu; simp at hu
  | cons hc _ ih =>
    intro u hu
    rcases List.mem_append.1 hu with hu | hu
    · exact RepC.one hc u hu
    · exact ih u hu
theorem CRows.keeps {w w' : World} {vs : List Value} {xs : List α} (h : CRows w vs xs) (hk : Keeps w w') : CRows w' vs xs := by
  induction h with
  | nil => exact .nil
  | cons hc _ ih => exact .cons (RepC.cmono hc hk) ih
theorem CRows.append {w : World} {vs us : List Value} {xs ys : List α} (h : CRows w vs xs) (k : CRows w us ys) : CRows w (vs ++ us) (xs ++ ys) := by
  induction h with
  | nil => exact k
  | cons hc _ ih => rw [List.append_assoc]; exact .cons hc ih
theorem CRows.single {w : World} {cs : List Value} {x : α} (h : RepC.C w cs x) : CRows w cs [x] := by
  have := CRows.cons h (CRows.nil (w := w) (α := α))
  rwa [List.append_nil] at this
theorem CRows.snoc {w : World} {vs cs : List Value} {xs : List α} {x : α} (h : CRows w vs xs) (k : RepC.C w cs x) : CRows w (vs ++ cs) (xs ++ [x]) := h.append (CRows.single k)
/-- at a block -/
theorem CRows.at_ {w : World} {vs : List Value} {xs : List α} (h : CRows w vs xs) : ∀ {b o : Nat}, (∀ j u, vs[j]? = some u → w.cell? ⟨b, o + j, none⟩ = some u) → ∀ i x, xs[i]? = some x → Rep.E w b (o + i * Rep.sz α) x := by
  induction h with
  | nil => intro b o _ i x hi; simp at hi
  | @cons cs x vs xs hc _ ih =>
    intro b o hat i y hi
    cases i with
    | zero =>
      simp at hi
      subst hi
      rw [Nat.zero_mul, Nat.add_zero]
      refine RepC.toE hc fun j u hj => hat j u ?_
      rw [List.getElem?_append_left (List.getElem?_eq_some_iff.1 hj).1]; exact hj
    | succ i =>
      rw [List.getElem?_cons_succ] at hi
      have := ih (b := b) (o := o + Rep.sz α) (fun j u hj => by
        have := hat (Rep.sz α + j) u (by rw [List.getElem?_append_right (by rw [RepC.len hc]; omega), RepC.len hc, Nat.add_sub_cancel_left]; exact hj)
        rwa [← Nat.add_assoc] at this) i y hi
      rwa [show o + (i + 1) * Rep.sz α = o + Rep.sz α + i * Rep.sz α by rw [Nat.succ_mul]; omega]
/-- a row of the call's own reads as a row -/
theorem own_rowG {w : World} {B e : Nat} {v : Value} {vs : List Value} {xs : List α} (h : w.ownsRow B e (Rep.sz α) v xs.length vs) (hs : CRows w vs xs) : ∃ a cap, v = .slice a xs.length cap ∧ Row w a cap xs := by
  rcases h.2 with ⟨rfl, hn⟩ | ⟨g, cap, cur, rfl, hb, hg, hn, hm, hsz, ht⟩
  · obtain rfl : xs = [] := List.eq_nil_of_length_eq_zero hn
    exact ⟨none, 0, rfl, Row.empty _ _ _ (by omega) (fun _ => rfl)⟩
  · refine ⟨_, cap, rfl, ⟨hn, by unfold maxLen at hm; omega, (fun e => by cases e), fun i x hi => ⟨g, 0, rfl, ?_⟩⟩⟩
    exact hs.at_ (fun j u hj => by rw [Nat.zero_add]; exact own_cells h j u hj) i x hi
/-- the cells of a row -/
theorem crows_of {w : World} {b : Nat} : ∀ (xs : List α) (o : Nat), (∀ i x, xs[i]? = some x → Rep.E w b (o + i * Rep.sz α) x) → ∃ vs, CRows w vs xs ∧ ∀ j u, vs[j]? = some u → w.cell? ⟨b, o + j, none⟩ = some u
  | [], _, _ => ⟨[], .nil, fun j u h => by simp at h⟩
  | x :: xs, o, h => by
    have h0 := h 0 x rfl
    rw [Nat.zero_mul, Nat.add_zero] at h0
    obtain ⟨cs, hc, hat⟩ := RepC.ofE h0
    obtain ⟨vs, hv, hvat⟩ := crows_of xs (o + Rep.sz α) (fun i y hi => by
      have := h (i + 1) y (by rw [List.getElem?_cons_succ]; exact hi)
      rwa [show o + (i + 1) * Rep.sz α = o + Rep.sz α + i * Rep.sz α by rw [Nat.succ_mul]; omega] at this)
    refine ⟨cs ++ vs, .cons hc hv, fun j u hj => ?_⟩
    by_cases hl : j < cs.length
    · rw [List.getElem?_append_left hl] at hj
      exact hat j u hj
    · rw [List.getElem?_append_right (by omega)] at hj
      have := hvat _ u hj
      rw [RepC.len hc] at this
      rwa [show o + Rep.sz α + (j - Rep.sz α) = o + j by have := RepC.len hc; omega] at this
theorem Row.srcG {w : World} {a : Option Addr} {cap : Nat} {xs : List α} (h : Row w a cap xs) : ∃ vs, CRows w vs xs ∧ Src w (Rep.sz α) a xs.length cap vs := by
  rcases h.cases with rfl | ⟨b, off, rfl, _, hat⟩
  · refine ⟨[], .nil, ⟨by simp, fun e => ⟨rfl, h.nil e⟩, fun ad _ j u hj => by simp at hj, fun u hu => by simp at hu⟩⟩
  · obtain ⟨vs, hv, hvat⟩ := crows_of (w := w) (b := b) xs off (fun i x hi => by
      obtain ⟨hl, rfl⟩ := List.getElem?_eq_some_iff.1 hi
      exact hat i hl)
    refine ⟨vs, hv, ⟨hv.len, (fun e => by cases e), ?_, hv.one⟩⟩
    intro ad e j u hj
    simp at e
    subst e
    have ha : (Addr.mk b off none).add j = ⟨b, off + j, none⟩ := by unfold Addr.add; split <;> simp_all
    rw [ha]
    exact hvat j u hj
/-- an element that was laid in a new block, as the source of an append -/
theorem CRows.takeL {w : World} {vs : List Value} {xs : List α} (h : CRows w vs xs) (k : Nat) : CRows w (vs.take (k * Rep.sz α)) (xs.take k) := by
  induction h generalizing k with
  | nil => simp; exact .nil
  | @cons cs x vs xs hc _ ih =>
    cases k with
    | zero => simp; exact .nil
    | succ k =>
      rw [List.take_succ_cons, List.take_append, RepC.len hc, List.take_of_length_le (by rw [RepC.len hc, Nat.succ_mul]; omega), show (k + 1) * Rep.sz α - Rep.sz α = k * Rep.sz α by rw [Nat.succ_mul]; omega]
      exact .cons hc (ih k)
end

instance {α : Type} [Rep α] : RepC (List α) where
  C w cs xs := ∃ a cap, cs = [.slice a xs.length cap] ∧ Row w a cap xs
  len := by rintro w cs xs ⟨a, cap, rfl, _⟩; rfl
  one := by rintro w cs xs ⟨a, cap, rfl, _⟩ u hu; simp at hu; subst hu; rfl
  cmono := by rintro w w' cs xs ⟨a, cap, rfl, h⟩ hk; exact ⟨a, cap, rfl, h.keeps hk⟩
  toE := by
    rintro w cs xs b o ⟨a, cap, rfl, h⟩ hat
    exact ⟨a, cap, hat 0 _ rfl, h⟩
  ofE := by
    rintro w xs b o ⟨a, cap, hc, h⟩
    refine ⟨_, ⟨a, cap, rfl, h⟩, fun j u hj => ?_⟩
    cases j with
    | zero => simp at hj; subst hj; exact hc
    | succ j => simp at hj
  pos := Nat.one_pos
instance : RepC Cel where
  C _ cs c := cs = [.int .i64 c.k, .string c.s, .int .i64 c.n] ∧ c.fit
  len := by rintro w cs c ⟨rfl, _⟩; rfl
  one := by rintro w cs c ⟨rfl, _⟩ u hu; simp at hu; rcases hu with rfl | rfl | rfl <;> rfl
  cmono := by rintro w w' cs c h _; exact h
  toE := by
    rintro w cs c b o ⟨rfl, hf⟩ hat
    exact ⟨hat 0 _ rfl, hat 1 _ rfl, hat 2 _ rfl, hf⟩
  ofE := by
    rintro w c b o ⟨h0, h1, h2, hf⟩
    refine ⟨_, ⟨rfl, hf⟩, fun j u hj => ?_⟩
    match j with
    | 0 => simp at hj; subst hj; exact h0
    | 1 => simp at hj; subst hj; exact h1
    | 2 => simp at hj; subst hj; exact h2
    | j + 3 => simp at hj
  pos := by decide
instance : RepC Int where
  C _ cs n := cs = [.int .i64 n] ∧ -9223372036854775808 ≤ n ∧ n ≤ 9223372036854775807
  len := by rintro w cs c ⟨rfl, _⟩; rfl
  one := by rintro w cs c ⟨rfl, _⟩ u hu; simp at hu; subst hu; rfl
  cmono := by rintro w w' cs c h _; exact h
  toE := by
    rintro w cs c b o ⟨rfl, h1, h2⟩ hat
    exact ⟨hat 0 _ rfl, h1, h2⟩
  ofE := by
    rintro w c b o ⟨h0, h1, h2⟩
    refine ⟨_, ⟨rfl, h1, h2⟩, fun j u hj => ?_⟩
    cases j with
    | zero => simp at hj; subst hj; exact h0
    | succ j => simp at hj
  pos := by decide

section
variable {α : Type} [RepC α]
/-- a slice literal, laid in a new block -/
theorem row_new (w : World) (cs : Array Value) (T : TypeId × Nat) {xs : List α} (h : CRows (w.alloc (.cells cs T.1)) cs.toList xs) (hl : xs.length ≤ 9223372036854775807) :
    Row (w.alloc (.cells cs T.1)) (some ⟨w.heap.size, 0, none⟩) xs.length xs :=
  ⟨Nat.le_refl _, hl, (fun e => by cases e), fun i x hi => ⟨w.heap.size, 0, rfl, h.at_ (fun j u hj => by
    rw [Nat.zero_add, World.cell?_alloc_at _ _ _ _ rfl]; simpa using hj) i x hi⟩⟩
theorem Row.lit {w : World} {a : Option Addr} {cap : Nat} {xs ys : List α} (h : Row w a cap xs) (e : xs = ys) : Row w a cap ys := e ▸ h
end

/-- the world without all blocks below B -/
def under (B : Nat) (w : World) : World := { w with heap := w.heap.mapIdx fun i o => if i < B then .cells #[] 0 else o }
theorem under_size (B : Nat) (w : World) : (under B w).heap.size = w.heap.size := by simp [under]
theorem under_heap {B : Nat} {w : World} {b : Nat} (h : B ≤ b) : (under B w).heap[b]? = w.heap[b]? := by
  unfold under
  rw [Array.getElem?_mapIdx]
  cases hw : w.heap[b]? with
  | none => rfl
  | some o => simp; intro; omega
theorem under_cell {B : Nat} {w : World} {b o : Nat} {v : Value} (h : (under B w).cell? ⟨b, o, none⟩ = some v) : B ≤ b ∧ w.cell? ⟨b, o, none⟩ = some v := by
  by_cases hb : B ≤ b
  · refine ⟨hb, ?_⟩
    rwa [World.cell?, under_heap hb] at h
  · exfalso
    unfold under at h
    simp only [World.cell?, Array.getElem?_mapIdx] at h
    cases hw : w.heap[b]? with
    | none => rw [hw] at h; simp at h
    | some o => rw [hw] at h; simp [show b < B by omega] at h
theorem under_of {B : Nat} {w : World} {b o : Nat} {v : Value} (hb : B ≤ b) (h : w.cell? ⟨b, o, none⟩ = some v) : (under B w).cell? ⟨b, o, none⟩ = some v := by
  rwa [World.cell?, under_heap hb]
theorem under_keeps (B : Nat) (w : World) : Keeps (under B w) w := fun _ _ _ h => (under_cell h).2
theorem under_mono {B B' : Nat} (h : B' ≤ B) (w : World) : Keeps (under B w) (under B' w) := fun _ _ _ hc => under_of (Nat.le_trans h (under_cell hc).1) (under_cell hc).2
theorem under_hide {B : Nat} (w : World) {r : Option Nat} (hr : ∀ g, r = some g → g < B) : Keeps (under B w) (hide r w) := by
  intro b o v hc
  obtain ⟨h1, h2⟩ := under_cell hc
  cases r with
  | none => exact h2
  | some g => exact hide_of_ne (by have := hr g rfl; omega) h2
theorem under_grown {B : Nat} {w w' : World} {r : Option Nat} (hg : w.grownBy w' r) (hr : ∀ g, r = some g → g < B) : Keeps (under B w) (under B w') := by
  intro b o v hc
  obtain ⟨h1, h2⟩ := under_cell hc
  refine under_of h1 ?_
  exact (World.cell?_of_block (w := w) (a := ⟨b, o, none⟩) (hg.block b (cell_lt h2) (fun e => by have := hr b e.symm; omega))).trans h2
theorem under_below {B : Nat} {w w' : World} (hb : Below w.heap.size w w') : Keeps (under B w) (under B w') := under_grown (below_grown hb none) (fun g e => by cases e)
theorem under_own {w : World} {B e size : Nat} {v : Value} {n : Nat} {xs : List Value} (h : w.ownsRow B e size v n xs) : (under B w).ownsRow B e size v n xs := by
  refine ⟨h.1, ?_⟩
  rcases h.2 with h | ⟨g, cap, cur, rfl, hb, hg, rest⟩
  · exact .inl h
  · exact .inr ⟨g, cap, cur, rfl, hb, by rw [under_heap hb]; exact hg, rest⟩
theorem under_new {w0 w : World} (h : Keeps w0 w) {B : Nat} (hn : ∀ b o v, w0.cell? ⟨b, o, none⟩ = some v → B ≤ b) : Keeps w0 (under B w) := fun b o v hc => under_of (hn b o v hc) (h _ _ _ hc)

/-- a slice that lies in no block below B -/
def NewRow {α : Type} [Rep α] (B : Nat) (w : World) (a : Option Addr) (cap : Nat) (xs : List α) : Prop := Row (under B w) a cap xs
section
variable {α : Type} [Rep α] {B : Nat} {w w' : World} {a : Option Addr} {cap : Nat} {xs : List α}
theorem NewRow.row (h : NewRow B w a cap xs) : Row w a cap xs := Row.keeps h (under_keeps B w)
theorem NewRow.hide (h : NewRow B w a cap xs) {r : Option Nat} (hr : ∀ g, r = some g → g < B) : Row (hide r w) a cap xs := Row.keeps h (under_hide w hr)
theorem NewRow.below (h : NewRow B w a cap xs) (hb : Below w.heap.size w w') : NewRow B w' a cap xs := Row.keeps h (under_below hb)
theorem NewRow.grown (h : NewRow B w a cap xs) {r : Option Nat} (hg : w.grownBy w' r) (hr : ∀ g, r = some g → g < B) : NewRow B w' a cap xs := Row.keeps h (under_grown hg hr)
theorem NewRow.mono {B' : Nat} (h : NewRow B w a cap xs) (hb : B' ≤ B) : NewRow B' w a cap xs := Row.keeps h (under_mono hb w)
theorem NewRow.empty (B : Nat) (w : World) (a : Option Addr) (cap : Nat) (h : cap ≤ 9223372036854775807) (hn : a = none → cap = 0) : NewRow B w a cap ([] : List α) := Row.empty _ _ _ h hn
theorem NewRow.lit {ys : List α} (h : NewRow B w a cap xs) (e : xs = ys) : NewRow B w a cap ys := e ▸ h
end
theorem own_newG {α : Type} [RepC α] {w : World} {B e : Nat} {v : Value} {vs : List Value} {xs : List α} (h : w.ownsRow B e (Rep.sz α) v xs.length vs) (hs : CRows (under B w) vs xs) :
    ∃ a cap, v = .slice a xs.length cap ∧ NewRow B w a cap xs := own_rowG (under_own h) hs
theorem crows_flat (w : World) {xs : List Cel} (h : ∀ c ∈ xs, c.fit) : CRows w (flat xs) xs := by
  induction xs with
  | nil => exact .nil
  | cons c xs ih => exact .cons (cs := [.int .i64 c.k, .string c.s, .int .i64 c.n]) ⟨rfl, h c (by simp)⟩ (ih fun d hd => h d (by simp [hd]))
theorem crows_ints (w : World) {xs : List Int} (h : ∀ n ∈ xs, -9223372036854775808 ≤ n ∧ n ≤ 9223372036854775807) : CRows w (xs.map (Value.int .i64)) xs := by
  induction xs with
  | nil => exact .nil
  | cons c xs ih => exact .cons (cs := [.int .i64 c]) ⟨rfl, h c (by simp)⟩ (ih fun d hd => h d (by simp [hd]))
theorem own_new {w : World} {B e : Nat} {v : Value} {xs : List Cel} (h : w.ownsRow B e 3 v xs.length (flat xs)) (hf : ∀ c ∈ xs, c.fit) : ∃ a cap, v = .slice a xs.length cap ∧ NewRow B w a cap xs :=
  own_newG h (crows_flat _ hf)

theorem fresh_own {w wr : World} {e size n : Nat} {v : Value} {xs : List Value} (hb : Below w.heap.size w wr) (h : wr.ownsRow w.heap.size e size v n xs) : Keeps w (hide v.ownBlock wr) := by
  cases hv : v.ownBlock with
  | none => exact Keeps.of hb
  | some g => exact fresh_keeps (Keeps.of hb) (h.lt g hv).1
end Go.Proofs.Ytefnmjoapmnkbaa
set_option linter.unusedVariables false
namespace Go.Proofs.Ytefnmjoapmnkbaa
open Go.RowKit

/-! ### copies -/
theorem Try.infoSlot : (Try.prog.info? 80).map (fun i => (i.zero, i.size, i.bytes)) = some (some (.agg #[.int .i64 0, .string ⟨#[]⟩, .int .i64 0]), 3, 32) := by kernel_rfl
theorem Row.srcI {w : World} {a : Option Addr} {cap : Nat} {xs : List Int} (h : Row w a cap xs) : Src w 1 a xs.length cap (xs.map (Value.int .i64)) ∧ ∀ n ∈ xs, -9223372036854775808 ≤ n ∧ n ≤ 9223372036854775807 := by
  obtain ⟨vs, hv, hs⟩ := h.srcG
  have key : ∀ (vs : List Value) (xs : List Int), CRows w vs xs → vs = xs.map (Value.int .i64) ∧ ∀ n ∈ xs, -9223372036854775808 ≤ n ∧ n ≤ 9223372036854775807 := by
    intro vs xs h
    induction h with
    | nil => exact ⟨rfl, by simp⟩
    | @cons cs x vs xs hc _ ih =>
      obtain ⟨rfl, h1⟩ := hc
      obtain ⟨rfl, h2⟩ := ih
      refine ⟨rfl, fun n hn => ?_⟩
      rcases List.mem_cons.1 hn with rfl | hn
      · exact h1
      · exact h2 n hn
  obtain ⟨rfl, hf⟩ := key vs xs hv
  exact ⟨hs, hf⟩
set_option maxHeartbeats 400000 in
theorem cloneS_own (a : Option Addr) (cap : Nat) (n : Nat) (w : World) (xs : List Cel) (hn : n = xs.length) (hx : Row w a cap xs) (hl : xs.length ≤ 1000000) :
    Calls Try.prog 61 #[.slice a n cap] w fun e w' => ∃ v, e = .returned v ∧ w'.ownsRow w.heap.size 80 3 v xs.length (flat xs) ∧ Below w.heap.size w w' := by
  subst hn
  have hsrc := hx.src
  cases a with
  | none =>
    have h0 := (hsrc.nil rfl).1
    obtain rfl : xs = [] := List.eq_nil_of_length_eq_zero h0
    have hc := hx.nil rfl
    subst hc
    have hnil := fun w' : World => Lib.run_eql_slice_nil (P := Try.prog) w' 22 80 none 0 0 0 0 Try.underlying22
    go_enter Try.func61, Try.ntmps61
    go_wp2
    go_ret
    exact ⟨_, rfl, World.ownsRow_nil _ _ _ _, Below.refl _ _⟩
  | some ad =>
    have hnil := fun w' : World => Lib.run_eql_slice_nil (P := Try.prog) w' 22 80 (some ad) xs.length cap 0 0 Try.underlying22
    have hm := World.ownsRow_made (base := w.heap.size) (e := 80) (size := 3) w #[] 0 (Nat.le_refl _) (by unfold maxLen; omega) rfl
    have hb0 := (Below.refl w.heap.size w).new (.cells #[] 80)
    have hs : Src (w.alloc (.cells #[] 80)) 3 (some ad) xs.length cap (flat xs) := (hx.below hb0).src
    go_enter Try.func61, Try.ntmps61
    go_wp2_with (at_builtin; refine wpList_app rfl _ _ 22 rfl w.heap.size 80 3 32 _ Try.underlying22 Try.infoSlot rfl (by decide) (by decide) _ 0 [] rfl hm (some ad) xs.length cap (flat xs) rfl hs (by omega) (by simp) ?_; intro v' w' hown _ hb1)
    go_ret
    refine ⟨_, rfl, by simpa using hown, ?_⟩
    exact hb0.trans hb1
set_option maxHeartbeats 400000 in
theorem cloneI_own (a : Option Addr) (cap : Nat) (n : Nat) (w : World) (xs : List Int) (hn : n = xs.length) (hx : Row w a cap xs) (hl : xs.length ≤ 1000000) :
    Calls Try.prog 64 #[.slice a n cap] w fun e w' => ∃ v, e = .returned v ∧ w'.ownsRow w.heap.size 3 1 v xs.length (xs.map (Value.int .i64)) ∧ Below w.heap.size w w' := by
  subst hn
  obtain ⟨hsrc, hfit⟩ := hx.srcI
  cases a with
  | none =>
    have h0 := (hsrc.nil rfl).1
    obtain rfl : xs = [] := List.eq_nil_of_length_eq_zero h0
    have hc := hx.nil rfl
    subst hc
    have hnil := fun w' : World => Lib.run_eql_slice_nil (P := Try.prog) w' 23 3 none 0 0 0 0 Try.underlying23
    go_enter Try.func64, Try.ntmps64
    go_wp2
    go_ret
    exact ⟨_, rfl, World.ownsRow_nil _ _ _ _, Below.refl _ _⟩
  | some ad =>
    have hnil := fun w' : World => Lib.run_eql_slice_nil (P := Try.prog) w' 23 3 (some ad) xs.length cap 0 0 Try.underlying23
    have hm := World.ownsRow_made (base := w.heap.size) (e := 3) (size := 1) w #[] 0 (Nat.le_refl _) (by unfold maxLen; omega) rfl
    have hb0 := (Below.refl w.heap.size w).new (.cells #[] 3)
    have hs : Src (w.alloc (.cells #[] 3)) 1 (some ad) xs.length cap (xs.map (Value.int .i64)) := (hx.below hb0).srcI.1
    go_enter Try.func64, Try.ntmps64
    go_wp2_with (at_builtin; refine wpList_app rfl _ _ 23 rfl w.heap.size 3 1 8 _ Try.underlying23 Try.infoInt rfl (by decide) (by decide) _ 0 [] rfl hm (some ad) xs.length cap (xs.map (Value.int .i64)) rfl hs (by omega) (by simp) ?_; intro v' w' hown _ hb1)
    go_ret
    refine ⟨_, rfl, by simpa using hown, ?_⟩
    exact hb0.trans hb1
theorem cloneS_new (n : Nat) (a : Option Addr) (cap : Nat) (w : World) (xs : List Cel) (hn : n = xs.length) (hx : Row w a cap xs) (hl : xs.length ≤ 1000000) :
    Calls Try.prog 61 #[.slice a n cap] w fun e w' => ∃ a2 cap2, e = .returned (.slice a2 xs.length cap2) ∧ NewRow w.heap.size w' a2 cap2 xs ∧ Below w.heap.size w w' :=
  (cloneS_own a cap n w xs hn hx hl).mono fun e w' ⟨v, he, ho, hb⟩ => by
    obtain ⟨a2, cap2, rfl, hr⟩ := own_new ho hx.fit
    exact ⟨a2, cap2, he, hr, hb⟩
theorem cloneI_new (n : Nat) (a : Option Addr) (cap : Nat) (w : World) (xs : List Int) (hn : n = xs.length) (hx : Row w a cap xs) (hl : xs.length ≤ 1000000) :
    Calls Try.prog 64 #[.slice a n cap] w fun e w' => ∃ a2 cap2, e = .returned (.slice a2 xs.length cap2) ∧ NewRow w.heap.size w' a2 cap2 xs ∧ Below w.heap.size w w' :=
  (cloneI_own a cap n w xs hn hx hl).mono fun e w' ⟨v, he, ho, hb⟩ => by
    obtain ⟨a2, cap2, rfl, hr⟩ := own_newG ho (crows_ints _ hx.srcI.2)
    exact ⟨a2, cap2, he, hr, hb⟩
end Go.Proofs.Ytefnmjoapmnkbaa
set_option linter.unusedVariables false
namespace Go.Proofs.Ytefnmjoapmnkbaa
open Go.RowKit

/-! ### where a slot leads -/
def leads1 (l : List Cel) (k : Nat) (c : Cel) : Int := if c.k = 4 then k + 1 else if onwardB c k = true ∧ standsB l c.n = true then c.n else k
def leads2 (l : List Cel) (k : Nat) (c : Cel) : Int := if c.k = 4 then k + 1 + min c.n (l.length - k - 1) else if onwardB c k = true ∧ standsB l c.n = true then c.n + 1 else k

theorem ret_ints {a b c d : Int} (h : a = c) (h' : b = d) : (Ending.returned (.tuple #[.int .i64 a, .int .i64 b])) = .returned (.tuple #[.int .i64 c, .int .i64 d]) := by rw [h, h']
set_option maxHeartbeats 800000 in
theorem leads_any (a : Option Addr) (cap : Nat) (k : Nat) (w : World) (l : List Cel) (hr : Row w a cap l) (hk : k < l.length) :
    Calls Try.prog 71 #[.slice a l.length cap, .int .i64 k] w fun e w' => e = .returned (.tuple #[.int .i64 (leads1 l k l[k]), .int .i64 (leads2 l k l[k])]) ∧ Below w.heap.size w w' := by
  have hm := hr.max
  have hm2 := hr.le
  obtain ⟨b, off, rfl, hb, hat⟩ := hr.cases.resolve_left (fun e => by simp [e] at hk)
  obtain ⟨c0, c1, c2, hf⟩ := cel_at hat (Below.refl _ _) hk
  have n1 := hf.n1
  have n2 := hf.n2
  have hfit := hf
  obtain ⟨r1, H1⟩ : ∃ r, r = leads1 l k l[k] := ⟨_, rfl⟩
  obtain ⟨r2, H2⟩ : ∃ r, r = leads2 l k l[k] := ⟨_, rfl⟩
  rw [← H1, ← H2]
  generalize l[k] = c at *
  obtain ⟨ck, cs, cn⟩ := c
  dsimp only at *
  replace H1 := mkHid H1
  replace H2 := mkHid H2
  have hb0 := (Below.refl w.heap.size w).new (.cells #[.int .i64 ck, .string cs, .int .i64 cn] 80)
  have e2 : (w.alloc (.cells #[.int .i64 ck, .string cs, .int .i64 cn] 80)).cell? ⟨w.heap.size, 2, none⟩ = some (.int .i64 cn) := World.cell?_alloc_at _ _ _ 2 rfl
  cases h4 : (ck == 4) with
  | true =>
    have E1 : Hid ((k : Int) + 1 = r1) := by
      have h4' : ck = 4 := by simpa using h4
      rw [H1.out, leads1, if_pos h4']; rfl
    have E2 : Hid ((k : Int) + 1 + min cn (l.length - k - 1) = r2) := by
      have h4' : ck = 4 := by simpa using h4
      rw [H2.out, leads2, if_pos h4']; rfl
    clear H1 H2
    go_enter Try.func71, Try.ntmps71
    go_wp2
    go_quiet (fail)
    go_wp2
    all_goals
      go_ret2
      refine ⟨ret_ints E1.out (Eq.trans ?_ E2.out), below_drewN hb0 _⟩
      rw [Int.min_def]
      split <;> omega
  | false =>
    have h4' : ¬ ck = 4 := by simpa using h4
    cases ho : onwardB ⟨ck, cs, cn⟩ k with
    | true =>
      cases hs : standsB l cn with
      | true =>
        have hs' : (decide (0 ≤ cn) && decide (cn < (l.length : Int))) = true := hs
        have hs2 : cn < l.length := by simp [standsB] at hs; omega
        have E1 : Hid (cn = r1) := by rw [H1.out, leads1, if_neg h4', if_pos ⟨ho, hs⟩]; rfl
        have E2 : Hid (cn + 1 = r2) := by rw [H2.out, leads2, if_neg h4', if_pos ⟨ho, hs⟩]; rfl
        have HO := mkHid ho
        have HS := mkHid hs'
        clear ho hs hs' h4'
        clear H1 H2
        go_enter Try.func71, Try.ntmps71
        go_wp2_with (first
          | (go_at_call 81; refine (stands_any _ _ _ _ _ (by omega) (by omega)).mono ?_; rintro e w1 ⟨rfl, rfl⟩; rw [HS.out])
          | (go_at_call 114; refine (onward_any ⟨ck, cs, cn⟩ _ _ hfit).mono ?_; rintro e w1 ⟨rfl, hb1⟩; have d2 := keep e2 hb1; rw [HO.out]))
        go_quiet (fail)
        go_wp2
        go_ret2
        exact ⟨ret_ints E1.out E2.out, below_drewN (hb0.then hb1) _⟩
      | false =>
        have hs' : (decide (0 ≤ cn) && decide (cn < (l.length : Int))) = false := hs
        have hn : ¬ (onwardB ⟨ck, cs, cn⟩ k = true ∧ standsB l cn = true) := fun h => by rw [hs] at h; cases h.2
        have E1 : Hid ((k : Int) = r1) := by rw [H1.out, leads1, if_neg h4', if_neg hn]; rfl
        have E2 : Hid ((k : Int) = r2) := by rw [H2.out, leads2, if_neg h4', if_neg hn]; rfl
        have HO := mkHid ho
        have HS := mkHid hs'
        clear ho hs hs' h4' hn
        clear H1 H2
        go_enter Try.func71, Try.ntmps71
        go_wp2_with (first
          | (go_at_call 81; refine (stands_any _ _ _ _ _ (by omega) (by omega)).mono ?_; rintro e w1 ⟨rfl, rfl⟩; rw [HS.out])
          | (go_at_call 114; refine (onward_any ⟨ck, cs, cn⟩ _ _ hfit).mono ?_; rintro e w1 ⟨rfl, hb1⟩; have d2 := keep e2 hb1; rw [HO.out]))
        go_ret2
        exact ⟨ret_ints E1.out E2.out, hb0.then hb1⟩
    | false =>
      have hn : ¬ (onwardB ⟨ck, cs, cn⟩ k = true ∧ standsB l cn = true) := fun h => by rw [ho] at h; cases h.1
      have E1 : Hid ((k : Int) = r1) := by rw [H1.out, leads1, if_neg h4', if_neg hn]; rfl
      have E2 : Hid ((k : Int) = r2) := by rw [H2.out, leads2, if_neg h4', if_neg hn]; rfl
      have HO := mkHid ho
      clear ho h4' hn
      clear H1 H2
      go_enter Try.func71, Try.ntmps71
      go_wp2_with (go_at_call 114; refine (onward_any ⟨ck, cs, cn⟩ _ _ hfit).mono ?_; rintro e w1 ⟨rfl, hb1⟩; have d2 := keep e2 hb1; rw [HO.out])
      go_ret2
      exact ⟨ret_ints E1.out E2.out, hb0.then hb1⟩
end Go.Proofs.Ytefnmjoapmnkbaa
set_option linter.unusedVariables false
namespace Go.Proofs.Ytefnmjoapmnkbaa
open Go.RowKit

/-! ### heaps: new ones, their places -/
def roomI (r : Int) : Int := if 1 ≤ r ∧ r ≤ 4096 then r else 0
abbrev hv (a : Option Addr) (n cap : Nat) (a' : Option Addr) (n' cap' : Nat) (r : Int) : Value := .agg #[.slice a n cap, .slice a' n' cap', .int .i64 r]

set_option maxHeartbeats 400000 in
theorem new_any (r : Int) (w : World) :
    Calls Try.prog 16 #[.int .i64 r] w fun e w' => e = .returned (hv none 0 0 none 0 0 (roomI r)) ∧ Below w.heap.size w w' := by
  have hb0 := (Below.refl w.heap.size w).new (.cells #[.slice none 0 0, .slice none 0 0, .int .i64 (roomI r)] 25)
  by_cases h : 1 ≤ r ∧ r ≤ 4096
  · have hB : (decide (1 ≤ r) && decide (r ≤ 4096)) = true := by rw [← Bool.decide_and]; exact decide_eq_true h
    have HR : Hid (roomI r = r) := if_pos h
    clear h
    go_enter Try.func16, Try.ntmps16
    go_wp2_with (go_at_call 50; refine (mayHave_any _ _).mono ?_; rintro e w1 ⟨rfl, rfl⟩; rw [hB])
    refine bodyPost_ret (v := hv none 0 0 none 0 0 r) (by simp [results, Try.results16, go_sem]) rfl ⟨by rw [HR.out], ?_⟩
    rw [HR.out] at hb0
    exact hb0
  · have hB : (decide (1 ≤ r) && decide (r ≤ 4096)) = false := by rw [← Bool.decide_and]; exact decide_eq_false h
    have HR : Hid (roomI r = 0) := if_neg h
    clear h
    go_enter Try.func16, Try.ntmps16
    go_wp2_with (go_at_call 50; refine (mayHave_any _ _).mono ?_; rintro e w1 ⟨rfl, rfl⟩; rw [hB])
    refine bodyPost_ret (v := hv none 0 0 none 0 0 0) (by simp [results, Try.results16, go_sem]) rfl ⟨by rw [HR.out], ?_⟩
    rw [HR.out] at hb0
    exact hb0
set_option maxHeartbeats 400000 in
theorem refnew_any (r : Int) (w : World) :
    Calls Try.prog 17 #[.int .i64 r] w fun e w' => e = .returned (hv none 0 0 none 0 0 (roomI r)) ∧ Below w.heap.size w w' := by
  have hb0 := (Below.refl w.heap.size w).new (.cells #[.slice none 0 0, .slice none 0 0, .int .i64 (roomI r)] 25)
  have HR : Hid (roomI r = if 1 ≤ r ∧ r ≤ 4096 then r else 0) := rfl
  go_enter Try.func17, Try.ntmps17
  go_wp2
  all_goals
    first
      | (refine bodyPost_ret (v := hv none 0 0 none 0 0 r) (by simp [results, Try.results17, go_sem]; done) rfl ⟨?_, ?_⟩
         · rw [HR.out, if_pos (by omega)]
         · rw [HR.out, if_pos (by omega)] at hb0; exact hb0)
      | (refine bodyPost_ret (v := hv none 0 0 none 0 0 0) (by simp [results, Try.results17, go_sem]; done) rfl ⟨?_, ?_⟩
         · rw [HR.out, if_neg (by omega)]
         · rw [HR.out, if_neg (by omega)] at hb0; exact hb0)
theorem refis_any (a : Option Addr) (cap : Nat) (a' : Option Addr) (n' cap' : Nat) (r i : Int) (w : World) (n : Nat) :
    Calls Try.prog 33 #[hv a n cap a' n' cap' r, .int .i64 i] w fun e w' => e = .returned (.bool (decide (0 ≤ i) && decide (i < (n : Int)))) ∧ Below w.heap.size w w' := by
  have hb0 := (Below.refl w.heap.size w).new (.cells #[.slice a n cap, .slice a' n' cap', .int .i64 r] 25)
  go_enter Try.func33, Try.ntmps33
  go_wp2
  all_goals
    go_ret
    refine ⟨ret_bool ?_, hb0⟩
    simp_all
    try omega
end Go.Proofs.Ytefnmjoapmnkbaa
set_option linter.unusedVariables false
namespace Go.Proofs.Ytefnmjoapmnkbaa
open Go.RowKit

/-! ### the same numbers, the same heaps -/
set_option maxHeartbeats 400000 in
theorem refints_any (a : Option Addr) (cap : Nat) (a' : Option Addr) (cap' : Nat) (w : World) (xs ys : List Int) (hx : Row w a cap xs) (hy : Row w a' cap' ys) :
    Calls Try.prog 28 #[.slice a xs.length cap, .slice a' ys.length cap'] w fun e w' => e = .returned (.bool (decide (xs = ys))) ∧ Below w.heap.size w w' := by
  have hm := hx.max
  have hm2 := hx.le
  have hm3 := hy.max
  have hm4 := hy.le
  by_cases hlen : xs.length = ys.length
  · have hlt3 : xs.length ≤ ys.length := by omega
    have hne : ((xs.length : Int) != (ys.length : Int)) = false := by simp [hlen]
    have HLL := mkHid hlen
    clear hlen
    go_enter Try.func28, Try.ntmps28
    go_wp2
    go_loopw [5] (fun i wr => ∃ k : Nat, k ≤ xs.length ∧ i = .int .i64 k ∧ Below w.heap.size w wr ∧ Hid (xs.take k = ys.take k) ) (fun i wr => xs.length - (intOf i).toNat)
    case atStart => exact ⟨0, Nat.zero_le _, rfl, Below.refl _ _, rfl⟩
    case round =>
      obtain ⟨k, hk, rfl, hbl, HS⟩ := hrel
      by_cases hlt : k < xs.length
      · have hlt' : k < ys.length := by omega
        obtain ⟨b, off, rfl, hb, hat⟩ := hx.cases.resolve_left (fun e => by simp [e] at hlt)
        obtain ⟨b', off', rfl, hb', hat'⟩ := hy.cases.resolve_left (fun e => by simp [e] at hlt')
        obtain ⟨c0, _, _⟩ := int_at hat hbl hlt
        obtain ⟨d0, _, _⟩ := int_at hat' hbl hlt'
        by_cases he : xs[k] = ys[k]
        · have HT : Hid (xs.take (k + 1) = ys.take (k + 1)) := take_eq_snoc HS.out hlt hlt' he
          have ht : (xs[k] != ys[k]) = false := by simp [he]
          clear he HS
          go_wp2
          go_quiet (fail)
          go_wp2
          go_round
          case rel => exact ⟨k + 1, by omega, by go_num, ⟨hbl.os, hbl.tape, hbl.output, hbl.size, hbl.block⟩, HT⟩
          case measure => simp [intOf]; omega
        · have HE : Hid (false = decide (xs = ys)) := by
            rw [Hid, decide_eq_false]; intro e; subst e; exact he rfl
          have ht : (xs[k] != ys[k]) = true := by simp [he]
          clear he HS
          go_wp2
          go_quiet (fail)
          go_wp2
          go_ret
          exact ⟨ret_bool HE.out, ⟨hbl.os, hbl.tape, hbl.output, hbl.size, hbl.block⟩⟩
      · have HE : Hid (true = decide (xs = ys)) := by
          rw [Hid, decide_eq_true (take_all HS.out (by omega) (by have := HLL.out; omega))]
        clear HS
        go_wp2
        go_ret
        exact ⟨ret_bool HE.out, hbl⟩
  · have HE : Hid (false = decide (xs = ys)) := by
      rw [Hid, decide_eq_false]; intro e; rw [e] at hlen; exact hlen rfl
    have hne : ((xs.length : Int) != (ys.length : Int)) = true := by simp; omega
    clear hlen
    go_enter Try.func28, Try.ntmps28
    go_wp2
    go_ret
    exact ⟨ret_bool HE.out, Below.refl _ _⟩

set_option maxHeartbeats 400000 in
theorem run_neq_slot (x y : Cel) (w : World) : (binOp .neq 80 (.agg #[.int .i64 x.k, .string x.s, .int .i64 x.n]) (.agg #[.int .i64 y.k, .string y.s, .int .i64 y.n])).run Try.prog w = .ok (.bool (!decide (x = y))) w := by
  by_cases h1 : x.k = y.k
  · by_cases h2 : x.s = y.s
    · by_cases h3 : x.n = y.n
      · go_simp
        exact (Cel.eq_iff x y).2 ⟨h1, h2, h3⟩
      · have h4 : ¬ x = y := fun e => h3 (by rw [e])
        have h5 : (x.n == y.n) = false := by simp [h3]
        go_simp
    · have h4 : ¬ x = y := fun e => h2 (by rw [e])
      have h5 : (x.s.toList == y.s.toList) = false := by simp [toList_inj, h2]
      go_simp
  · have h4 : ¬ x = y := fun e => h1 (by rw [e])
    have h5 : (x.k == y.k) = false := by simp [h1]
    go_simp

set_option maxHeartbeats 1600000 in
theorem refsameh_any (a : Option Addr) (cap : Nat) (b : Option Addr) (cab : Nat) (r : Int) (a' : Option Addr) (cap' : Nat) (b' : Option Addr) (cab' : Nat) (r' : Int) (w : World) (xs ys : List Cel) (ts us : List Int)
    (hx : Row w a cap xs) (hy : Row w a' cap' ys) (ht : Row w b cab ts) (hu : Row w b' cab' us) :
    Calls Try.prog 15 #[hv a xs.length cap b ts.length cab r, hv a' ys.length cap' b' us.length cab' r'] w fun e w' => e = .returned (.bool (decide (xs = ys ∧ ts = us ∧ r = r'))) ∧ Below w.heap.size w w' := by
  have m1 := hx.max
  have m2 := hx.le
  have m3 := hy.max
  have m4 := hy.le
  have m5 := ht.max
  have m6 := ht.le
  have m7 := hu.max
  have m8 := hu.le
  have hb0 := ((Below.refl w.heap.size w).new (.cells #[.slice a xs.length cap, .slice b ts.length cab, .int .i64 r] 25)).new (.cells #[.slice a' ys.length cap', .slice b' us.length cab', .int .i64 r'] 25)
  have e0 : ((w.alloc (.cells #[.slice a xs.length cap, .slice b ts.length cab, .int .i64 r] 25)).alloc (.cells #[.slice a' ys.length cap', .slice b' us.length cab', .int .i64 r'] 25)).cell? ⟨w.heap.size, 0, none⟩ = some (.slice a xs.length cap) := keep (World.cell?_alloc_at _ _ w.heap.size 0 rfl) ((Below.refl _ _).new _)
  have e1 : ((w.alloc (.cells #[.slice a xs.length cap, .slice b ts.length cab, .int .i64 r] 25)).alloc (.cells #[.slice a' ys.length cap', .slice b' us.length cab', .int .i64 r'] 25)).cell? ⟨w.heap.size, 1, none⟩ = some (.slice b ts.length cab) := keep (World.cell?_alloc_at _ _ w.heap.size 1 rfl) ((Below.refl _ _).new _)
  have f0 : ((w.alloc (.cells #[.slice a xs.length cap, .slice b ts.length cab, .int .i64 r] 25)).alloc (.cells #[.slice a' ys.length cap', .slice b' us.length cab', .int .i64 r'] 25)).cell? ⟨w.heap.size + 1, 0, none⟩ = some (.slice a' ys.length cap') := World.cell?_alloc_at _ _ _ 0 (by simp)
  have f1 : ((w.alloc (.cells #[.slice a xs.length cap, .slice b ts.length cab, .int .i64 r] 25)).alloc (.cells #[.slice a' ys.length cap', .slice b' us.length cab', .int .i64 r'] 25)).cell? ⟨w.heap.size + 1, 1, none⟩ = some (.slice b' us.length cab') := World.cell?_alloc_at _ _ _ 1 (by simp)
  by_cases hn : xs.length = ys.length ∧ ts.length = us.length ∧ r = r'
  · obtain ⟨l1, l2, l3⟩ := hn
    have HL1 := mkHid l1
    have HL2 := mkHid l2
    have HL3 := mkHid l3
    have q1 : ((xs.length : Int) != (ys.length : Int)) = false := by simp [l1]
    have q2 : ((ts.length : Int) != (us.length : Int)) = false := by simp [l2]
    have q3 : (r != r') = false := by simp [l3]
    clear l1 l2 l3
    have HA : Hid (decide (xs = ys ∧ ts = us ∧ r = r') = decide (xs = ys ∧ ts = us)) := by rw [Hid, decide_eq_decide]; exact ⟨fun h => ⟨h.1, h.2.1⟩, fun h => ⟨h.1, h.2, HL3.out⟩⟩
    rw [HA.out]
    clear HA HL3
    go_enter Try.func15, Try.ntmps15
    go_wp2
    obtain ⟨W, hW⟩ : ∃ W, (w.alloc (.cells #[.slice a xs.length cap, .slice b ts.length cab, .int .i64 r] 25)).alloc (.cells #[.slice a' ys.length cap', .slice b' us.length cab', .int .i64 r'] 25) = W := ⟨_, rfl⟩
    rw [hW] at e0 e1 f0 f1 hb0 ⊢
    clear hW
    replace hx := hx.below hb0
    replace hy := hy.below hb0
    replace ht := ht.below hb0
    replace hu := hu.below hb0
    go_loopw [5] (fun i wr => ∃ k : Nat, k ≤ xs.length ∧ i = .int .i64 k ∧ Below W.heap.size W wr ∧ Hid (xs.take k = ys.take k)) (fun i wr => xs.length - (intOf i).toNat)
    case atStart => exact ⟨0, Nat.zero_le _, rfl, Below.refl _ _, rfl⟩
    case round =>
      obtain ⟨k, hk, rfl, hbl, HS⟩ := hrel
      have x0 := keep e0 hbl
      have x1 := keep f0 hbl
      by_cases hlt : k < xs.length
      · have hlt' : k < ys.length := by have := HL1.out; omega
        obtain ⟨b3, off, rfl, hb3, hat⟩ := hx.cases.resolve_left (fun e => by simp [e] at hlt)
        obtain ⟨b4, off', rfl, hb4, hat'⟩ := hy.cases.resolve_left (fun e => by simp [e] at hlt')
        obtain ⟨c0, c1, c2, hf⟩ := cel_at hat hbl hlt
        obtain ⟨d0, d1, d2, hf2⟩ := cel_at hat' hbl hlt'
        by_cases he : xs[k] = ys[k]
        · have HT : Hid (xs.take (k + 1) = ys.take (k + 1)) := take_eq_snoc HS.out hlt hlt' he
          have hd : decide (xs[k] = ys[k]) = true := decide_eq_true he
          have hne := fun w => run_neq_slot xs[k] ys[k] w
          rw [hd] at hne
          clear he HS hd
          go_wp2
          go_quiet (fail)
          go_wp2
          go_round
          case rel => exact ⟨k + 1, by omega, by go_num, ⟨hbl.os, hbl.tape, hbl.output, hbl.size, hbl.block⟩, HT⟩
          case measure => simp [intOf]; omega
        · have HE : Hid (false = decide (xs = ys ∧ ts = us)) := by
            rw [Hid, decide_eq_false]; rintro ⟨e, _⟩; subst e; exact he rfl
          have hd : decide (xs[k] = ys[k]) = false := decide_eq_false he
          have hne := fun w => run_neq_slot xs[k] ys[k] w
          rw [hd] at hne
          clear he HS hd
          go_wp2
          go_quiet (fail)
          go_wp2
          go_ret
          exact ⟨ret_bool HE.out, below_drewN (hb0.then hbl) _⟩
      · have HXY : Hid (xs = ys) := take_all HS.out (by omega) (by have := HL1.out; omega)
        clear HS
        go_wp2
        go_loopw [6] (fun i wr => ∃ k : Nat, k ≤ ts.length ∧ i = .int .i64 k ∧ Below W.heap.size W wr ∧ Hid (ts.take k = us.take k)) (fun i wr => ts.length - (intOf i).toNat)
        case atStart => exact ⟨0, Nat.zero_le _, rfl, hbl, rfl⟩
        case round =>
          obtain ⟨k2, hk2, rfl, hbl2, HS⟩ := hrel
          have x0 := keep e1 hbl2
          have x1 := keep f1 hbl2
          by_cases hlt : k2 < ts.length
          · have hlt' : k2 < us.length := by have := HL2.out; omega
            obtain ⟨b3, off, rfl, hb3, hat⟩ := ht.cases.resolve_left (fun e => by simp [e] at hlt)
            obtain ⟨b4, off', rfl, hb4, hat'⟩ := hu.cases.resolve_left (fun e => by simp [e] at hlt')
            obtain ⟨c0, _, _⟩ := int_at hat hbl2 hlt
            obtain ⟨d0, _, _⟩ := int_at hat' hbl2 hlt'
            by_cases he : ts[k2] = us[k2]
            · have HT : Hid (ts.take (k2 + 1) = us.take (k2 + 1)) := take_eq_snoc HS.out hlt hlt' he
              have hte : (ts[k2] != us[k2]) = false := by simp [he]
              clear he HS
              go_wp2
              go_quiet (fail)
              go_wp2
              go_round
              case rel => exact ⟨k2 + 1, by omega, by go_num, ⟨hbl2.os, hbl2.tape, hbl2.output, hbl2.size, hbl2.block⟩, HT⟩
              case measure => simp [intOf]; omega
            · have HE : Hid (false = decide (xs = ys ∧ ts = us)) := by
                rw [Hid, decide_eq_false]; rintro ⟨_, e⟩; subst e; exact he rfl
              have hte : (ts[k2] != us[k2]) = true := by simp [he]
              clear he HS
              go_wp2
              go_quiet (fail)
              go_wp2
              go_ret
              exact ⟨ret_bool HE.out, below_drewN (hb0.then hbl2) _⟩
          · have HE : Hid (true = decide (xs = ys ∧ ts = us)) := by
              rw [Hid, decide_eq_true ⟨HXY.out, take_all HS.out (by omega) (by have := HL2.out; omega)⟩]
            clear HS
            go_wp2
            go_ret
            exact ⟨ret_bool HE.out, hb0.then hbl2⟩
  · have HE : Hid (false = decide (xs = ys ∧ ts = us ∧ r = r')) := by
      rw [Hid, decide_eq_false]; rintro ⟨rfl, rfl, rfl⟩; exact hn ⟨rfl, rfl, rfl⟩
    have HN := mkHid hn
    clear hn
    go_enter Try.func15, Try.ntmps15
    cases q1 : ((xs.length : Int) != (ys.length : Int)) with
    | true =>
      go_wp2
      go_ret
      exact ⟨ret_bool HE.out, hb0⟩
    | false =>
      cases q2 : ((ts.length : Int) != (us.length : Int)) with
      | true =>
        go_wp2
        go_ret
        exact ⟨ret_bool HE.out, hb0⟩
      | false =>
        have q3 : (r != r') = true := by
          simp at q1 q2
          simp only [bne_iff_ne]
          exact fun e => HN.out ⟨by omega, by omega, e⟩
        go_wp2
        go_ret
        exact ⟨ret_bool HE.out, hb0⟩
end Go.Proofs.Ytefnmjoapmnkbaa
set_option linter.unusedVariables false
namespace Go.Proofs.Ytefnmjoapmnkbaa
open Go.RowKit

/-! ### the document's own: bound places, following -/
set_option maxHeartbeats 800000 in
theorem refbound_at (a : Option Addr) (cap : Nat) (a' : Option Addr) (n' cap' : Nat) (r : Int) (w : World) (l : List Cel) (k : Nat) (hr : Row w a cap l) (hk : k < l.length) :
    Calls Try.prog 55 #[hv a l.length cap a' n' cap' r, .int .i64 k] w fun e w' => e = .returned (.bool (l[k].k == 1 && l[k].n != k)) ∧ Below w.heap.size w w' := by
  have hm := hr.max
  have hm2 := hr.le
  obtain ⟨b, off, rfl, hb, hat⟩ := hr.cases.resolve_left (fun e => by simp [e] at hk)
  obtain ⟨c0, c1, c2, hf⟩ := cel_at hat (Below.refl _ _) hk
  have hb0 := (Below.refl w.heap.size w).new (.cells #[.slice (some ⟨b, off, none⟩) l.length cap, .slice a' n' cap', .int .i64 r] 25)
  have e0 : (w.alloc (.cells #[.slice (some ⟨b, off, none⟩) l.length cap, .slice a' n' cap', .int .i64 r] 25)).cell? ⟨w.heap.size, 0, none⟩ = some (.slice (some ⟨b, off, none⟩) l.length cap) := World.cell?_alloc_at _ _ _ 0 rfl
  have x0 := keep c0 hb0
  have x2 := keep c2 hb0
  have hs : (decide (0 ≤ (k : Int)) && decide ((k : Int) < (l.length : Int))) = true := by simp; omega
  generalize l[k] = c at *
  obtain ⟨ck, cs, cn⟩ := c
  dsimp only at *
  go_enter Try.func55, Try.ntmps55
  go_wp2_with (go_at_call 33; refine (refis_any _ _ _ _ _ _ _ _ _).mono ?_; rintro e w1 ⟨rfl, hb1⟩; have y0 := keep x0 hb1; have y2 := keep x2 hb1; have f0 := keep e0 hb1; rw [hs])
  all_goals
    go_ret
    refine ⟨ret_bool ?_, hb0.then hb1⟩
    simp_all
theorem refbound_off (a : Option Addr) (cap : Nat) (a' : Option Addr) (n' cap' : Nat) (r i : Int) (w : World) (n : Nat) (hi : ¬ (0 ≤ i ∧ i < (n : Int))) :
    Calls Try.prog 55 #[hv a n cap a' n' cap' r, .int .i64 i] w fun e w' => e = .returned (.bool false) ∧ Below w.heap.size w w' := by
  have hb0 := (Below.refl w.heap.size w).new (.cells #[.slice a n cap, .slice a' n' cap', .int .i64 r] 25)
  have hs : (decide (0 ≤ i) && decide (i < (n : Int))) = false := by rw [← Bool.decide_and]; exact decide_eq_false hi
  go_enter Try.func55, Try.ntmps55
  go_wp2_with (go_at_call 33; refine (refis_any _ _ _ _ _ _ _ _ _).mono ?_; rintro e w1 ⟨rfl, hb1⟩; rw [hs])
  go_ret
  exact ⟨rfl, hb0.then hb1⟩

/-- one step of following: a place within, bound or led on by a Ptr -/
theorem follow_some {l : List Cel} {f : Nat} {i j : Int} (h : followL l f i = some j) : ∃ g k, f = g + 1 ∧ i = ((k : Nat) : Int) ∧ ∃ hk : k < l.length, (onwardB l[k] k = true ∧ followL l g l[k].n = some j) ∨ (onwardB l[k] k = false ∧ j = k) := by
  cases f with
  | zero => cases h
  | succ g =>
    by_cases hi : 0 ≤ i ∧ i < (l.length : Int)
    · obtain ⟨k, rfl⟩ : ∃ k : Nat, i = k := ⟨i.toNat, by omega⟩
      have hk : k < l.length := by omega
      refine ⟨g, k, rfl, rfl, hk, ?_⟩
      cases ho : onwardB l[k] k with
      | true => exact .inl ⟨rfl, by rw [follow_on hk ho] at h; exact h⟩
      | false => exact .inr ⟨rfl, by rw [follow_at hk ho] at h; simpa using h.symm⟩
    · rw [follow_off hi] at h; cases h

set_option maxHeartbeats 800000 in
theorem reffollow_any (a : Option Addr) (cap : Nat) (a' : Option Addr) (n' cap' : Nat) (r : Int) (w : World) (l : List Cel) (f : Nat) (i j : Int) (hr : Row w a cap l) (hfo : followL l f i = some j) :
    Calls Try.prog 74 #[hv a l.length cap a' n' cap' r, .int .i64 i] w fun e w' => e = .returned (.int .i64 j) ∧ Below w.heap.size w w' := by
  have hm := hr.max
  have hm2 := hr.le
  have hb0 := (Below.refl w.heap.size w).new (.cells #[.slice a l.length cap, .slice a' n' cap', .int .i64 r] 25)
  have e0 : (w.alloc (.cells #[.slice a l.length cap, .slice a' n' cap', .int .i64 r] 25)).cell? ⟨w.heap.size, 0, none⟩ = some (.slice a l.length cap) := World.cell?_alloc_at _ _ _ 0 rfl
  have e1 : (w.alloc (.cells #[.slice a l.length cap, .slice a' n' cap', .int .i64 r] 25)).cell? ⟨w.heap.size, 1, none⟩ = some (.slice a' n' cap') := World.cell?_alloc_at _ _ _ 1 rfl
  have e2 : (w.alloc (.cells #[.slice a l.length cap, .slice a' n' cap', .int .i64 r] 25)).cell? ⟨w.heap.size, 2, none⟩ = some (.int .i64 r) := World.cell?_alloc_at _ _ _ 2 rfl
  have HF := mkHid hfo
  clear hfo
  go_enter Try.func74, Try.ntmps74
  go_wp2
  obtain ⟨W, hW⟩ : ∃ W, w.alloc (.cells #[.slice a l.length cap, .slice a' n' cap', .int .i64 r] 25) = W := ⟨_, rfl⟩
  rw [hW] at e0 e1 e2 hb0 ⊢
  clear hW
  replace hr := hr.below hb0
  go_loopg [1] f (fun kk p wr => ∃ i : Int, p = .int .i64 i ∧ Hid (followL l kk i = some j) ∧ Below W.heap.size W wr)
  case atStart => exact ⟨i, rfl, HF, Below.refl _ _⟩
  case round =>
  clear HF
  obtain ⟨i2, rfl, HS, hbl⟩ := hrel
  obtain ⟨g, k, hg, rfl, hk, hcase⟩ := follow_some HS.out
  obtain ⟨b, off, rfl, hb, hat⟩ := hr.cases.resolve_left (fun e => by simp [e] at hk)
  obtain ⟨c0, c1, c2, hf⟩ := cel_at hat hbl hk
  have x0 := keep e0 hbl
  have x1 := keep e1 hbl
  have x2 := keep e2 hbl
  rcases hcase with ⟨ho, hn⟩ | ⟨ho, rfl⟩
  · have HN := mkHid hn
    have hg2 : g < gk := by omega
    cases h1 : (l[k].k == 1 && l[k].n != k) with
    | true =>
      have HB := mkHid h1
      clear h1 ho hn HS hg
      go_wp2_with (go_at_call 55; refine (refbound_at _ _ _ _ _ _ _ l k (hr.below hbl) hk).mono ?_; rintro e w1 ⟨rfl, hb1⟩; have y0 := keep c0 hb1; have y2 := keep c2 hb1; have z0 := keep x0 hb1; have z1 := keep x1 hb1; have z2 := keep x2 hb1; rw [HB.out])
      go_roundg g
      case measure => exact hg2
      case rel => exact ⟨_, rfl, HN, hbl.then hb1⟩
    | false =>
      have h3 : (l[k].k == 3) = true := by
        rw [onwardB, h1, Bool.or_false] at ho; exact ho
      have HB := mkHid h1
      clear h1 ho hn HS hg
      go_wp2_with (go_at_call 55; refine (refbound_at _ _ _ _ _ _ _ l k (hr.below hbl) hk).mono ?_; rintro e w1 ⟨rfl, hb1⟩; have y0 := keep c0 hb1; have y2 := keep c2 hb1; have z0 := keep x0 hb1; have z1 := keep x1 hb1; have z2 := keep x2 hb1; rw [HB.out])
      go_roundg g
      case measure => exact hg2
      case rel => exact ⟨_, rfl, HN, hbl.then hb1⟩
  · have h3 : (l[k].k == 3) = false := by
      cases h : (l[k].k == 3) with
      | true => rw [onwardB, h, Bool.true_or] at ho; cases ho
      | false => rfl
    have h1 : (l[k].k == 1 && l[k].n != k) = false := by rw [onwardB, h3, Bool.false_or] at ho; exact ho
    have HB := mkHid h1
    clear h1 ho HS hg
    go_wp2_with (go_at_call 55; refine (refbound_at _ _ _ _ _ _ _ l k (hr.below hbl) hk).mono ?_; rintro e w1 ⟨rfl, hb1⟩; have y0 := keep c0 hb1; have y2 := keep c2 hb1; have z0 := keep x0 hb1; have z1 := keep x1 hb1; have z2 := keep x2 hb1; rw [HB.out])
    go_ret
    exact ⟨rfl, hb0.then (hbl.then hb1)⟩
end Go.Proofs.Ytefnmjoapmnkbaa
namespace Go.Proofs.Ytefnmjoapmnkbaa
open Go.RowKit

theorem own_belowA {w w' : World} {B e size : Nat} {v : Value} {n : Nat} {xs : List Value} (h : w.ownsRow B e size v n xs) (hb : Below w.heap.size w w') : w'.ownsRow B e size v n xs :=
  h.kept (row := none) ⟨hb.os, hb.tape, hb.output, hb.size, fun k hk _ => hb.block k hk⟩ (by cases hv : v.ownBlock <;> simp)

/-- a row of the call's own that is appended to -/
structure AccInv {α : Type} [RepC α] (B e : Nat) (acc : List α) (v : Value) (w : World) : Prop where
  ex : ∃ vs, w.ownsRow B e (Rep.sz α) v acc.length vs ∧ CRows (hide v.ownBlock w) vs acc
section
variable {α : Type} [RepC α] {B e : Nat} {acc : List α} {v : Value} {w w' : World}
theorem AccInv.nil (B e : Nat) (w : World) : AccInv B e ([] : List α) (.slice none 0 0) w := ⟨[], World.ownsRow_nil _ _ _ _, .nil⟩
theorem AccInv.made {T : Nat} (w : World) (hB : B ≤ w.heap.size) (he : e = T) : AccInv B e ([] : List α) (.slice (some ⟨w.heap.size, 0, none⟩) 0 0) (w.alloc (.cells #[] T)) :=
  ⟨[], by subst he; simpa using World.ownsRow_made (base := B) (e := e) (size := Rep.sz α) w #[] 0 hB (by unfold maxLen; omega) (by simp), .nil⟩
theorem AccInv.below (h : AccInv B e acc v w) (hb : Below w.heap.size w w') : AccInv B e acc v w' :=
  let ⟨vs, ho, hc⟩ := h.ex
  ⟨vs, own_belowA ho hb, hc.keeps (below_hide hb _)⟩
theorem AccInv.lt (h : AccInv B e acc v w) : ∀ g, v.ownBlock = some g → B ≤ g ∧ g < w.heap.size := let ⟨_, ho, _⟩ := h.ex; fun g hg => ho.lt g hg
theorem AccInv.row (h : AccInv B e acc v w) : ∃ a cap, v = .slice a acc.length cap ∧ Row w a cap acc :=
  let ⟨_, ho, hc⟩ := h.ex; own_rowG ho (hc.keeps (hide_keeps _ _))
theorem AccInv.lit {acc' : List α} (h : AccInv B e acc v w) (e1 : acc = acc') : AccInv B e acc' v w := e1 ▸ h
/-- what was there when the call began is read beside the row -/
theorem AccInv.fresh {w0 : World} (h : AccInv w0.heap.size e acc v w) (hb : Below w0.heap.size w0 w) : Keeps w0 (hide v.ownBlock w) := by
  obtain ⟨_, ho, _⟩ := h.ex
  cases hv : v.ownBlock with
  | none => exact Keeps.of hb
  | some g => exact fresh_keeps (Keeps.of hb) (ho.lt g hv).1
/-- a slice that is newer than the row is read beside it -/
theorem AccInv.newer {β : Type} [Rep β] {B2 : Nat} {w2 : World} {a : Option Addr} {cap : Nat} {ys : List β} (h : AccInv B e acc v w) (hB : w.heap.size ≤ B2) (hr : NewRow B2 w2 a cap ys) : Row (hide v.ownBlock w2) a cap ys :=
  hr.hide fun g hg => Nat.lt_of_lt_of_le (h.lt g hg).2 hB
end

/-- append of one element, laid just ahead of it -/
theorem wpList_acc {α : Type} [RepC α] {P : Program} {w : World} {ops : Array Oper} {rest : List Oper} {o : Oper} {a : Act} {Q : Exit → Act → World → Prop} (hgd : o.guard = none) (s x : Operand) (t : TypeId)
    (ho : o.op = .call { callee := .builtin .append, args := #[s, x], argTypes := #[t, t] })
    (B e bytes : Nat) (z : Value) (ht : P.underlying t = some (.slice e)) (hinfo : (P.info? e).map (fun i => (i.zero, i.size, i.bytes)) = some (some z, Rep.sz α, bytes))
    (hzs : z.cells.size = Rep.sz α) (hby : bytes ≤ 1000)
    (v : Value) (acc : List α) (hacc : AccInv B e acc v w) (hs : a.eval s = v) (T : Nat) (cs : Array Value) (y : α) (hcs : RepC.C (hide v.ownBlock w) cs.toList y)
    (hx : a.eval x = .slice (some ⟨w.heap.size, 0, none⟩) 1 1)
    (hmax : acc.length + 1 ≤ 1000000000) (hB : B ≤ w.heap.size)
    (h : ∀ v' w', AccInv B e (acc ++ [y]) v' w' → Below B w w' → wpList P ops Q rest (a.put o.dst v') w') : wpList P ops Q (o :: rest) a (w.alloc (.cells cs T)) := by
  obtain ⟨vs, hown, hc⟩ := hacc.ex
  refine wpList_app2 hgd s x t ho B e (Rep.sz α) bytes z ht hinfo hzs RepC.pos hby v acc.length vs hs (hown.alloc _) ⟨w.heap.size, 0, none⟩ 1 1 cs.toList hx (src_new w cs T (Rep.sz α) (by have := RepC.len hcs; simpa using this) (fun u hu => RepC.one hcs u hu)) hmax (Nat.le_trans hB (by simp)) ?_
  intro v' w' h1 _ h3 h4
  refine h v' w' ⟨vs ++ cs.toList, by rw [List.length_append]; exact h1, ?_⟩ (((Below.refl B w).alloc hB _).trans h3)
  exact ((hc.keeps (alloc_hide w _ _)).keeps h4).snoc (RepC.cmono (RepC.cmono hcs (alloc_hide w _ _)) h4)
theorem Row.srcK {α : Type} [RepC α] {w w' : World} {a : Option Addr} {cap : Nat} {xs : List α} (h : Row w a cap xs) (hk : Keeps w w') : ∃ vs, CRows w vs xs ∧ Src w' (Rep.sz α) a xs.length cap vs := by
  rcases h.cases with rfl | ⟨b, off, rfl, _, hat⟩
  · refine ⟨[], .nil, ⟨by simp, fun e => ⟨rfl, h.nil e⟩, fun ad _ j u hj => by simp at hj, fun u hu => by simp at hu⟩⟩
  · obtain ⟨vs, hv, hvat⟩ := crows_of (w := w) (b := b) xs off (fun i x hi => by
      obtain ⟨hl, rfl⟩ := List.getElem?_eq_some_iff.1 hi
      exact hat i hl)
    refine ⟨vs, hv, ⟨hv.len, (fun e => by cases e), ?_, hv.one⟩⟩
    intro ad e j u hj
    simp at e
    subst e
    have ha : (Addr.mk b off none).add j = ⟨b, off + j, none⟩ := by unfold Addr.add; split <;> simp_all
    rw [ha]
    exact hk _ _ _ (hvat j u hj)
/-- append of all of a slice -/
theorem wpList_accs {α : Type} [RepC α] {P : Program} {w : World} {ops : Array Oper} {rest : List Oper} {o : Oper} {a : Act} {Q : Exit → Act → World → Prop} (hgd : o.guard = none) (s x : Operand) (t : TypeId)
    (ho : o.op = .call { callee := .builtin .append, args := #[s, x], argTypes := #[t, t] })
    (B e bytes : Nat) (z : Value) (ht : P.underlying t = some (.slice e)) (hinfo : (P.info? e).map (fun i => (i.zero, i.size, i.bytes)) = some (some z, Rep.sz α, bytes))
    (hzs : z.cells.size = Rep.sz α) (hby : bytes ≤ 1000)
    (v : Value) (acc : List α) (hacc : AccInv B e acc v w) (hs : a.eval s = v) (sa : Option Addr) (cap : Nat) (ys : List α) (hr : Row (hide v.ownBlock w) sa cap ys)
    (hx : a.eval x = .slice sa ys.length cap)
    (hmax : acc.length + ys.length ≤ 1000000000) (hB : B ≤ w.heap.size)
    (h : ∀ v' w', AccInv B e (acc ++ ys) v' w' → Below B w w' → wpList P ops Q rest (a.put o.dst v') w') : wpList P ops Q (o :: rest) a w := by
  obtain ⟨vs, hown, hc⟩ := hacc.ex
  obtain ⟨us, hu, hsrc⟩ := hr.srcK (hide_keeps _ _)
  cases sa with
  | none =>
    have h0 : ys.length = 0 := (hsrc.nil rfl).1
    have hc0 : cap = 0 := (hsrc.nil rfl).2
    obtain rfl : ys = [] := List.eq_nil_of_length_eq_zero h0
    obtain ⟨i, hi, hz0, hz1, hz2⟩ := info_parts hinfo
    subst hc0
    refine wpList_append_own_none hgd s x t ho B e i (Rep.sz α) ht hi v acc.length vs hs hown hx ?_
    exact h v w ⟨vs, by rw [List.append_nil]; exact hown, by rw [List.append_nil]; exact hc⟩ (Below.refl _ _)
  | some ad =>
    refine wpList_app2 hgd s x t ho B e (Rep.sz α) bytes z ht hinfo hzs RepC.pos hby v acc.length vs hs hown ad ys.length cap us hx hsrc hmax hB ?_
    intro v' w' h1 _ h3 h4
    exact h v' w' ⟨vs ++ us, by rw [List.length_append]; exact h1, (hc.keeps h4).append (hu.keeps h4)⟩ h3
end Go.Proofs.Ytefnmjoapmnkbaa
set_option linter.unusedVariables false
namespace Go.Proofs.Ytefnmjoapmnkbaa
open Go.RowKit

/-- an append of one element to a row of the call's own, which tells what keeps -/
theorem wpList_acck {α : Type} [RepC α] {P : Program} {w : World} {ops : Array Oper} {rest : List Oper} {o : Oper} {a : Act} {Q : Exit → Act → World → Prop} (hgd : o.guard = none) (s x : Operand) (t : TypeId)
    (ho : o.op = .call { callee := .builtin .append, args := #[s, x], argTypes := #[t, t] })
    (B e bytes : Nat) (z : Value) (ht : P.underlying t = some (.slice e)) (hinfo : (P.info? e).map (fun i => (i.zero, i.size, i.bytes)) = some (some z, Rep.sz α, bytes))
    (hzs : z.cells.size = Rep.sz α) (hby : bytes ≤ 1000)
    (v : Value) (acc : List α) (hacc : AccInv B e acc v w) (hs : a.eval s = v) (T : Nat) (cs : Array Value) (y : α) (hcs : RepC.C (hide v.ownBlock w) cs.toList y)
    (hx : a.eval x = .slice (some ⟨w.heap.size, 0, none⟩) 1 1)
    (hmax : acc.length + 1 ≤ 1000000000) (hB : B ≤ w.heap.size)
    (h : ∀ v' w', AccInv B e (acc ++ [y]) v' w' → Below B w w' → Keeps (hide v.ownBlock w) (hide v'.ownBlock w') → wpList P ops Q rest (a.put o.dst v') w') : wpList P ops Q (o :: rest) a (w.alloc (.cells cs T)) := by
  obtain ⟨vs, hown, hc⟩ := hacc.ex
  refine wpList_app2 hgd s x t ho B e (Rep.sz α) bytes z ht hinfo hzs RepC.pos hby v acc.length vs hs (hown.alloc _) ⟨w.heap.size, 0, none⟩ 1 1 cs.toList hx (src_new w cs T (Rep.sz α) (by have := RepC.len hcs; simpa using this) (fun u hu => RepC.one hcs u hu)) hmax (Nat.le_trans hB (by simp)) ?_
  intro v' w' h1 _ h3 h4
  refine h v' w' ⟨vs ++ cs.toList, by rw [List.length_append]; exact h1, ?_⟩ (((Below.refl B w).alloc hB _).trans h3) (fun b o u hu => h4 _ _ _ (alloc_hide w _ _ _ _ _ hu))
  exact ((hc.keeps (alloc_hide w _ _)).keeps h4).snoc (RepC.cmono (RepC.cmono hcs (alloc_hide w _ _)) h4)

/-- where a slot leads in one step, as the document has it -/
def leadsL (k : Nat) (c : Cel) : List Int := (if onwardB c k = true then [c.n] else []) ++ (if c.k = 4 then (List.range c.n.toNat).map (fun i : Nat => (k : Int) + 1 + (i : Int)) else [])
def nextI (k m : Nat) : List Int := (List.range m).map (fun i : Nat => (k : Int) + 1 + (i : Int))
theorem nextI_succ (k m : Nat) : nextI k (m + 1) = nextI k m ++ [(k : Int) + 1 + m] := by unfold nextI; rw [List.range_succ, List.map_append]; rfl
theorem nextI_length (k m : Nat) : (nextI k m).length = m := by simp [nextI]

set_option maxHeartbeats 1600000 in
theorem refleads_any (a : Option Addr) (cap : Nat) (a' : Option Addr) (n' cap' : Nat) (r : Int) (w : World) (l : List Cel) (k : Nat) (hr : Row w a cap l) (hk : k < l.length) (hl : l.length ≤ 1000000) (h6 : l[k].n ≤ 1000) :
    Calls Try.prog 107 #[hv a l.length cap a' n' cap' r, .int .i64 k] w fun e w' => ∃ a2 cap2, e = .returned (.slice a2 (leadsL k l[k]).length cap2) ∧ Row w' a2 cap2 (leadsL k l[k]) ∧ Below w.heap.size w w' := by
  have hm := hr.max
  have hm2 := hr.le
  obtain ⟨b, off, rfl, hb, hat⟩ := hr.cases.resolve_left (fun e => by simp [e] at hk)
  obtain ⟨c0, c1, c2, hf⟩ := cel_at hat (Below.refl _ _) hk
  have n1 := hf.n1
  have n2 := hf.n2
  obtain ⟨L, HL⟩ : ∃ L, L = leadsL k l[k] := ⟨_, rfl⟩
  rw [← HL]
  generalize l[k] = c at *
  obtain ⟨ck, cs, cn⟩ := c
  dsimp only at *
  replace HL := mkHid HL
  have hb0 := (Below.refl w.heap.size w).new (.cells #[.slice (some ⟨b, off, none⟩) l.length cap, .slice a' n' cap', .int .i64 r] 25)
  have x0 := keep c0 hb0
  have x1 := keep c1 hb0
  have x2 := keep c2 hb0
  have hm0 : AccInv (w.heap.size + 1) 3 ([] : List Int) (.slice (some ⟨w.heap.size + 1, 0, none⟩) 0 0) ((w.alloc (.cells #[.slice (some ⟨b, off, none⟩) l.length cap, .slice a' n' cap', .int .i64 r] 25)).alloc (.cells #[] 3)) := by
    have := AccInv.made (α := Int) (B := w.heap.size + 1) (e := 3) (T := 3) (w.alloc (.cells #[.slice (some ⟨b, off, none⟩) l.length cap, .slice a' n' cap', .int .i64 r] 25)) (by simp) rfl
    rwa [World.size_alloc] at this
  cases h4 : (ck == 4) with
  | true =>
    have hk3 : (ck == 3) = false := by simp at h4 ⊢; omega
    have hk1 : (ck == 1) = false := by simp at h4 ⊢; omega
    have E1 : Hid (L = nextI k cn.toNat) := by
      have h4' : ck = 4 := by simpa using h4
      rw [Hid, HL.out, leadsL, if_neg (by simp [onwardB, h4']), if_pos h4']; rfl
    clear HL
    go_enter Try.func107, Try.ntmps107
    go_wp2_with fail
    go_loopw [6, 7] (fun v i wr => ∃ m : Nat, (m : Int) ≤ max cn 0 ∧ i = .int .i64 ((m : Int) + 1) ∧ AccInv (w.heap.size + 1) 3 (nextI k m) v wr ∧ Below w.heap.size w wr ∧ (hide v.ownBlock wr).cell? ⟨w.heap.size + 1 + 1, 0, none⟩ = some (.int .i64 ck) ∧ (hide v.ownBlock wr).cell? ⟨w.heap.size + 1 + 1, 2, none⟩ = some (.int .i64 cn) ∧ w.heap.size + 1 ≤ wr.heap.size) (fun v i wr => cn.toNat + 1 - (intOf i).toNat)
    case atStart =>
      refine ⟨0, by simp; omega, rfl, hm0.below ((Below.refl _ _).new _), (hb0.new _).new _, ?_, ?_, by simp⟩
      · exact hide_of_ne (by show ¬ w.heap.size + 1 + 1 = w.heap.size + 1; omega) (World.cell?_alloc_at _ _ _ 0 (by simp))
      · exact hide_of_ne (by show ¬ w.heap.size + 1 + 1 = w.heap.size + 1; omega) (World.cell?_alloc_at _ _ _ 2 (by simp))
    case round =>
      obtain ⟨m, hm3, rfl, hacc, hbl, y0, y2, hz⟩ := hrel
      have z0 := hide_keeps _ _ _ _ _ y0
      have z2 := hide_keeps _ _ _ _ _ y2
      have Y0 := mkHid y0
      have Y2 := mkHid y2
      have HA := mkHid hacc
      clear y0 y2
      obtain ⟨av, cv, rfl, hrow⟩ := hacc.row
      clear hacc
      by_cases hlt : (m : Int) < cn
      · have HN : Hid (nextI k m ++ [(k : Int) + 1 + m] = nextI k (m + 1)) := (nextI_succ k m).symm
        have hul : Hid ((nextI k m).length = m) := nextI_length k m
        go_wp2_with (at_builtin; refine wpList_acck (α := Int) rfl _ _ 23 rfl (w.heap.size + 1) 3 8 _ Try.underlying23 Try.infoInt rfl (by decide) _ (nextI k m) HA.out (by rfl) _ #[.int .i64 ((k : Int) + (m + 1))] ((k : Int) + 1 + m) ⟨by simp; omega, by omega, by omega⟩ (by rfl) (by have := hul.out; omega) hz ?_; intro v' w3 hacc3 hb3 hk3)
        go_round
        case rel => exact ⟨m + 1, by omega, by go_num, HN.out ▸ hacc3, hbl.trans (hb3.mono (Nat.le_succ _)), hk3 _ _ _ Y0.out, hk3 _ _ _ Y2.out, Nat.le_trans hz hb3.size⟩
        case measure => simp [intOf]; omega
      · have HE : Hid (nextI k m = L) := by
          rw [Hid, E1.out]; congr 1; omega
        go_wp2_with fail
        go_ret
        refine ⟨_, _, ?_, by rw [← HE.out]; exact hrow, hbl⟩
        rw [← HE.out]; rfl
  | false =>
    have h4' : ¬ ck = 4 := by simpa using h4
    have e0 : (((w.alloc (.cells #[.slice (some ⟨b, off, none⟩) l.length cap, .slice a' n' cap', .int .i64 r] 25)).alloc (.cells #[] 3)).alloc (.cells #[.int .i64 ck, .string cs, .int .i64 cn] 80)).cell? ⟨w.heap.size + 1 + 1, 0, none⟩ = some (.int .i64 ck) := World.cell?_alloc_at _ _ _ 0 (by simp)
    have hz0 : w.heap.size + 1 ≤ (((w.alloc (.cells #[.slice (some ⟨b, off, none⟩) l.length cap, .slice a' n' cap', .int .i64 r] 25)).alloc (.cells #[] 3)).alloc (.cells #[.int .i64 ck, .string cs, .int .i64 cn] 80)).heap.size := by simp
    have hbz : Below w.heap.size w (((w.alloc (.cells #[.slice (some ⟨b, off, none⟩) l.length cap, .slice a' n' cap', .int .i64 r] 25)).alloc (.cells #[] 3)).alloc (.cells #[.int .i64 ck, .string cs, .int .i64 cn] 80)) := (hb0.new _).new _
    have hmz := hm0.below ((Below.refl _ _).new (.cells #[.int .i64 ck, .string cs, .int .i64 cn] 80))
    cases ho : onwardB ⟨ck, cs, cn⟩ k with
    | false =>
      have E1 : Hid (L = []) := by rw [Hid, HL.out, leadsL, if_neg (by simp [ho]), if_neg h4']; rfl
      have h3 : (ck == 3) = false := by
        cases h : (ck == 3) with
        | true => simp [onwardB, h] at ho
        | false => rfl
      clear HL h4'
      have h1 : (ck == 1 && cn != k) = false := by simpa [onwardB, h3] using ho
      clear ho
      have hrow := hmz.row
      cases h1' : (ck == 1) with
      | false =>
        go_enter Try.func107, Try.ntmps107
        go_wp2_with fail
        go_loopw [6, 7] (fun v i wr => v = .slice (some ⟨w.heap.size + 1, 0, none⟩) 0 0 ∧ i = .int .i64 1 ∧ wr = (((w.alloc (.cells #[.slice (some ⟨b, off, none⟩) l.length cap, .slice a' n' cap', .int .i64 r] 25)).alloc (.cells #[] 3)).alloc (.cells #[.int .i64 ck, .string cs, .int .i64 cn] 80))) (fun v i wr => 0)
        case atStart => exact ⟨rfl, rfl, rfl⟩
        case round =>
          obtain ⟨rfl, rfl, rfl⟩ := hrel
          go_wp2_with fail
          go_ret
          refine ⟨some ⟨w.heap.size + 1, 0, none⟩, 0, ?_, by rw [E1.out]; exact Row.empty _ _ _ (by omega) (fun e => by cases e), hbz⟩
          rw [E1.out]; rfl
      | true =>
        have h2 : (cn != k) = false := by simpa [h1'] using h1
        clear h1
        go_enter Try.func107, Try.ntmps107
        go_wp2_with fail
        go_loopw [6, 7] (fun v i wr => v = .slice (some ⟨w.heap.size + 1, 0, none⟩) 0 0 ∧ i = .int .i64 1 ∧ wr = (((w.alloc (.cells #[.slice (some ⟨b, off, none⟩) l.length cap, .slice a' n' cap', .int .i64 r] 25)).alloc (.cells #[] 3)).alloc (.cells #[.int .i64 ck, .string cs, .int .i64 cn] 80))) (fun v i wr => 0)
        case atStart => exact ⟨rfl, rfl, rfl⟩
        case round =>
          obtain ⟨rfl, rfl, rfl⟩ := hrel
          go_wp2_with fail
          go_ret
          refine ⟨some ⟨w.heap.size + 1, 0, none⟩, 0, ?_, by rw [E1.out]; exact Row.empty _ _ _ (by omega) (fun e => by cases e), hbz⟩
          rw [E1.out]; rfl
    | true =>
      have E1 : Hid (L = [cn]) := by rw [Hid, HL.out, leadsL, if_pos ho, if_neg h4']; rfl
      have Y0 : Hid ((hide (some (w.heap.size + 1)) (((w.alloc (.cells #[.slice (some ⟨b, off, none⟩) l.length cap, .slice a' n' cap', .int .i64 r] 25)).alloc (.cells #[] 3)).alloc (.cells #[.int .i64 ck, .string cs, .int .i64 cn] 80))).cell? ⟨w.heap.size + 1 + 1, 0, none⟩ = some (.int .i64 ck)) := hide_of_ne (by omega) e0
      clear HL h4'
      cases h3 : (ck == 3) with
      | true =>
        clear ho
        go_enter Try.func107, Try.ntmps107
        go_wp2_with (at_builtin; refine wpList_acck (α := Int) rfl _ _ 23 rfl (w.heap.size + 1) 3 8 _ Try.underlying23 Try.infoInt rfl (by decide) _ [] hmz (by rfl) _ #[.int .i64 cn] cn ⟨rfl, n1, n2⟩ (by simp only [World.size_alloc]; rfl) (by simp) hz0 ?_; intro v' w3 hacc3 hb3 hk3)
        have z0 := hide_keeps _ _ _ _ _ (hk3 _ _ _ Y0.out)
        obtain ⟨av, cv, rfl, hrow⟩ := hacc3.row
        have hbl : Below w.heap.size w w3 := hbz.trans (hb3.mono (Nat.le_succ _))
        clear hacc3 hb3 hk3
        go_loopw [6, 7] (fun v i wr => v = .slice av 1 cv ∧ i = .int .i64 1 ∧ wr = w3) (fun v i wr => 0)
        case atStart => exact ⟨rfl, rfl, rfl⟩
        case round =>
          obtain ⟨rfl, rfl, rfl⟩ := hrel
          go_wp2_with fail
          go_ret
          refine ⟨av, cv, ?_, by rw [E1.out]; exact hrow, hbl⟩
          rw [E1.out]; rfl
      | false =>
        have h1 : (ck == 1 && cn != k) = true := by simpa [onwardB, h3] using ho
        have h11 : (ck == 1) = true := by cases h : (ck == 1) with
          | true => rfl
          | false => rw [h] at h1; cases h1
        have h12 : (cn != k) = true := by rw [h11] at h1; exact h1
        clear ho h1
        go_enter Try.func107, Try.ntmps107
        go_wp2_with (at_builtin; refine wpList_acck (α := Int) rfl _ _ 23 rfl (w.heap.size + 1) 3 8 _ Try.underlying23 Try.infoInt rfl (by decide) _ [] hmz (by rfl) _ #[.int .i64 cn] cn ⟨rfl, n1, n2⟩ (by simp only [World.size_alloc]; rfl) (by simp) hz0 ?_; intro v' w3 hacc3 hb3 hk3)
        have z0 := hide_keeps _ _ _ _ _ (hk3 _ _ _ Y0.out)
        obtain ⟨av, cv, rfl, hrow⟩ := hacc3.row
        have hbl : Below w.heap.size w w3 := hbz.trans (hb3.mono (Nat.le_succ _))
        clear hacc3 hb3 hk3
        go_loopw [6, 7] (fun v i wr => v = .slice av 1 cv ∧ i = .int .i64 1 ∧ wr = w3) (fun v i wr => 0)
        case atStart => exact ⟨rfl, rfl, rfl⟩
        case round =>
          obtain ⟨rfl, rfl, rfl⟩ := hrel
          go_wp2_with fail
          go_ret
          refine ⟨av, cv, ?_, by rw [E1.out]; exact hrow, hbl⟩
          rw [E1.out]; rfl
end Go.Proofs.Ytefnmjoapmnkbaa
set_option linter.unusedVariables false
namespace Go.Proofs.Ytefnmjoapmnkbaa
open Go.RowKit

/-! ### marks, beginnings -/
set_option maxHeartbeats 400000 in
theorem refmark_any (a : Option Addr) (n cap : Nat) (a' : Option Addr) (n' cap' : Nat) (r : Int) (ra : Option Addr) (rn rc : Nat) (w : World) :
    Calls Try.prog 27 #[hv a n cap a' n' cap' r, .slice ra rn rc] w fun e w' => e = .returned (.agg #[.int .i64 n, .int .i64 n', .slice ra rn rc]) ∧ Below w.heap.size w w' := by
  have hb0 := ((Below.refl w.heap.size w).new (.cells #[.slice a n cap, .slice a' n' cap', .int .i64 r] 25)).new (.cells #[.int .i64 n, .int .i64 n', .slice ra rn rc] 43)
  go_enter Try.func27, Try.ntmps27
  go_wp2
  exact bodyPost_ret (v := .agg #[.int .i64 n, .int .i64 n', .slice ra rn rc]) (by simp [results, Try.results27, go_sem]) rfl ⟨rfl, hb0⟩

/-- how many of a row's first ones -/
def begN (n : Nat) (m : Int) : Nat := min (max m 0).toNat n
theorem ret_sl {a : Option Addr} {n n' cap : Nat} (h : n = n') : (Ending.returned (.slice a n cap)) = .returned (.slice a n' cap) := by rw [h]
theorem begS_any (a : Option Addr) (cap : Nat) (m : Int) (w : World) (xs : List Cel) (hx : Row w a cap xs) (h1 : -9223372036854775808 ≤ m) (h2 : m ≤ 9223372036854775807) :
    Calls Try.prog 79 #[.slice a xs.length cap, .int .i64 m] w fun e w' => e = .returned (.slice a (begN xs.length m) cap) ∧ w = w' := by
  have hm := hx.max
  have hm2 := hx.le
  have HB : Hid (begN xs.length m = min (max m 0).toNat xs.length) := rfl
  go_enter Try.func79, Try.ntmps79
  go_wp2
  all_goals
    go_ret
    refine ⟨ret_sl ?_, rfl⟩
    rw [HB.out]
    omega
theorem begI_any (a : Option Addr) (cap : Nat) (m : Int) (w : World) (xs : List Int) (hx : Row w a cap xs) (h1 : -9223372036854775808 ≤ m) (h2 : m ≤ 9223372036854775807) :
    Calls Try.prog 80 #[.slice a xs.length cap, .int .i64 m] w fun e w' => e = .returned (.slice a (begN xs.length m) cap) ∧ w = w' := by
  have hm := hx.max
  have hm2 := hx.le
  have HB : Hid (begN xs.length m = min (max m 0).toNat xs.length) := rfl
  go_enter Try.func80, Try.ntmps80
  go_wp2
  all_goals
    go_ret
    refine ⟨ret_sl ?_, rfl⟩
    rw [HB.out]
    omega
theorem Row.beg {α : Type} [Rep α] {w : World} {a : Option Addr} {cap : Nat} {xs : List α} (h : Row w a cap xs) (m : Int) : Row w a cap (xs.take (begN xs.length m)) := by
  refine ⟨by have := h.le; simp [begN]; omega, h.max, h.nil, fun i x hi => ?_⟩
  rw [List.getElem?_take] at hi
  split at hi
  · exact h.at_ i x hi
  · cases hi
theorem beg_length {α : Type} (xs : List α) (m : Int) : (xs.take (begN xs.length m)).length = begN xs.length m := by
  rw [List.length_take]; unfold begN; omega
end Go.Proofs.Ytefnmjoapmnkbaa
namespace Go.Proofs.Ytefnmjoapmnkbaa
open Go.RowKit

mutual
/-- a tree with its cells changed -/
def mapT (f : Cel → Cel) : Tm → Tm
  | .mk c ts => .mk (f c) (mapTs f ts)
def mapTs (f : Cel → Cel) : List Tm → List Tm
  | [] => []
  | t :: ts => mapT f t :: mapTs f ts
end
mutual
theorem mapT_flat (f : Cel → Cel) : ∀ t : Tm, (mapT f t).flat = t.flat.map f
  | .mk c ts => by simp only [mapT, Tm.flat, List.map_cons]; rw [mapTs_flat f ts]
theorem mapTs_flat (f : Cel → Cel) : ∀ ts : List Tm, flats (mapTs f ts) = (flats ts).map f
  | [] => rfl
  | t :: ts => by simp only [mapTs, flats, List.map_append]; rw [mapT_flat f t, mapTs_flat f ts]
end
theorem mapTs_length (f : Cel → Cel) (ts : List Tm) : (mapTs f ts).length = ts.length := by
  induction ts with
  | nil => rfl
  | cons t ts ih => simp [mapTs, ih]
mutual
theorem mapT_depth (f : Cel → Cel) : ∀ t : Tm, (mapT f t).depth = t.depth
  | .mk c ts => by simp only [mapT, Tm.depth]; rw [mapTs_depth f ts]
theorem mapTs_depth (f : Cel → Cel) : ∀ ts : List Tm, depths (mapTs f ts) = depths ts
  | [] => rfl
  | t :: ts => by simp only [mapTs, depths]; rw [mapT_depth f t, mapTs_depth f ts]
end
mutual
theorem mapT_ok (f : Cel → Cel) : ∀ t : Tm, t.ok → (∀ c ∈ t.flat, cellOk (f c) = true ∧ ar (f c) = ar c) → (mapT f t).ok
  | .mk c ts, h, hf => by
    obtain ⟨h1, h2, h3⟩ := h
    have hc := hf c (by simp [Tm.flat])
    exact ⟨hc.1, by rw [mapTs_length, h2, hc.2], mapTs_ok f ts h3 (fun d hd => hf d (by simp only [Tm.flat]; exact List.mem_cons_of_mem _ hd))⟩
theorem mapTs_ok (f : Cel → Cel) : ∀ ts : List Tm, oks ts → (∀ c ∈ flats ts, cellOk (f c) = true ∧ ar (f c) = ar c) → oks (mapTs f ts)
  | [], _, _ => trivial
  | t :: ts, h, hf => ⟨mapT_ok f t h.1 (fun c hc => hf c (by simp only [flats]; exact List.mem_append_left _ hc)), mapTs_ok f ts h.2 (fun c hc => hf c (by simp only [flats]; exact List.mem_append_right _ hc))⟩
end
mutual
theorem ok_cells : ∀ t : Tm, t.ok → ∀ c ∈ t.flat, cellOk c = true
  | .mk c ts, h, d, hd => by
    simp only [Tm.flat, List.mem_cons] at hd
    rcases hd with rfl | hd
    · exact h.1
    · exact oks_cells ts h.2.2 d hd
theorem oks_cells : ∀ ts : List Tm, oks ts → ∀ c ∈ flats ts, cellOk c = true
  | [], _, d, hd => by simp [flats] at hd
  | t :: ts, h, d, hd => by
    simp only [flats, List.mem_append] at hd
    rcases hd with hd | hd
    · exact ok_cells t h.1 d hd
    · exact oks_cells ts h.2 d hd
end
theorem right_cells {xs : List Cel} (h : rightB xs = true) : ∀ c ∈ xs, cellOk c = true := by
  obtain ⟨t, ht, rfl, _⟩ := right_tm h
  exact ok_cells t ht
theorem var_range {c : Cel} (h : cellOk c = true) (h1 : c.k = 1) : 0 ≤ c.n ∧ c.n ≤ 999 := by
  simp [cellOk, h1] at h; omega

/-- the variables of a term, shifted -/
def shiftI (d : Int) (c : Cel) : Cel := if c.k = 1 then ⟨c.k, c.s, c.n + d⟩ else c
theorem shiftC_eq {d : Int} (hd : -100000 ≤ d ∧ d ≤ 100000) {c : Cel} (h : c.k = 1 → -100000 ≤ c.n ∧ c.n ≤ 100000) : shiftC d c = shiftI d c := by
  unfold shiftC shiftI
  by_cases h1 : c.k = 1
  · have := h h1
    rw [if_pos h1, if_pos h1, IntWalk.wrap64_in _ (by constructor <;> omega)]
  · rw [if_neg h1, if_neg h1]
theorem map_shift {xs : List Cel} {d : Int} (hd : -100000 ≤ d ∧ d ≤ 100000) (h : ∀ c ∈ xs, c.k = 1 → -100000 ≤ c.n ∧ c.n ≤ 100000) : xs.map (shiftC d) = xs.map (shiftI d) :=
  List.map_congr_left (fun c hc => shiftC_eq hd (h c hc))
theorem varsGo_shift (d : Int) (xs : List Cel) : ∀ acc : List Int, varsGo (acc.map (· + d)) (xs.map (shiftI d)) = (varsGo acc xs).map (· + d) := by
  induction xs with
  | nil => intro acc; rfl
  | cons c xs ih =>
    intro acc
    simp only [List.map_cons, varsGo]
    have hk : (shiftI d c).k = c.k := by unfold shiftI; split <;> rfl
    have hm : ∀ n : Int, n + d ∈ acc.map (· + d) ↔ n ∈ acc := by
      intro n
      rw [List.mem_map]
      constructor
      · rintro ⟨m, hm, e⟩
        have : m = n := by omega
        rw [← this]; exact hm
      · intro h; exact ⟨n, h, rfl⟩
    by_cases h1 : c.k = 1
    · have hn : (shiftI d c).n = c.n + d := by unfold shiftI; rw [if_pos h1]
      by_cases h2 : c.n ∈ acc
      · rw [if_neg (by rw [hk, hn]; simp only [hm]; exact fun h => h.2 h2), if_neg (fun h => h.2 h2)]
        exact ih acc
      · rw [if_pos (by rw [hk, hn]; simp only [hm]; exact ⟨h1, h2⟩), if_pos ⟨h1, h2⟩, hn]
        have := ih (acc ++ [c.n])
        rw [List.map_append] at this
        exact this
    · rw [if_neg (by rw [hk]; exact fun h => h1 h.1), if_neg (fun h => h1 h.1)]
      exact ih acc
theorem vars_shift {xs : List Cel} (d : Int) : varsL (xs.map (shiftI d)) = (varsL xs).map (· + d) := varsGo_shift d xs []
theorem mem_vars_of (xs : List Cel) : ∀ (acc : List Int) (n : Int), n ∈ varsGo acc xs → n ∈ acc ∨ ∃ c ∈ xs, c.k = 1 ∧ c.n = n := by
  induction xs with
  | nil => intro acc n h; exact .inl h
  | cons c xs ih =>
    intro acc n h
    simp only [varsGo] at h
    rcases ih _ _ h with h | ⟨e, he, h1, h2⟩
    · split at h
      · rename_i hc
        rcases List.mem_append.1 h with h | h
        · exact .inl h
        · simp at h; exact .inr ⟨c, List.mem_cons_self, hc.1, h.symm⟩
      · exact .inl h
    · exact .inr ⟨e, List.mem_cons_of_mem _ he, h1, h2⟩
theorem vars_range {xs : List Cel} (h : rightB xs = true) : ∀ n ∈ varsL xs, 0 ≤ n ∧ n ≤ 999 := by
  intro n hn
  rcases mem_vars_of xs [] n hn with h' | ⟨c, hc, h1, rfl⟩
  · simp at h'
  · exact var_range (right_cells h c hc) h1
theorem shift_ok {c : Cel} {d : Int} (h : cellOk c = true) (hr : c.k = 1 → 0 ≤ c.n + d ∧ c.n + d ≤ 999) : cellOk (shiftI d c) = true ∧ ar (shiftI d c) = ar c := by
  unfold shiftI
  by_cases h1 : c.k = 1
  · rw [if_pos h1]
    have := hr h1
    refine ⟨?_, by simp [ar, h1]⟩
    simp [cellOk, h1] at h ⊢
    exact ⟨⟨h.1.1, this.1⟩, this.2⟩
  · rw [if_neg h1]; exact ⟨h, rfl⟩
theorem mem_varsL {xs : List Cel} {c : Cel} (hc : c ∈ xs) (h1 : c.k = 1) : c.n ∈ varsL xs := by
  have : ∀ (xs : List Cel) (acc : List Int), c ∈ xs → c.n ∈ varsGo acc xs := by
    intro xs
    induction xs with
    | nil => intro acc h; simp at h
    | cons e l ih =>
      intro acc h
      rcases List.mem_cons.1 h with rfl | h
      · simp only [varsGo]
        have sub : ∀ (l : List Cel) (acc : List Int) (n : Int), n ∈ acc → n ∈ varsGo acc l := by
          intro l
          induction l with
          | nil => intro acc n h; exact h
          | cons f l ih => intro acc n h; refine ih _ _ ?_; split; exact List.mem_append_left _ h; exact h
        refine sub _ _ _ ?_
        by_cases h2 : c.n ∈ acc
        · rw [if_neg (fun h => h.2 h2)]; exact h2
        · rw [if_pos ⟨h1, h2⟩]; simp
      · exact ih _ h
  exact this xs [] hc
theorem small_vars {xs : List Cel} (h : rightB xs = true) : ∀ c ∈ xs, c.k = 1 → -100000 ≤ c.n ∧ c.n ≤ 100000 := fun c hc h1 => by
  have := var_range (right_cells h c hc) h1; omega

/-- all variables stay within the limits -/
def stays (vs : List Int) (d : Int) : Bool := vs.all fun n => decide (0 ≤ n + d) && decide (n + d ≤ 999)
theorem shift_stays {t : Tm} (ht : t.ok) (h200 : t.flat.length ≤ 200) {d : Int} (hd : -100000 ≤ d ∧ d ≤ 100000) (h : stays (varsL t.flat) d = true) :
    shiftL t.flat d = (mapT (shiftI d) t).flat ∧ (mapT (shiftI d) t).ok ∧ (mapT (shiftI d) t).flat.length = t.flat.length := by
  have hR := right_flat ht h200
  have hok : (mapT (shiftI d) t).ok := mapT_ok _ t ht (fun c hc => shift_ok (ok_cells t ht c hc) (fun h1 => by
    have := List.all_eq_true.1 h c.n (mem_varsL hc h1)
    simpa using this))
  have hl : (mapT (shiftI d) t).flat.length = t.flat.length := by rw [mapT_flat, List.length_map]
  refine ⟨?_, hok, hl⟩
  unfold shiftL
  rw [map_shift hd (small_vars hR), ← mapT_flat, if_pos (right_flat hok (by omega))]
theorem shift_leaves {t : Tm} (ht : t.ok) (h200 : t.flat.length ≤ 200) {d : Int} (hd : -100000 ≤ d ∧ d ≤ 100000) (h : stays (varsL t.flat) d = false) : shiftL t.flat d = [] := by
  have hR := right_flat ht h200
  unfold shiftL
  rw [map_shift hd (small_vars hR), if_neg]
  intro hr
  obtain ⟨n, hn, hb⟩ := List.all_eq_false.1 h
  rcases mem_vars_of t.flat [] n hn with h' | ⟨c, hc, h1, rfl⟩
  · simp at h'
  · have h2 := right_cells hr (shiftI d c) (List.mem_map_of_mem hc)
    have h3 : (shiftI d c).k = 1 := by unfold shiftI; rw [if_pos h1]; exact h1
    have h4 := var_range h2 h3
    have h5 : (shiftI d c).n = c.n + d := by unfold shiftI; rw [if_pos h1]
    rw [h5] at h4
    exact hb (by simp; exact h4)
theorem shift_back {t : Tm} (ht : t.ok) (h200 : t.flat.length ≤ 200) {d : Int} (hd : -100000 ≤ d ∧ d ≤ 99000) (hd2 : -99000 ≤ d) (h : stays (varsL t.flat) d = true) : shiftL (mapT (shiftI d) t).flat (-d) = t.flat := by
  obtain ⟨_, hok, hl⟩ := shift_stays ht h200 ⟨hd.1, by omega⟩ h
  have hR := right_flat ht h200
  have hR2 := right_flat hok (by omega)
  have e : (mapT (shiftI d) t).flat.map (shiftC (-d)) = t.flat := by
    rw [map_shift ⟨by omega, by omega⟩ (small_vars hR2), mapT_flat, List.map_map]
    have : ∀ c ∈ t.flat, (shiftI (-d) ∘ shiftI d) c = c := by
      intro c _
      show shiftI (-d) (shiftI d c) = c
      unfold shiftI
      by_cases h1 : c.k = 1
      · rw [if_pos h1, if_pos h1]
        exact (Cel.eq_iff _ _).2 ⟨rfl, rfl, by show c.n + d + -d = c.n; omega⟩
      · rw [if_neg h1, if_neg h1]
    exact (List.map_congr_left this).trans (List.map_id _)
  unfold shiftL
  rw [e, if_pos hR]
theorem shift_zero {t : Tm} (ht : t.ok) (h200 : t.flat.length ≤ 200) : shiftL t.flat 0 = t.flat := by
  have hR := right_flat ht h200
  have e : t.flat.map (shiftC 0) = t.flat := by
    rw [map_shift ⟨by omega, by omega⟩ (small_vars hR)]
    have : ∀ c ∈ t.flat, shiftI 0 c = c := by
      intro c _
      unfold shiftI
      by_cases h1 : c.k = 1
      · rw [if_pos h1]
        exact (Cel.eq_iff _ _).2 ⟨rfl, rfl, by show c.n + 0 = c.n; omega⟩
      · rw [if_neg h1]
    exact (List.map_congr_left this).trans (List.map_id _)
  unfold shiftL
  rw [e, if_pos hR]
end Go.Proofs.Ytefnmjoapmnkbaa
namespace Go.Proofs.Ytefnmjoapmnkbaa
open Go.RowKit

/-- what stands for a variable -/
structure Bnd where
  v : Int
  t : List Cel
  deriving DecidableEq
structure BndE (w : World) (b o : Nat) (x : Bnd) : Prop where
  ex : ∃ a cap, w.cell? ⟨b, o, none⟩ = some (.int .i64 x.v) ∧ w.cell? ⟨b, o + 1, none⟩ = some (.slice a x.t.length cap) ∧ Row w a cap x.t
  lo : -9223372036854775808 ≤ x.v
  hi : x.v ≤ 9223372036854775807
instance : RepC Bnd where
  sz := 2
  E := BndE
  mono h hb := let ⟨a, cap, h0, h1, hr⟩ := h.ex; ⟨⟨a, cap, hb _ _ _ h0, hb _ _ _ h1, hr.keeps hb⟩, h.lo, h.hi⟩
  lt h := let ⟨_, _, h0, _⟩ := h.ex; cell_lt h0
  C w cs x := (∃ a cap, cs = [.int .i64 x.v, .slice a x.t.length cap] ∧ Row w a cap x.t) ∧ -9223372036854775808 ≤ x.v ∧ x.v ≤ 9223372036854775807
  len := by rintro w cs x ⟨⟨a, cap, rfl, _⟩, _⟩; rfl
  one := by rintro w cs x ⟨⟨a, cap, rfl, _⟩, _⟩ u hu; simp at hu; rcases hu with rfl | rfl <;> rfl
  cmono := by rintro w w' cs x ⟨⟨a, cap, rfl, h⟩, h2⟩ hk; exact ⟨⟨a, cap, rfl, h.keeps hk⟩, h2⟩
  toE := by
    rintro w cs x b o ⟨⟨a, cap, rfl, h⟩, h2, h3⟩ hat
    exact ⟨⟨a, cap, hat 0 _ rfl, hat 1 _ rfl, h⟩, h2, h3⟩
  ofE := by
    rintro w x b o ⟨⟨a, cap, h0, h1, h⟩, h2, h3⟩
    refine ⟨_, ⟨⟨a, cap, rfl, h⟩, h2, h3⟩, fun j u hj => ?_⟩
    match j with
    | 0 => simp at hj; subst hj; exact h0
    | 1 => simp at hj; subst hj; exact h1
    | j + 2 => simp at hj
  pos := by decide
theorem bnd_at {w wr : World} {b off : Nat} {xs : List Bnd} (hat : ∀ i (hi : i < xs.length), Rep.E w b (off + i * Rep.sz Bnd) xs[i]) (hb : Below w.heap.size w wr) {k : Nat} (hk : k < xs.length) :
    ∃ a cap, wr.cell? ⟨b, off + k * 2, none⟩ = some (.int .i64 xs[k].v) ∧ wr.cell? ⟨b, off + k * 2 + 1, none⟩ = some (.slice a xs[k].t.length cap) ∧ Row wr a cap xs[k].t ∧ -9223372036854775808 ≤ xs[k].v ∧ xs[k].v ≤ 9223372036854775807 := by
  have h : BndE w b (off + k * 2) xs[k] := hat k hk
  obtain ⟨a, cap, h0, h1, hr⟩ := h.ex
  exact ⟨a, cap, keep h0 hb, keep h1 hb, hr.below hb, h.lo, h.hi⟩

/-! ### plain mathematics -/
def varC (n : Int) : Cel := ⟨1, ⟨#[]⟩, n⟩
/-- the program's own word: just its own variable -/
def ownB (b : Bnd) : Bool := decide (b.t = [varC b.v])
/-- the document's -/
def ownR (v : Int) : List Cel → Bool
  | [c] => c.k == 1 && c.n == v
  | _ => false
def placeB (s : List Bnd) (n : Int) : Int := match s.findIdx? (fun b => decide (b.v = n)) with
  | some i => i
  | none => -1
def look (s : List Bnd) (n : Int) : Option (List Cel) := (s.find? fun b => decide (b.v = n)).map Bnd.t
/-- right from a least variable on -/
def rightG : Int → List Bnd → Bool
  | _, [] => true
  | m, b :: s => decide (m ≤ b.v) && decide (b.v ≤ 999) && rightB b.t && !ownB b && rightG (b.v + 1) s
def rightS (s : List Bnd) : Bool := rightG 0 s
def fewB (s : List Bnd) : Bool := s.all (fun b => decide (b.t.length ≤ 300)) && decide (s.length ≤ 30)
def idemB (s : List Bnd) : Bool := s.all fun b => b.t.all fun c => !(c.k == 1 && (look s c.n).isSome)

theorem cellOk_var {c : Cel} (h : cellOk c = true) (h1 : c.k = 1) : c = varC c.n := by
  obtain ⟨k, s, n⟩ := c
  dsimp only at h1
  subst h1
  simp [cellOk] at h
  have : s = ⟨#[]⟩ := (toList_inj s ⟨#[]⟩).1 (by rw [h.1.1]; simp)
  rw [this]; rfl

/-! scans -/
section
variable {α : Type} {xs : List α} {p : α → Bool} {k : Nat}
theorem scan_next (h : (xs.take k).all p = true) (hk : k < xs.length) (hp : p xs[k] = true) : (xs.take (k + 1)).all p = true := by
  rw [List.take_succ_eq_append_getElem hk, List.all_append, h]; simp [hp]
theorem scan_bad (hk : k < xs.length) (hp : p xs[k] = false) : xs.all p = false := by
  rw [List.all_eq_false]; exact ⟨xs[k], List.getElem_mem hk, by simp [hp]⟩
theorem scan_end (h : (xs.take k).all p = true) (hk : xs.length ≤ k) : xs.all p = true := by
  rwa [List.take_of_length_le hk] at h
theorem find_none {n : Int} {s : List Bnd} (h : (s.take k).all (fun b => !decide (b.v = n)) = true) (hk : s.length ≤ k) : placeB s n = -1 := by
  have h := scan_end h hk
  have : s.findIdx? (fun b => decide (b.v = n)) = none := by
    rw [List.findIdx?_eq_none_iff]
    intro x hx
    have := List.all_eq_true.1 h x hx
    simpa using this
  unfold placeB; rw [this]
theorem find_at {n : Int} {s : List Bnd} (h : (s.take k).all (fun b => !decide (b.v = n)) = true) (hk : k < s.length) (he : s[k].v = n) : placeB s n = k := by
  have : s.findIdx? (fun b => decide (b.v = n)) = some k := by
    rw [List.findIdx?_eq_some_iff_getElem]
    refine ⟨hk, by simpa using he, fun j hj => ?_⟩
    have := List.all_eq_true.1 h s[j] (by rw [List.mem_take_iff_getElem]; exact ⟨j, by omega, rfl⟩)
    simpa using this
  unfold placeB; rw [this]
end
theorem place_look (s : List Bnd) (n : Int) : (placeB s n = -1 ∧ look s n = none ∧ ∀ b ∈ s, b.v ≠ n) ∨ ∃ (i : Nat) (h : i < s.length), placeB s n = i ∧ s[i].v = n ∧ look s n = some s[i].t := by
  cases h : s.findIdx? (fun b => decide (b.v = n)) with
  | none =>
    left
    rw [List.findIdx?_eq_none_iff] at h
    refine ⟨by unfold placeB; rw [List.findIdx?_eq_none_iff.2 h], ?_, fun b hb e => by have := h b hb; simp [e] at this⟩
    unfold look
    rw [List.find?_eq_none.2 (fun x hx => by simpa using h x hx)]; rfl
  | some i =>
    right
    have h' := h
    rw [List.findIdx?_eq_some_iff_getElem] at h'
    obtain ⟨hi, h1, h2⟩ := h'
    refine ⟨i, hi, by unfold placeB; rw [h], by simpa using h1, ?_⟩
    unfold look
    have hf : s.find? (fun b => decide (b.v = n)) = some s[i] := List.find?_eq_some_iff_getElem.2 ⟨h1, i, hi, rfl, fun j hj => by simpa using h2 j hj⟩
    rw [hf]; rfl
theorem ownR_own {b : Bnd} (h : rightB b.t = true) : ownR b.v b.t = ownB b := by
  unfold ownR ownB
  split
  · rename_i c e
    rw [e] at h ⊢
    have hc := right_cells h c (by simp)
    by_cases h1 : c.k = 1
    · by_cases h2 : c.n = b.v
      · have := cellOk_var hc h1
        rw [h2] at this
        rw [this]; simp [varC]
      · have : ¬ c = varC b.v := fun e => h2 (by rw [e]; rfl)
        simp [h1, h2, this]
    · have : ¬ c = varC b.v := fun e => h1 (by rw [e]; rfl)
      simp [h1, this]
  · rename_i hne
    symm
    rw [decide_eq_false_iff_not]
    intro e
    exact hne _ e
/-- the document's way of asking, place by place -/
def okAt (s : List Bnd) (i : Nat) (b : Bnd) : Bool := decide (0 ≤ b.v) && decide (b.v ≤ 999) && (match i with | 0 => true | j + 1 => match s[j]? with | some c => decide (c.v < b.v) | none => true) && rightB b.t && !ownR b.v b.t
theorem rightG_bad {m : Int} {s : List Bnd} {k : Nat} (hk : k < s.length) (h : rightB s[k].t = false ∨ ownB s[k] = true ∨ 999 < s[k].v) : rightG m s = false := by
  induction s generalizing m k with
  | nil => simp at hk
  | cons b s ih =>
    cases k with
    | zero =>
      simp at h
      unfold rightG
      rcases h with h | h | h
      · simp [h]
      · simp [h]
      · simp [show ¬ b.v ≤ 999 by omega]
    | succ k =>
      simp at h hk
      have := ih (m := b.v + 1) hk h
      unfold rightG; simp [this]
theorem rightG_split {m : Int} {s : List Bnd} {k : Nat} (hk : k < s.length) (h : rightG m s = true) : rightG s[k].v (s.drop k) = true ∧ m ≤ s[k].v := by
  induction s generalizing m k with
  | nil => simp at hk
  | cons b s ih =>
    cases k with
    | zero =>
      unfold rightG at h
      simp at h
      refine ⟨?_, by simp; omega⟩
      rw [List.drop_zero]
      unfold rightG
      simp [h]
    | succ k =>
      unfold rightG at h
      simp at h hk
      obtain ⟨h1, h2⟩ := ih hk h.2
      refine ⟨by simpa using h1, by simp; omega⟩

/-- the least variable that may stand at a place -/
def mOf (xs : List Bnd) : Nat → Int
  | 0 => 0
  | j + 1 => match xs[j]? with
    | some c => c.v + 1
    | none => 0
theorem mOf_succ {xs : List Bnd} {k : Nat} (hk : k < xs.length) : mOf xs (k + 1) = xs[k].v + 1 := by
  simp [mOf, List.getElem?_eq_getElem hk]
theorem rightG_step {xs : List Bnd} {k : Nat} (hk : k < xs.length) (h : rightS xs = rightG (mOf xs k) (xs.drop k)) :
    rightS xs = (decide (mOf xs k ≤ xs[k].v) && decide (xs[k].v ≤ 999) && rightB xs[k].t && !ownB xs[k] && rightG (mOf xs (k + 1)) (xs.drop (k + 1))) := by
  rw [h, List.drop_eq_getElem_cons hk, mOf_succ hk]; rfl
theorem right_l1 {xs : List Bnd} {k : Nat} (hk : k < xs.length) (h : rightS xs = rightG (mOf xs k) (xs.drop k)) (e : ¬ mOf xs k ≤ xs[k].v ∨ ¬ xs[k].v ≤ 999 ∨ rightB xs[k].t = false ∨ ownB xs[k] = true) : rightS xs = false := by
  rw [rightG_step hk h]
  rcases e with e | e | e | e <;> simp [e]
theorem right_l2 {xs : List Bnd} {k : Nat} (hk : k < xs.length) (h : rightS xs = rightG (mOf xs k) (xs.drop k)) (e1 : mOf xs k ≤ xs[k].v) (e2 : xs[k].v ≤ 999) (e3 : rightB xs[k].t = true) (e4 : ownB xs[k] = false) : rightS xs = rightG (mOf xs (k + 1)) (xs.drop (k + 1)) := by
  rw [rightG_step hk h]; simp [e1, e2, e3, e4]
theorem right_l3 {xs : List Bnd} {k : Nat} (hk : xs.length ≤ k) (h : rightS xs = rightG (mOf xs k) (xs.drop k)) : rightS xs = true := by
  rw [h, List.drop_eq_nil_of_le hk]; rfl
end Go.Proofs.Ytefnmjoapmnkbaa
namespace Go.Proofs.Ytefnmjoapmnkbaa
open Go.RowKit

set_option maxHeartbeats 400000 in
theorem place2_any (a : Option Addr) (cap : Nat) (n : Int) (w : World) (xs : List Bnd) (hx : Row w a cap xs) :
    Calls Try.prog 119 #[.slice a xs.length cap, .int .i64 n] w fun e w' => e = .returned (.int .i64 (placeB xs n)) ∧ Below w.heap.size w w' := by
  have hm := hx.max
  have hm2 := hx.le
  go_enter Try.func119, Try.ntmps119
  go_wp2
  go_loopw [5] (fun i wr => ∃ k : Nat, k ≤ xs.length ∧ i = .int .i64 k ∧ Below w.heap.size w wr ∧ Hid ((xs.take k).all (fun b => !decide (b.v = n)) = true)) (fun i wr => xs.length - (intOf i).toNat)
  case atStart => exact ⟨0, Nat.zero_le _, rfl, Below.refl _ _, by simp [Hid]⟩
  case round =>
    obtain ⟨k, hk, rfl, hbl, HS⟩ := hrel
    by_cases hlt : k < xs.length
    · obtain ⟨b, off, rfl, hb, hat⟩ := hx.cases.resolve_left (fun e => by simp [e] at hlt)
      obtain ⟨a1, cap1, c0, c1, hr1, hv1, hv2⟩ := bnd_at hat hbl hlt
      by_cases he : xs[k].v = n
      · have HE : Hid ((k : Int) = (placeB xs n)) := (find_at HS.out hlt he).symm
        have ht : (xs[k].v == n) = true := by simp [he]
        clear he HS
        go_wp2
        go_ret
        exact ⟨ret_int HE.out, hbl⟩
      · have ht : (xs[k].v == n) = false := by simp [he]
        have HT := mkHid (scan_next HS.out hlt (by simp [he]))
        clear he HS
        go_wp2
        go_round
        case rel => exact ⟨k + 1, by omega, by go_num, hbl, HT⟩
        case measure => simp [intOf]; omega
    · have HE : Hid (-1 = (placeB xs n)) := (find_none HS.out (by omega)).symm
      clear HS
      go_wp2
      go_ret
      exact ⟨ret_int HE.out, hbl⟩

end Go.Proofs.Ytefnmjoapmnkbaa
namespace Go.Proofs.Ytefnmjoapmnkbaa
open Go.RowKit

theorem fit_int {n : Int} {s : ByteArray} {k : Int} (h0 : -9223372036854775808 ≤ k) (h1 : k ≤ 9223372036854775807) (h2 : -9223372036854775808 ≤ n) (h3 : n ≤ 9223372036854775807) (hs : s.size ≤ 9223372036854775807) : (⟨k, s, n⟩ : Cel).fit := ⟨h0, h1, h2, h3, hs⟩
theorem varC_fit {n : Int} (h2 : -9223372036854775808 ≤ n) (h3 : n ≤ 9223372036854775807) : (varC n).fit := ⟨by show _ ≤ (1 : Int); omega, by show (1 : Int) ≤ _; omega, h2, h3, by show 0 ≤ _; omega⟩

end Go.Proofs.Ytefnmjoapmnkbaa
namespace Go.Proofs.Ytefnmjoapmnkbaa
open Go.RowKit

end Go.Proofs.Ytefnmjoapmnkbaa
namespace Go.Proofs.Ytefnmjoapmnkbaa
open Go.RowKit

theorem bnd_ne {xs ys : List Bnd} {k : Nat} (hx : k < xs.length) (hy : k < ys.length) (h : ¬ xs[k] = ys[k]) : ¬ xs = ys := fun e => by subst e; exact h rfl
theorem Bnd.eq_iff (x y : Bnd) : x = y ↔ x.v = y.v ∧ x.t = y.t := by cases x; cases y; simp

end Go.Proofs.Ytefnmjoapmnkbaa
namespace Go.Proofs.Ytefnmjoapmnkbaa
open Go.RowKit

end Go.Proofs.Ytefnmjoapmnkbaa
namespace Go.Proofs.Ytefnmjoapmnkbaa
open Go.RowKit

def mayB (s : List Bnd) (t : List Cel) : Bool := decide (t.length ≤ 300) && fewB s && rightS s && rightB t

/-- of one term: no variable of it is bound -/
def freeB (s : List Bnd) (t : List Cel) : Bool := t.all fun c => !(c.k == 1 && (look s c.n).isSome)
theorem idem_eq (s : List Bnd) : idemB s = s.all fun b => freeB s b.t := rfl
theorem place_nonneg {s : List Bnd} {n : Int} : (0 ≤ placeB s n) ↔ (look s n).isSome = true := by
  rcases place_look s n with ⟨h1, h2, _⟩ | ⟨i, h, h1, _, h2⟩
  · rw [h1, h2]; simp
  · rw [h1, h2]; simp

end Go.Proofs.Ytefnmjoapmnkbaa
namespace Go.Proofs.Ytefnmjoapmnkbaa
open Go.RowKit

def putC (f : Int → Option (List Cel)) (c : Cel) : List Cel := if c.k = 1 then (f c.n).getD [c] else [c]
def putL (f : Int → Option (List Cel)) (t : List Cel) : List Cel := t.flatMap (putC f)
theorem putL_snoc (f : Int → Option (List Cel)) (t : List Cel) (k : Nat) (hk : k < t.length) : putL f (t.take (k + 1)) = putL f (t.take k) ++ putC f t[k] := by
  unfold putL; rw [List.take_succ_eq_append_getElem hk, List.flatMap_append]; simp
theorem putL_append (f : Int → Option (List Cel)) (t u : List Cel) : putL f (t ++ u) = putL f t ++ putL f u := by
  unfold putL; rw [List.flatMap_append]
theorem look_mem {s : List Bnd} {n : Int} {t : List Cel} (h : look s n = some t) : ∃ b ∈ s, b.v = n ∧ b.t = t := by
  unfold look at h
  cases hf : s.find? (fun b => decide (b.v = n)) with
  | none => rw [hf] at h; simp at h
  | some b =>
    rw [hf] at h
    simp at h
    exact ⟨b, List.mem_of_find?_eq_some hf, by simpa using List.find?_some hf, h⟩
theorem putC_le {s : List Bnd} (h : ∀ b ∈ s, b.t.length ≤ 1000) (c : Cel) : (putC (look s) c).length ≤ 1000 := by
  unfold putC
  split
  · cases hl : look s c.n with
    | none => simp
    | some t =>
      obtain ⟨b, hb, _, rfl⟩ := look_mem hl
      simpa using h b hb
  · simp
theorem putL_le {s : List Bnd} (h : ∀ b ∈ s, b.t.length ≤ 1000) (t : List Cel) : (putL (look s) t).length ≤ 1000 * t.length := by
  induction t with
  | nil => simp [putL]
  | cons c t ih =>
    have := putC_le h c
    unfold putL at ih ⊢
    simp only [List.flatMap_cons, List.length_append, List.length_cons]; omega

set_option maxHeartbeats 1600000 in
theorem refput_any (a : Option Addr) (cap : Nat) (a' : Option Addr) (cap' : Nat) (w : World) (xs : List Bnd) (ys : List Cel) (hx : Row w a cap xs) (hy : Row w a' cap' ys) (hT : ∀ b ∈ xs, b.t.length ≤ 1000) (hl : ys.length ≤ 10000) :
    Calls Try.prog 82 #[.slice a xs.length cap, .slice a' ys.length cap'] w fun e w' => ∃ a2 cap2, e = .returned (.slice a2 (putL (look xs) ys).length cap2) ∧ NewRow w.heap.size w' a2 cap2 (putL (look xs) ys) ∧ Below w.heap.size w w' := by
  have hm := hy.max
  have hm2 := hy.le
  have hm0 := World.ownsRow_made (base := w.heap.size) (e := 54) (size := 3) w #[] 0 (Nat.le_refl _) (by unfold maxLen; omega) rfl
  have hb0 := (Below.refl w.heap.size w).new (.cells #[] 54)
  have HT := mkHid hT
  clear hT
  go_enter Try.func82, Try.ntmps82
  go_wp2_with fail
  go_loopw [5, 6, 7] (fun v i at_ wr => ∃ k : Nat, k ≤ ys.length ∧ i = .int .i64 k ∧ wr.ownsRow w.heap.size 54 3 v (putL (look xs) (ys.take k)).length (flat (putL (look xs) (ys.take k))) ∧ (∀ c ∈ putL (look xs) (ys.take k), c.fit) ∧ Below w.heap.size w wr) (fun v i at_ wr => ys.length - (intOf i).toNat)
  case atStart => exact ⟨0, Nat.zero_le _, rfl, by simpa [putL, flat] using hm0, by simp [putL], hb0⟩
  case round =>
    obtain ⟨k, hk, rfl, hown, hfit, hbl⟩ := hrel
    have HF := mkHid hfit
    clear hfit
    by_cases hlt : k < ys.length
    · obtain ⟨b, off, rfl, hb, hat⟩ := hy.cases.resolve_left (fun e => by simp [e] at hlt)
      obtain ⟨c0, c1, c2, hf⟩ := cel_at hat hbl hlt
      have HS := mkHid (putL_snoc (look xs) ys k hlt)
      have hle := putL_le HT.out (ys.take k)
      have hlk : (ys.take k).length ≤ k := List.length_take_le _ _
      by_cases h1 : ys[k].k = 1
      · have t1 : (ys[k].k == 1) = true := by simp [h1]
        rcases place_look xs ys[k].n with ⟨hp, hlk2, _⟩ | ⟨i, hi, hp, _, hlk2⟩
        · have HP := mkHid hp
          have HC : Hid (putC (look xs) ys[k] = [ys[k]]) := by rw [Hid]; unfold putC; rw [if_pos h1, hlk2]; rfl
          clear h1 hp hlk2
          go_wp2_with (first
            | (go_at_call 119; refine (place2_any _ cap _ _ xs (hx.below hbl)).mono ?_; rintro e w2 ⟨rfl, hb2⟩; rw [HP.out]; have d0 := keep c0 hb2; have d1 := keep c1 hb2; have d2 := keep c2 hb2; have hown1 := own_below hown hb2; have hbl1 := hbl.then hb2; clear c0 c1 c2)
            | (at_builtin; refine wpList_app rfl _ _ 26 rfl w.heap.size 54 3 32 _ Try.underlying26 Try.infoCell rfl (by decide) (by decide) _ (putL (look xs) (ys.take k)).length _ rfl (hown1.alloc _) (some ⟨_, 0, none⟩) 1 1 [.int .i64 ys[k].k, .string ys[k].s, .int .i64 ys[k].n] rfl (src_new _ #[.int .i64 ys[k].k, .string ys[k].s, .int .i64 ys[k].n] _ 3 rfl (by simp [Value.oneCell'])) (by omega) (Nat.le_trans hbl1.size (by simp)) ?_; intro v' w3 hown3 _ hb3))
          go_round
          case rel => exact ⟨k + 1, by omega, by go_num, by rw [HS.out, HC.out, flat_append, List.length_append]; exact hown3, by rw [HS.out, HC.out]; intro c hc; rcases List.mem_append.1 hc with hc | hc; exact HF.out c hc; (simp at hc; subst hc; exact hf), (hbl1.new _).trans hb3⟩
          case measure => simp [intOf]; omega
        · have HP := mkHid hp
          have HC : Hid (putC (look xs) ys[k] = xs[i].t) := by rw [Hid]; unfold putC; rw [if_pos h1, hlk2]; rfl
          obtain ⟨b', off', rfl, hb', hat'⟩ := hx.cases.resolve_left (fun e => by simp [e] at hi)
          have hTi := HT.out xs[i] (List.getElem_mem hi)
          clear h1 hp hlk2
          go_wp2_with (first
            | (go_at_call 119; refine (place2_any _ cap _ _ xs (hx.below hbl)).mono ?_; rintro e w2 ⟨rfl, hb2⟩; rw [HP.out]; obtain ⟨a1, cap1, d0, d1, hr1, _, _⟩ := bnd_at hat' (hbl.then hb2) hi; have hown1 := own_below hown hb2; have hbl1 := hbl.then hb2; clear c0 c1 c2)
            | (at_builtin; refine wpList_app rfl _ _ 26 rfl w.heap.size 54 3 32 _ Try.underlying26 Try.infoCell rfl (by decide) (by decide) _ (putL (look xs) (ys.take k)).length _ rfl hown1 a1 xs[i].t.length cap1 (flat xs[i].t) rfl hr1.src (by omega) hbl1.size ?_; intro v' w3 hown3 _ hb3))
          go_round
          case rel => exact ⟨k + 1, by omega, by go_num, by rw [HS.out, HC.out, flat_append, List.length_append]; exact hown3, by rw [HS.out, HC.out]; intro c hc; rcases List.mem_append.1 hc with hc | hc; exact HF.out c hc; exact hr1.fit c hc, hbl1.trans hb3⟩
          case measure => simp [intOf]; omega
      · have t1 : (ys[k].k == 1) = false := by simp [h1]
        have HC : Hid (putC (look xs) ys[k] = [ys[k]]) := by rw [Hid]; unfold putC; rw [if_neg h1]
        clear h1
        go_wp2_with (at_builtin; refine wpList_app rfl _ _ 26 rfl w.heap.size 54 3 32 _ Try.underlying26 Try.infoCell rfl (by decide) (by decide) _ (putL (look xs) (ys.take k)).length _ rfl (hown.alloc _) (some ⟨_, 0, none⟩) 1 1 [.int .i64 ys[k].k, .string ys[k].s, .int .i64 ys[k].n] rfl (src_new _ #[.int .i64 ys[k].k, .string ys[k].s, .int .i64 ys[k].n] _ 3 rfl (by simp [Value.oneCell'])) (by omega) (Nat.le_trans hbl.size (by simp)) ?_; intro v' w3 hown3 _ hb3)
        go_round
        case rel => exact ⟨k + 1, by omega, by go_num, by rw [HS.out, HC.out, flat_append, List.length_append]; exact hown3, by rw [HS.out, HC.out]; intro c hc; rcases List.mem_append.1 hc with hc | hc; exact HF.out c hc; (simp at hc; subst hc; exact hf), (hbl.new _).trans hb3⟩
        case measure => simp [intOf]; omega
    · have HL : Hid (ys.take k = ys) := List.take_of_length_le (by omega)
      obtain ⟨a2, cap2, rfl, hrow⟩ := own_new hown HF.out
      rw [HL.out] at hrow ⊢
      clear hown HF
      go_wp2
      go_ret
      exact ⟨a2, cap2, rfl, hrow, hbl⟩
end Go.Proofs.Ytefnmjoapmnkbaa
namespace Go.Proofs.Ytefnmjoapmnkbaa
open Go.RowKit

def apB (s : List Bnd) (t : List Cel) : Bool := decide (((putL (look s) t).length : Int) ≤ 200)
def apL (s : List Bnd) (t : List Cel) : List Cel := if apB s t then putL (look s) t else []
theorem apL_yes {s : List Bnd} {t : List Cel} (h : apB s t = true) : apL s t = putL (look s) t := by unfold apL; rw [if_pos h]
theorem apL_no {s : List Bnd} {t : List Cel} (h : apB s t = false) : apL s t = [] := by unfold apL; rw [if_neg (by simp [h])]

set_option maxHeartbeats 800000 in
theorem refapply_any (a : Option Addr) (cap : Nat) (a' : Option Addr) (cap' : Nat) (w : World) (xs : List Bnd) (ys : List Cel) (hx : Row w a cap xs) (hy : Row w a' cap' ys) (hT : ∀ b ∈ xs, b.t.length ≤ 1000) (hl : ys.length ≤ 10000) :
    Calls Try.prog 37 #[.slice a xs.length cap, .slice a' ys.length cap'] w fun e w' => ∃ a2 cap2, e = .returned (.tuple #[.slice a2 (apL xs ys).length cap2, .bool (apB xs ys)]) ∧ NewRow w.heap.size w' a2 cap2 (apL xs ys) ∧ Below w.heap.size w w' := by
  have HT := mkHid hT
  clear hT
  cases h : apB xs ys with
  | true =>
    have H1 := mkHid (apL_yes h)
    have h2 : ((putL (look xs) ys).length : Int) ≤ 200 := by simpa [apB] using h
    clear h
    rw [H1.out]
    go_enter Try.func37, Try.ntmps37
    go_wp2_with (go_at_call 82; refine (refput_any _ cap _ cap' _ xs ys hx hy HT.out hl).mono ?_; rintro e w2 ⟨a2, cap2, rfl, hr2, hb2⟩)
    go_ret2
    exact ⟨_, _, rfl, hr2, hb2⟩
  | false =>
    have H1 := mkHid (apL_no h)
    have h2 : 200 < ((putL (look xs) ys).length : Int) := by simpa [apB] using h
    clear h
    rw [H1.out]
    go_enter Try.func37, Try.ntmps37
    go_wp2_with (go_at_call 82; refine (refput_any _ cap _ cap' _ xs ys hx hy HT.out hl).mono ?_; rintro e w2 ⟨a2, cap2, rfl, hr2, hb2⟩)
    go_ret2
    exact ⟨_, _, rfl, NewRow.empty _ _ _ _ (by omega) (fun _ => rfl), hb2⟩
end Go.Proofs.Ytefnmjoapmnkbaa
namespace Go.Proofs.Ytefnmjoapmnkbaa
open Go.RowKit

theorem Try.infoBind : (Try.prog.info? 57).map (fun i => (i.zero, i.size, i.bytes)) = some (some (.agg #[.int .i64 0, .slice none 0 0]), 2, 32) := by kernel_rfl

def compAt (a b : List Bnd) (v : Int) : Option (List Cel) := match look a v with
  | some t => some (putL (look b) t)
  | none => look b v
def compOut (a b : List Bnd) (v : Int) : List Bnd := match compAt a b v with
  | some t => if ownR v t then [] else [⟨v, t⟩]
  | none => []
def compUp (a b : List Bnd) (k : Nat) : List Bnd := (List.range k).flatMap fun (v : Nat) => compOut a b (v : Int)
def fitAt (a b : List Bnd) (v : Int) : Bool := match look a v with
  | some t => apB b t
  | none => true
def compB (a b : List Bnd) : Bool := (List.range 1000).all fun (v : Nat) => fitAt a b (v : Int)
def compL (a b : List Bnd) : List Bnd := if compB a b then compUp a b 1000 else []
theorem compUp_succ (a b : List Bnd) (k : Nat) : compUp a b (k + 1) = compUp a b k ++ compOut a b (k : Int) := by
  unfold compUp; rw [List.range_succ, List.flatMap_append]; simp
theorem compUp_le (a b : List Bnd) (k : Nat) : (compUp a b k).length ≤ k := by
  induction k with
  | zero => simp [compUp]
  | succ k ih =>
    rw [compUp_succ, List.length_append]
    have : (compOut a b (k : Int)).length ≤ 1 := by
      unfold compOut
      split
      · split <;> simp
      · simp
    omega
theorem fit_next {a b : List Bnd} {k : Nat} (h : (List.range k).all (fun (v : Nat) => fitAt a b (v : Int)) = true) (hk : fitAt a b (k : Int) = true) : (List.range (k + 1)).all (fun (v : Nat) => fitAt a b (v : Int)) = true := by
  rw [List.range_succ, List.all_append, h]; simp [hk]
theorem fit_bad {a b : List Bnd} {k : Nat} (hk : k < 1000) (h : fitAt a b (k : Int) = false) : compB a b = false := by
  unfold compB; rw [List.all_eq_false]; exact ⟨k, List.mem_range.2 hk, by simp [h]⟩

theorem comp_stay {a b : List Bnd} {k : Nat} (h : compOut a b (k : Int) = []) : compUp a b (k + 1) = compUp a b k := by rw [compUp_succ, h, List.append_nil]

structure CompInv (w : World) (xs ys : List Bnd) (k : Nat) (v : Value) (wr : World) : Prop where
  ex : ∃ vs, wr.ownsRow w.heap.size 57 2 v (compUp xs ys k).length vs ∧ CRows (hide v.ownBlock wr) vs (compUp xs ys k)
  fit : (List.range k).all (fun (v : Nat) => fitAt xs ys (v : Int)) = true
theorem CompInv.below {w : World} {xs ys : List Bnd} {k : Nat} {v : Value} {wr w2 : World} (h : CompInv w xs ys k v wr) (hb : Below wr.heap.size wr w2) : CompInv w xs ys k v w2 :=
  let ⟨vs, ho, hc⟩ := h.ex
  ⟨⟨vs, own_below ho hb, hc.keeps (below_hide hb _)⟩, h.fit⟩
theorem CompInv.lt {w : World} {xs ys : List Bnd} {k : Nat} {v : Value} {wr : World} (h : CompInv w xs ys k v wr) : ∀ g, v.ownBlock = some g → g < wr.heap.size :=
  let ⟨_, ho, _⟩ := h.ex; fun g hg => (ho.lt g hg).2
theorem CompInv.stay {w : World} {xs ys : List Bnd} {k : Nat} {v : Value} {wr : World} (h : CompInv w xs ys k v wr) (he : compOut xs ys (k : Int) = []) (hf : fitAt xs ys (k : Int) = true) : CompInv w xs ys (k + 1) v wr :=
  let ⟨vs, ho, hc⟩ := h.ex
  ⟨⟨vs, by rw [comp_stay he]; exact ho, by rw [comp_stay he]; exact hc⟩, fit_next h.fit hf⟩

end Go.Proofs.Ytefnmjoapmnkbaa
namespace Go.Proofs.Ytefnmjoapmnkbaa
open Go.RowKit

/-- how a value reads that is held as it stands -/
def heldElem (v : Value) : Option (DataW Value × List MemPlace) := some (.held v, [])
/-- block b of w is a map from int to values of at most n entries -/
structure MapV (P : Program) (k : TypeId) (w : World) (b n : Nat) (f : Int → Option Value) : Prop where
  ex : ∃ D : DataW Value, w.ownsMap P k heldElem b n D ∧ ∀ i, (Lit.int .i64 i).wf = true → Go.Maps.has D (.int .i64 i) = (f i).isSome ∧ ∀ z, D.atKey (.int .i64 i) (.held z) = .held ((f i).getD z)
section
variable {P : Program} {k e t : TypeId} {w w' : World} {b n : Nat} {f : Int → Option Value}
theorem MapV.made (P : Program) (k : TypeId) (w : World) : MapV P k (w.alloc (.map #[] 0)) w.heap.size 0 (fun _ => none) :=
  ⟨.map [], World.ownsMap_made w P k _, fun _ _ => ⟨rfl, fun _ => rfl⟩⟩
theorem MapV.lt (h : MapV P k w b n f) : b < w.heap.size := let ⟨_, h, _⟩ := h.ex; h.lt
theorem MapV.kept {row : Option Nat} (h : MapV P k w b n f) (hg : w.grownBy w' row) (hne : some b ≠ row) : MapV P k w' b n f :=
  let ⟨D, h, hf⟩ := h.ex; ⟨D, h.kept hg hne, hf⟩
theorem MapV.below (h : MapV P k w b n f) (hb : Below w.heap.size w w') : MapV P k w' b n f :=
  h.kept (row := none) ⟨hb.os, hb.tape, hb.output, hb.size, fun k hk _ => hb.block k hk⟩ (by simp)
theorem MapV.alloc (h : MapV P k w b n f) (o : Obj) : MapV P k (w.alloc o) b n f := let ⟨D, h, hf⟩ := h.ex; ⟨D, h.alloc o, hf⟩
theorem MapV.mono {m : Nat} (h : MapV P k w b n f) (hm : n ≤ m) : MapV P k w b m f := let ⟨D, h, hf⟩ := h.ex; ⟨D, h.mono hm, hf⟩
theorem MapV.put_at {D : DataW Value} (hD : Go.Maps.IsMap D) (hf : ∀ i, (Lit.int .i64 i).wf = true → Go.Maps.has D (.int .i64 i) = (f i).isSome ∧ ∀ z, D.atKey (.int .i64 i) (.held z) = .held ((f i).getD z)) (i : Int) (x : Value) :
    ∀ j, (Lit.int .i64 j).wf = true → Go.Maps.has (D.put (.int .i64 i) (.held x)) (.int .i64 j) = (if j = i then some x else f j).isSome ∧ ∀ z, (D.put (.int .i64 i) (.held x)).atKey (.int .i64 j) (.held z) = .held ((if j = i then some x else f j).getD z) := by
  intro j hj
  by_cases e : j = i
  · subst e
    rw [if_pos rfl]
    exact ⟨Go.Maps.has_put_same hD (by simp [WideAt.IsKeyLit]) _, fun z => Go.Maps.atKey_put_same hD (by simp [WideAt.IsKeyLit]) _ _⟩
  · rw [if_neg e]
    obtain ⟨h1, h2⟩ := hf j hj
    exact ⟨by rw [← h1]; exact Go.Maps.has_put_other (by simp; exact e) _, fun z => by rw [← h2 z]; exact Go.Maps.atKey_put_other (by simp; exact e) _ _⟩
theorem MapV.run_ok (h : MapV P k w b n f) (hk : P.underlying k = some (.int .i64)) (ht : P.underlying t = some (.map k e)) {z : Value} (hz : (zeroValue e).run P w = .ok z w)
    {i : Int} (hi : (Lit.int .i64 i).wf = true) : (Instr.lookup t (.map (some b)) (.int .i64 i) true).run P w = .ok (.tuple #[(f i).getD z, .bool (f i).isSome]) w := by
  obtain ⟨D, h, hf⟩ := h.ex
  obtain ⟨v, ps, hrun, hv⟩ := h.look_ok (Go.Maps.int_keyed hk) ht hz (zd := .held z) (zp := []) rfl (Go.Maps.keyOf_int_mk hk hi)
  rw [(hf i hi).1] at hrun
  rw [(hf i hi).2 z] at hv
  unfold heldElem at hv
  simp at hv
  rw [hrun, hv.1]
theorem MapV.run_look (h : MapV P k w b n f) (hk : P.underlying k = some (.int .i64)) (ht : P.underlying t = some (.map k e)) {z : Value} (hz : (zeroValue e).run P w = .ok z w)
    {i : Int} (hi : (Lit.int .i64 i).wf = true) : (Instr.lookup t (.map (some b)) (.int .i64 i) false).run P w = .ok ((f i).getD z) w := by
  obtain ⟨D, h, hf⟩ := h.ex
  obtain ⟨v, ps, hrun, hv⟩ := h.lookup (Go.Maps.int_keyed hk) ht hz (zd := .held z) (zp := []) rfl (Go.Maps.keyOf_int_mk hk hi)
  rw [(hf i hi).2 z] at hv
  unfold heldElem at hv
  simp at hv
  rw [hrun, hv.1]
theorem MapV.wpl_ok {ops : Array Oper} {rest : List Oper} {o : Oper} {a : Act} {Q : Exit → Act → World → Prop}
    (hg : o.guard = none) (m x : Operand) (hop : o.op = Op.lookup t m x true)
    (hk : P.underlying k = some (.int .i64)) (ht : P.underlying t = some (.map k e)) {z : Value} (hz : (zeroValue e).run P w = .ok z w)
    (hm : a.eval m = .map (some b)) (h : MapV P k w b n f) (i : Int) (hx : a.eval x = .int .i64 i) (hi : (Lit.int .i64 i).wf = true)
    (hK : wpList P ops Q rest (a.put o.dst (.tuple #[(f i).getD z, .bool (f i).isSome])) w) :
    wpList P ops Q (o :: rest) a w := by
  refine wpList_plain hg fun K' hK' => ?_
  unfold Oper.wp
  simp only [execOp, hop, hm, hx, Sem.run_bind, h.run_ok hk ht hz hi, Result.andThen_ok, Sem.run_pure]
  exact hK' _ _ hK
theorem MapV.wpl_look {ops : Array Oper} {rest : List Oper} {o : Oper} {a : Act} {Q : Exit → Act → World → Prop}
    (hg : o.guard = none) (m x : Operand) (hop : o.op = Op.lookup t m x false)
    (hk : P.underlying k = some (.int .i64)) (ht : P.underlying t = some (.map k e)) {z : Value} (hz : (zeroValue e).run P w = .ok z w)
    (hm : a.eval m = .map (some b)) (h : MapV P k w b n f) (i : Int) (hx : a.eval x = .int .i64 i) (hi : (Lit.int .i64 i).wf = true)
    (hK : wpList P ops Q rest (a.put o.dst ((f i).getD z)) w) :
    wpList P ops Q (o :: rest) a w := by
  refine wpList_plain hg fun K' hK' => ?_
  unfold Oper.wp
  simp only [execOp, hop, hm, hx, Sem.run_bind, h.run_look hk ht hz hi, Result.andThen_ok, Sem.run_pure]
  exact hK' _ _ hK
theorem MapV.wpl_update {ops : Array Oper} {rest : List Oper} {o : Oper} {a : Act} {Q : Exit → Act → World → Prop}
    (hg : o.guard = none) (m x y : Operand) (hop : o.op = Op.mapUpdate t m x y)
    (hk : P.underlying k = some (.int .i64)) (ht : P.underlying t = some (.map k e))
    (hm : a.eval m = .map (some b)) (h : MapV P k w b n f) (hn : n < 9223372036854775807) (i : Int) (hx : a.eval x = .int .i64 i) (hi : (Lit.int .i64 i).wf = true) (z : Value) (hy : a.eval y = z)
    (hK : ∀ w', MapV P k w' b (n + 1) (fun j => if j = i then some z else f j) → w.grownBy w' (some b) → wpList P ops Q rest (a.put o.dst undef) w') :
    wpList P ops Q (o :: rest) a w := by
  obtain ⟨D, h, hf⟩ := h.ex
  refine wpList_mapUpdate_own w hg m x y t hop k e (Go.Maps.int_keyed hk) ht _ b n D hm h (by unfold maxLen; omega) _ _ _ hx hy (Go.Maps.keyOf_int_mk hk hi) (.held z) [] rfl ?_
  intro w' h' hg'
  exact hK w' ⟨_, h', MapV.put_at h.isMap hf i z⟩ hg'
end
end Go.Proofs.Ytefnmjoapmnkbaa
namespace Go.Proofs.Ytefnmjoapmnkbaa
open Go.RowKit

def keptL (s : List Bnd) (vars : List Int) : List Bnd := s.filter fun b => decide (b.v ∈ vars)
theorem keep_yes {xs : List Bnd} {vars : List Int} {k : Nat} (hk : k < xs.length) (h : xs[k].v ∈ vars) : keptL (xs.take (k + 1)) vars = keptL (xs.take k) vars ++ [xs[k]] := by
  unfold keptL; rw [List.take_succ_eq_append_getElem hk, List.filter_append]; simp [h]
theorem keep_no {xs : List Bnd} {vars : List Int} {k : Nat} (hk : k < xs.length) (h : xs[k].v ∉ vars) : keptL (xs.take (k + 1)) vars = keptL (xs.take k) vars := by
  unfold keptL; rw [List.take_succ_eq_append_getElem hk, List.filter_append]; simp [h]
theorem keep_le (xs : List Bnd) (vars : List Int) : (keptL xs vars).length ≤ xs.length := List.length_filter_le _ _

end Go.Proofs.Ytefnmjoapmnkbaa
namespace Go.Proofs.Ytefnmjoapmnkbaa
open Go.RowKit

theorem clone_new (n : Nat) (a : Option Addr) (cap : Nat) (w : World) (xs : List Cel) (hn : n = xs.length) (hx : Row w a cap xs) (hl : xs.length ≤ 1000000) :
    Calls Try.prog 147 #[.slice a n cap] w fun e w' => ∃ a2 cap2, e = .returned (.slice a2 xs.length cap2) ∧ NewRow w.heap.size w' a2 cap2 xs ∧ Below w.heap.size w w' :=
  (clone_any' n a cap w xs hn hx hl).mono fun e w' ⟨v, he, ho, hb⟩ => by
    obtain ⟨a2, cap2, rfl, hr⟩ := own_new ho hx.fit
    exact ⟨a2, cap2, he, hr, hb⟩

theorem set2_grown (B : Nat) (w : World) (x y : Value) : w.grownBy ((w.setCell ⟨B, 0, none⟩ x).setCell ⟨B, 1, none⟩ y) (some B) :=
  (grown_set w B 0 x).trans (grown_set _ B 1 y)
theorem set2 (B : Nat) (w : World) (x y : Value) : Below B w ((w.setCell ⟨B, 0, none⟩ x).setCell ⟨B, 1, none⟩ y) := ((Below.refl B w).setCell (Nat.le_refl _) _).setCell (Nat.le_refl _) _

end Go.Proofs.Ytefnmjoapmnkbaa
set_option linter.unusedVariables false
namespace Go.Proofs.Ytefnmjoapmnkbaa
open Go.RowKit

theorem set3_grown (B : Nat) (w : World) (x y z : Value) : w.grownBy (((w.setCell ⟨B, 0, none⟩ x).setCell ⟨B, 1, none⟩ y).setCell ⟨B, 2, none⟩ z) (some B) :=
  ((grown_set w B 0 x).trans (grown_set _ B 1 y)).trans (grown_set _ B 2 z)
theorem set3 (B : Nat) (w : World) (x y z : Value) : Below B w (((w.setCell ⟨B, 0, none⟩ x).setCell ⟨B, 1, none⟩ y).setCell ⟨B, 2, none⟩ z) := (((Below.refl B w).setCell (Nat.le_refl _) _).setCell (Nat.le_refl _) _).setCell (Nat.le_refl _) _

set_option maxHeartbeats 800000 in
theorem mark_any (a : Option Addr) (n cap : Nat) (a' : Option Addr) (n' cap' : Nat) (r : Int) (ra : Option Addr) (rc : Nat) (w : World) (xs : List Int) (hx : Row w ra rc xs) (hl : xs.length ≤ 1000000) :
    Calls Try.prog 26 #[hv a n cap a' n' cap' r, .slice ra xs.length rc] w fun e w' => ∃ a2 cap2, e = .returned (.agg #[.int .i64 n, .int .i64 n', .slice a2 xs.length cap2]) ∧ NewRow w.heap.size w' a2 cap2 xs ∧ Below w.heap.size w w' := by
  have hb1 := ((Below.refl w.heap.size w).new (.cells #[.slice a n cap, .slice a' n' cap', .int .i64 r] 25)).new (.cells #[.int .i64 0, .int .i64 0, .slice none 0 0] 43)
  have e0 : ((w.alloc (.cells #[.slice a n cap, .slice a' n' cap', .int .i64 r] 25)).alloc (.cells #[.int .i64 0, .int .i64 0, .slice none 0 0] 43)).cell? ⟨w.heap.size, 0, none⟩ = some (.slice a n cap) := keep (World.cell?_alloc_at _ _ w.heap.size 0 rfl) ((Below.refl _ _).new _)
  have e1 : ((w.alloc (.cells #[.slice a n cap, .slice a' n' cap', .int .i64 r] 25)).alloc (.cells #[.int .i64 0, .int .i64 0, .slice none 0 0] 43)).cell? ⟨w.heap.size, 1, none⟩ = some (.slice a' n' cap') := keep (World.cell?_alloc_at _ _ w.heap.size 1 rfl) ((Below.refl _ _).new _)
  have f2 : ((w.alloc (.cells #[.slice a n cap, .slice a' n' cap', .int .i64 r] 25)).alloc (.cells #[.int .i64 0, .int .i64 0, .slice none 0 0] 43)).cell? ⟨w.heap.size + 1, 0, none⟩ = some (.int .i64 0) := World.cell?_alloc_at _ _ _ 0 (by simp)
  have f3 : ((w.alloc (.cells #[.slice a n cap, .slice a' n' cap', .int .i64 r] 25)).alloc (.cells #[.int .i64 0, .int .i64 0, .slice none 0 0] 43)).cell? ⟨w.heap.size + 1, 1, none⟩ = some (.int .i64 0) := World.cell?_alloc_at _ _ _ 1 (by simp)
  have f4 : ((w.alloc (.cells #[.slice a n cap, .slice a' n' cap', .int .i64 r] 25)).alloc (.cells #[.int .i64 0, .int .i64 0, .slice none 0 0] 43)).cell? ⟨w.heap.size + 1, 2, none⟩ = some (.slice none 0 0) := World.cell?_alloc_at _ _ _ 2 (by simp)
  have z2 : ((w.alloc (.cells #[.slice a n cap, .slice a' n' cap', .int .i64 r] 25)).alloc (.cells #[.int .i64 0, .int .i64 0, .slice none 0 0] 43)).frozen? ⟨w.heap.size + 1, 0, none⟩ = false := by simp [go_sem]
  have z3 : ((w.alloc (.cells #[.slice a n cap, .slice a' n' cap', .int .i64 r] 25)).alloc (.cells #[.int .i64 0, .int .i64 0, .slice none 0 0] 43)).frozen? ⟨w.heap.size + 1, 1, none⟩ = false := by simp [go_sem]
  have z4 : ((w.alloc (.cells #[.slice a n cap, .slice a' n' cap', .int .i64 r] 25)).alloc (.cells #[.int .i64 0, .int .i64 0, .slice none 0 0] 43)).frozen? ⟨w.heap.size + 1, 2, none⟩ = false := by simp [go_sem]
  go_enter Try.func26, Try.ntmps26
  go_wp2
  obtain ⟨W, hW⟩ : ∃ W, (w.alloc (.cells #[.slice a n cap, .slice a' n' cap', .int .i64 r] 25)).alloc (.cells #[.int .i64 0, .int .i64 0, .slice none 0 0] 43) = W := ⟨_, rfl⟩
  have hsz : W.heap.size = w.heap.size + 2 := by rw [← hW]; simp
  rw [hW] at e0 e1 f2 f3 f4 z2 z3 z4 hb1 ⊢
  have HSZ := mkHid hsz
  clear hW hsz
  have hxW : Row W.drew ra rc xs := (hx.below hb1).below (Below.refl _ _).drew
  have hdr : Below w.heap.size w W.drew := hb1.trans (Below.refl _ _).drew
  go_region_held3 (fun w' => Below w.heap.size w w' ∧ w'.cell? ⟨w.heap.size, 0, none⟩ = some (.slice a n cap) ∧ w'.cell? ⟨w.heap.size, 1, none⟩ = some (.slice a' n' cap'))
    (first
      | exact ⟨hdr, e0, e1⟩
      | exact ⟨hdr.then hb2, keep (w := W.drew) e0 hb2, keep (w := W.drew) e1 hb2⟩
      | exact ⟨(hdr.then hb2).trans ((set3 (w.heap.size + 1) _ _ _ _).mono (Nat.le_succ _)), ((set3 (w.heap.size + 1) _ _ _ _).cell (p := ⟨w.heap.size, 0, none⟩) (Nat.lt_succ_self _)).trans (keep (w := W.drew) e0 hb2), ((set3 (w.heap.size + 1) _ _ _ _).cell (p := ⟨w.heap.size, 1, none⟩) (Nat.lt_succ_self _)).trans (keep (w := W.drew) e1 hb2)⟩)
    (first | (go_at_call 64; refine (cloneI_new _ ra rc _ xs rfl hxW hl).mono ?_; rintro e w2 ⟨a2, cap2, rfl, hn2, hb2⟩; have g2 := keep (w := W.drew) f2 hb2; have g3 := keep (w := W.drew) f3 hb2; have g4 := keep (w := W.drew) f4 hb2; have y2 : w2.frozen? ⟨w.heap.size + 1, 0, none⟩ = false := (hb2.frozen (p := ⟨w.heap.size + 1, 0, none⟩) (by have := HSZ.out; simp; omega)).trans z2; have y3 : w2.frozen? ⟨w.heap.size + 1, 1, none⟩ = false := (hb2.frozen (p := ⟨w.heap.size + 1, 1, none⟩) (by have := HSZ.out; simp; omega)).trans z3; have y4 : w2.frozen? ⟨w.heap.size + 1, 2, none⟩ = false := (hb2.frozen (p := ⟨w.heap.size + 1, 2, none⟩) (by have := HSZ.out; simp; omega)).trans z4))
  go_wp2
  exact bodyPost_ret (v := .agg #[.int .i64 n, .int .i64 n', .slice a2 xs.length cap2]) (by simp [results, Try.results26, go_sem, g2, g3, g4]) rfl ⟨a2, cap2, rfl, (hn2.grown (set3_grown (w.heap.size + 1) _ _ _ _) (fun g e => by cases e; have := HSZ.out; simp; omega)).mono (by have := HSZ.out; simp; omega), by rename_i hh; exact hh.1⟩
end Go.Proofs.Ytefnmjoapmnkbaa
set_option linter.unusedVariables false
namespace Go.Proofs.Ytefnmjoapmnkbaa
open Go.RowKit

set_option maxHeartbeats 1600000 in
theorem hcopied_any (a : Option Addr) (cap : Nat) (a' : Option Addr) (cap' : Nat) (r : Int) (w : World) (xs : List Cel) (ts : List Int) (hx : Row w a cap xs) (ht : Row w a' cap' ts) (hl : xs.length ≤ 1000000) (hl2 : ts.length ≤ 1000000) :
    Calls Try.prog 60 #[hv a xs.length cap a' ts.length cap' r] w fun e w' => ∃ a2 cap2 a3 cap3, e = .returned (hv a2 xs.length cap2 a3 ts.length cap3 r) ∧ NewRow w.heap.size w' a2 cap2 xs ∧ NewRow w.heap.size w' a3 cap3 ts ∧ Below w.heap.size w w' := by
  have hb1 := ((Below.refl w.heap.size w).new (.cells #[.slice a xs.length cap, .slice a' ts.length cap', .int .i64 r] 25)).new (.cells #[.slice none 0 0, .slice none 0 0, .int .i64 0] 25)
  have e0 : ((w.alloc (.cells #[.slice a xs.length cap, .slice a' ts.length cap', .int .i64 r] 25)).alloc (.cells #[.slice none 0 0, .slice none 0 0, .int .i64 0] 25)).cell? ⟨w.heap.size, 0, none⟩ = some (.slice a xs.length cap) := keep (World.cell?_alloc_at _ _ w.heap.size 0 rfl) ((Below.refl _ _).new _)
  have e1 : ((w.alloc (.cells #[.slice a xs.length cap, .slice a' ts.length cap', .int .i64 r] 25)).alloc (.cells #[.slice none 0 0, .slice none 0 0, .int .i64 0] 25)).cell? ⟨w.heap.size, 1, none⟩ = some (.slice a' ts.length cap') := keep (World.cell?_alloc_at _ _ w.heap.size 1 rfl) ((Below.refl _ _).new _)
  have e2 : ((w.alloc (.cells #[.slice a xs.length cap, .slice a' ts.length cap', .int .i64 r] 25)).alloc (.cells #[.slice none 0 0, .slice none 0 0, .int .i64 0] 25)).cell? ⟨w.heap.size, 2, none⟩ = some (.int .i64 r) := keep (World.cell?_alloc_at _ _ w.heap.size 2 rfl) ((Below.refl _ _).new _)
  have f2 : ((w.alloc (.cells #[.slice a xs.length cap, .slice a' ts.length cap', .int .i64 r] 25)).alloc (.cells #[.slice none 0 0, .slice none 0 0, .int .i64 0] 25)).cell? ⟨w.heap.size + 1, 0, none⟩ = some (.slice none 0 0) := World.cell?_alloc_at _ _ _ 0 (by simp)
  have f3 : ((w.alloc (.cells #[.slice a xs.length cap, .slice a' ts.length cap', .int .i64 r] 25)).alloc (.cells #[.slice none 0 0, .slice none 0 0, .int .i64 0] 25)).cell? ⟨w.heap.size + 1, 1, none⟩ = some (.slice none 0 0) := World.cell?_alloc_at _ _ _ 1 (by simp)
  have f4 : ((w.alloc (.cells #[.slice a xs.length cap, .slice a' ts.length cap', .int .i64 r] 25)).alloc (.cells #[.slice none 0 0, .slice none 0 0, .int .i64 0] 25)).cell? ⟨w.heap.size + 1, 2, none⟩ = some (.int .i64 0) := World.cell?_alloc_at _ _ _ 2 (by simp)
  have z2 : ((w.alloc (.cells #[.slice a xs.length cap, .slice a' ts.length cap', .int .i64 r] 25)).alloc (.cells #[.slice none 0 0, .slice none 0 0, .int .i64 0] 25)).frozen? ⟨w.heap.size + 1, 0, none⟩ = false := by simp [go_sem]
  have z3 : ((w.alloc (.cells #[.slice a xs.length cap, .slice a' ts.length cap', .int .i64 r] 25)).alloc (.cells #[.slice none 0 0, .slice none 0 0, .int .i64 0] 25)).frozen? ⟨w.heap.size + 1, 1, none⟩ = false := by simp [go_sem]
  have z4 : ((w.alloc (.cells #[.slice a xs.length cap, .slice a' ts.length cap', .int .i64 r] 25)).alloc (.cells #[.slice none 0 0, .slice none 0 0, .int .i64 0] 25)).frozen? ⟨w.heap.size + 1, 2, none⟩ = false := by simp [go_sem]
  go_enter Try.func60, Try.ntmps60
  go_wp2
  obtain ⟨W, hW⟩ : ∃ W, (w.alloc (.cells #[.slice a xs.length cap, .slice a' ts.length cap', .int .i64 r] 25)).alloc (.cells #[.slice none 0 0, .slice none 0 0, .int .i64 0] 25) = W := ⟨_, rfl⟩
  have hsz : W.heap.size = w.heap.size + 2 := by rw [← hW]; simp
  rw [hW] at e0 e1 e2 f2 f3 f4 z2 z3 z4 hb1 ⊢
  have HSZ := mkHid hsz
  clear hW hsz
  have hxW : Row W.drew a cap xs := (hx.below hb1).below (Below.refl _ _).drew
  have htW : Row W.drew a' cap' ts := (ht.below hb1).below (Below.refl _ _).drew
  have hdr : Below w.heap.size w W.drew := hb1.trans (Below.refl _ _).drew
  go_region_held3 (fun w' => Below w.heap.size w w' ∧ w'.cell? ⟨w.heap.size, 0, none⟩ = some (.slice a xs.length cap) ∧ w'.cell? ⟨w.heap.size, 1, none⟩ = some (.slice a' ts.length cap') ∧ w'.cell? ⟨w.heap.size, 2, none⟩ = some (.int .i64 r))
    (first
      | exact ⟨hdr, e0, e1, e2⟩
      | exact ⟨hdr.then hb2, keep (w := W.drew) e0 hb2, keep (w := W.drew) e1 hb2, keep (w := W.drew) e2 hb2⟩
      | exact ⟨(hdr.then hb2).then hb3, keep (keep (w := W.drew) e0 hb2) hb3, keep (keep (w := W.drew) e1 hb2) hb3, keep (keep (w := W.drew) e2 hb2) hb3⟩
      | exact ⟨((hdr.then hb2).then hb3).trans ((set3 (w.heap.size + 1) _ _ _ _).mono (Nat.le_succ _)), ((set3 (w.heap.size + 1) _ _ _ _).cell (p := ⟨w.heap.size, 0, none⟩) (Nat.lt_succ_self _)).trans (keep (keep (w := W.drew) e0 hb2) hb3), ((set3 (w.heap.size + 1) _ _ _ _).cell (p := ⟨w.heap.size, 1, none⟩) (Nat.lt_succ_self _)).trans (keep (keep (w := W.drew) e1 hb2) hb3), ((set3 (w.heap.size + 1) _ _ _ _).cell (p := ⟨w.heap.size, 2, none⟩) (Nat.lt_succ_self _)).trans (keep (keep (w := W.drew) e2 hb2) hb3)⟩)
    (first
      | (go_at_call 61; refine (cloneS_new _ a cap _ xs rfl hxW hl).mono ?_; rintro e w2 ⟨a2, cap2, rfl, hn2, hb2⟩; have k2 : W.drew.heap.size = w.heap.size + 2 := HSZ.out; have HK2 := mkHid k2; clear k2)
      | (go_at_call 64; refine (cloneI_new _ a' cap' _ ts rfl (htW.below hb2) hl2).mono ?_; rintro e w3 ⟨a3, cap3, rfl, hn3, hb3⟩; have g2 := keep (keep (w := W.drew) f2 hb2) hb3; have g3 := keep (keep (w := W.drew) f3 hb2) hb3; have g4 := keep (keep (w := W.drew) f4 hb2) hb3; have HS2 : Hid (w.heap.size + 1 < w2.heap.size) := (by have := hb2.size; have := HSZ.out; show w.heap.size + 1 < w2.heap.size; have h9 : W.drew.heap.size = W.heap.size := rfl; omega); have y2 : w3.frozen? ⟨w.heap.size + 1, 0, none⟩ = false := (hb3.frozen (p := ⟨w.heap.size + 1, 0, none⟩) HS2.out).trans ((hb2.frozen (p := ⟨w.heap.size + 1, 0, none⟩) (by have := HSZ.out; simp; omega)).trans z2); have y3 : w3.frozen? ⟨w.heap.size + 1, 1, none⟩ = false := (hb3.frozen (p := ⟨w.heap.size + 1, 1, none⟩) HS2.out).trans ((hb2.frozen (p := ⟨w.heap.size + 1, 1, none⟩) (by have := HSZ.out; simp; omega)).trans z3); have y4 : w3.frozen? ⟨w.heap.size + 1, 2, none⟩ = false := (hb3.frozen (p := ⟨w.heap.size + 1, 2, none⟩) HS2.out).trans ((hb2.frozen (p := ⟨w.heap.size + 1, 2, none⟩) (by have := HSZ.out; simp; omega)).trans z4)))
  go_wp2
  refine bodyPost_ret (v := hv a2 xs.length cap2 a3 ts.length cap3 r) (by simp [results, Try.results60, go_sem, g2, g3, g4]) rfl ⟨a2, cap2, a3, cap3, rfl, ?_, ?_, by rename_i hh; exact hh.1⟩
  · exact ((hn2.below hb3).grown (set3_grown (w.heap.size + 1) _ _ _ _) (fun g e => by cases e; have := HSZ.out; simp; omega)).mono (by have := HSZ.out; simp; omega)
  · exact (hn3.grown (set3_grown (w.heap.size + 1) _ _ _ _) (fun g e => by cases e; have := HS2.out; omega)).mono (by have := HS2.out; omega)
end Go.Proofs.Ytefnmjoapmnkbaa
set_option linter.unusedVariables false
namespace Go.Proofs.Ytefnmjoapmnkbaa
open Go.RowKit

/-! ### a row of slots of the call's own, set in place -/
structure OwnS (B : Nat) (w : World) (g cap : Nat) (xs : List Cel) : Prop where
  hb : B ≤ g
  row : Row w (some ⟨g, 0, none⟩) cap xs
  cells : ∃ cur T, w.heap[g]? = some (.cells cur T)
section
variable {B g cap : Nat} {w w' : World} {xs : List Cel}
theorem OwnS.frozen (h : OwnS B w g cap xs) (o : Nat) : w.frozen? ⟨g, o, none⟩ = false := by
  obtain ⟨cur, T, hc⟩ := h.cells
  simp [World.frozen?, hc]
theorem OwnS.below (h : OwnS B w g cap xs) (hb : Below w.heap.size w w') : OwnS B w' g cap xs := by
  obtain ⟨cur, T, hc⟩ := h.cells
  exact ⟨h.hb, h.row.below hb, cur, T, by rw [hb.block g (Array.getElem?_eq_some_iff.1 hc).1]; exact hc⟩
theorem OwnS.set (h : OwnS B w g cap xs) {k : Nat} (hk : k < xs.length) {v : Int} (h1 : -9223372036854775808 ≤ v) (h2 : v ≤ 9223372036854775807) :
    OwnS B (w.setCell ⟨g, 0 + k * 3 + 2, none⟩ (.int .i64 v)) g cap (xs.set k ⟨xs[k].k, xs[k].s, v⟩) := by
  have hs3 : Rep.sz Cel = 3 := rfl
  obtain ⟨cur, T, hc⟩ := h.cells
  refine ⟨h.hb, ⟨by rw [List.length_set]; exact h.row.le, h.row.max, (fun e => by cases e), fun i x hi => ⟨g, 0, rfl, ?_⟩⟩, ?_⟩
  · have hil : i < xs.length := by
      have := (List.getElem?_eq_some_iff.1 hi).1
      rwa [List.length_set] at this
    obtain ⟨b, off, e, c0, c1, c2, hf⟩ := h.row.at_ i xs[i] (List.getElem?_eq_getElem hil)
    cases e
    by_cases he : i = k
    · subst he
      rw [List.getElem?_set_self hil] at hi
      cases hi
      refine ⟨?_, ?_, ?_, ⟨hf.k1, hf.k2, h1, h2, hf.s⟩⟩
      · rw [World.cell?_setCell_other _ _ _ _ (by intro e; simp only [Addr.mk.injEq, hs3] at e; omega)]; exact c0
      · rw [World.cell?_setCell_other _ _ _ _ (by intro e; simp only [Addr.mk.injEq, hs3] at e; omega)]; exact c1
      · exact World.cell?_setCell_same _ _ _ c2
    · rw [List.getElem?_set_ne (Ne.symm he), List.getElem?_eq_getElem hil] at hi
      cases hi
      refine ⟨?_, ?_, ?_, hf⟩
      · rw [World.cell?_setCell_other _ _ _ _ (by intro e; simp only [Addr.mk.injEq, hs3] at e; omega)]; exact c0
      · rw [World.cell?_setCell_other _ _ _ _ (by intro e; simp only [Addr.mk.injEq, hs3] at e; omega)]; exact c1
      · rw [World.cell?_setCell_other _ _ _ _ (by intro e; simp only [Addr.mk.injEq, hs3] at e; omega)]; exact c2
  · refine ⟨cur.set! (0 + k * 3 + 2) (.int .i64 v), T, ?_⟩
    simp only [World.setCell, Array.getElem?_modify, if_true, hc, Option.map_some]
    simp
end
theorem ownS_of {w : World} {B e : Nat} {v : Value} {xs : List Cel} (h : w.ownsRow B e 3 v xs.length (flat xs)) (hf : ∀ c ∈ xs, c.fit) (hne : 0 < xs.length) : ∃ g cap, v = .slice (some ⟨g, 0, none⟩) xs.length cap ∧ OwnS B w g cap xs := by
  have h' := own_rowG (α := Cel) h (crows_flat _ hf)
  rcases h.2 with ⟨rfl, hn⟩ | ⟨g, cap, cur, rfl, hb, hg, hn, hm, hsz, ht⟩
  · omega
  · obtain ⟨a, c, e1, hr⟩ := h'
    cases e1
    exact ⟨g, cap, rfl, hb, hr, cur, _, hg⟩
end Go.Proofs.Ytefnmjoapmnkbaa
