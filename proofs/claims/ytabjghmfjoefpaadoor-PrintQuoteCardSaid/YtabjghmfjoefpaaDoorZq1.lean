import Derived.Test.YtabjghmfjoefpaaDoorZr9
import Derived.Deep.RegionHeld3
import Derived.Deep.LoopGhost
import Derived.Laws.EntriesVeiled
namespace Go.Proofs.YtabjghmfjoefpaaDoor
open Go.RowKit

end Go.Proofs.YtabjghmfjoefpaaDoor
namespace Go.Proofs.YtabjghmfjoefpaaDoor
open Go.RowKit

/-- a block that stands whole -/
structure Res4 (w : World) (g : Nat) (a b c d : Value) : Prop where
  c0 : w.cell? ⟨g, 0, none⟩ = some a
  c1 : w.cell? ⟨g, 1, none⟩ = some b
  c2 : w.cell? ⟨g, 2, none⟩ = some c
  c3 : w.cell? ⟨g, 3, none⟩ = some d
  f0 : w.frozen? ⟨g, 0, none⟩ = false
  f1 : w.frozen? ⟨g, 1, none⟩ = false
  f2 : w.frozen? ⟨g, 2, none⟩ = false
  f3 : w.frozen? ⟨g, 3, none⟩ = false
theorem Res4.new (w : World) (a b c d : Value) (T : Nat) : Res4 (w.alloc (.cells #[a, b, c, d] T)) w.heap.size a b c d :=
  ⟨by simp [go_sem], by simp [go_sem], by simp [go_sem], by simp [go_sem], by simp [go_sem], by simp [go_sem], by simp [go_sem], by simp [go_sem]⟩
theorem Res4.below {w w' : World} {g : Nat} {a b c d : Value} (h : Res4 w g a b c d) (hb : Below w.heap.size w w') : Res4 w' g a b c d :=
  have hl := cell_lt h.c0
  ⟨keep h.c0 hb, keep h.c1 hb, keep h.c2 hb, keep h.c3 hb, (hb.frozen (p := ⟨g, 0, none⟩) hl).trans h.f0, (hb.frozen (p := ⟨g, 1, none⟩) hl).trans h.f1, (hb.frozen (p := ⟨g, 2, none⟩) hl).trans h.f2, (hb.frozen (p := ⟨g, 3, none⟩) hl).trans h.f3⟩
theorem below_set4 {w w1 : World} (h : Below w.heap.size w w1) {g : Nat} (hg : w.heap.size ≤ g) (a b c d : Value) :
    Below w.heap.size w ((((w1.setCell ⟨g, 0, none⟩ a).setCell ⟨g, 1, none⟩ b).setCell ⟨g, 2, none⟩ c).setCell ⟨g, 3, none⟩ d) :=
  (((h.setCell hg _).setCell hg _).setCell hg _).setCell hg _

end Go.Proofs.YtabjghmfjoefpaaDoor
namespace Go.Proofs.YtabjghmfjoefpaaDoor
open Go.RowKit

/-- a function that tells bytes, now and later -/
def TellsL (F : Nat) (caps : Array Value) (p : UInt8 → Bool) (w : World) : Prop := ∀ W, Below w.heap.size w W → Tells F caps p W
theorem TellsL.later {F : Nat} {caps : Array Value} {p : UInt8 → Bool} {w w' : World} (h : TellsL F caps p w) (hb : Below w.heap.size w w') : TellsL F caps p w' := fun W hW => h W (hb.then hW)
/-- what a box holds -/
structure IsFn (w : World) (B F : Nat) (caps : Array Value) (p : UInt8 → Bool) : Prop where
  cell : w.cell? ⟨B, 0, none⟩ = some (.func (.func F) #[] caps)
  ent : Enters F
  tells : TellsL F caps p w
theorem IsFn.later {w w' : World} {B F : Nat} {caps : Array Value} {p : UInt8 → Bool} (h : IsFn w B F caps p) (hb : Below w.heap.size w w') : IsFn w' B F caps p :=
  ⟨keep h.cell hb, h.ent, h.tells.later hb⟩

theorem size_pos_list {s : ByteArray} (h : 1 ≤ s.size) : ∃ c r, s.data.toList = c :: r ∧ s[0]'h = c := by
  have hd := drop_consB s 0 h
  rw [List.drop_zero] at hd
  exact ⟨_, _, hd, rfl⟩
def headP (p : UInt8 → Bool) : List UInt8 → Bool
  | [] => false
  | c :: _ => p c
end Go.Proofs.YtabjghmfjoefpaaDoor
namespace Go.Proofs.YtabjghmfjoefpaaDoor
open Go.RowKit

abbrev noTok : Value := .agg #[.int .i64 0, .string ⟨#[]⟩, .int .i64 0, .int .i64 0]
def stepV : Step → Value
  | .pass n => .tuple #[noTok, .int .i64 (n : Int), .int .i64 0]
  | .tok k t n len => .tuple #[.agg #[.int .i64 k, .string (mkB t), .int .i64 n, .int .i64 0], .int .i64 (len : Int), .int .i64 0]
  | .err e => .tuple #[noTok, .int .i64 0, .int .i64 e]
theorem ret_val {a b : Value} (h : a = b) : Ending.returned a = .returned b := by rw [h]
theorem mkB_take (s : ByteArray) (p : UInt8 → Bool) : s.extract 0 (span p s.data.toList) = mkB (s.data.toList.takeWhile p) := by
  rw [← take_span]
  apply ByteArray.ext
  simp [mkB, ByteArray.data_extract]
  rw [← Array.toList_inj]
  simp
theorem span_leS (p : UInt8 → Bool) (s : ByteArray) : span p s.data.toList ≤ s.size := by
  have := span_le p s.data.toList
  simpa using this
end Go.Proofs.YtabjghmfjoefpaaDoor
namespace Go.Proofs.YtabjghmfjoefpaaDoor
open Go.RowKit

end Go.Proofs.YtabjghmfjoefpaaDoor
namespace Go.Proofs.YtabjghmfjoefpaaDoor
open Go.RowKit

def fullP : List UInt8 → Bool
  | [] => false
  | c :: r => c == 46 && stopL r
theorem list_one {s : ByteArray} (h : s.size = 1) : s.data.toList = [s[0]] := by
  have hd := drop_consB s 0 (by omega)
  rw [List.drop_zero] at hd
  rw [hd, List.drop_of_length_le (by simp; omega)]
theorem list_two {s : ByteArray} (h : 1 < s.size) : s.data.toList = s[0] :: s[1] :: s.data.toList.drop 2 := by
  have hd := drop_consB s 0 (by omega)
  rw [List.drop_zero, drop_consB s (0 + 1) (by omega)] at hd
  exact hd
/-! ### numbers -/
def decFrom (n : Nat) (l : List UInt8) : Nat := l.foldl (fun n c => n * 10 + (c.toNat - 48)) n
theorem decFrom_le (l : List UInt8) : ∀ n, n ≤ decFrom n l := by
  induction l with
  | nil => intro n; exact Nat.le_refl _
  | cons c r ih => intro n; exact Nat.le_trans (by omega) (ih (n * 10 + (c.toNat - 48)))
theorem digit_nat {c : UInt8} (h : digitB c = true) : 48 ≤ c.toNat ∧ c.toNat ≤ 57 := by
  simp only [digitB, Bool.and_eq_true, decide_eq_true_eq, UInt8.le_iff_toNat_le] at h
  exact h
theorem takeWhile_all {p : UInt8 → Bool} (l : List UInt8) : (l.takeWhile p).all p = true := by
  induction l with
  | nil => rfl
  | cons c r ih =>
    by_cases h : p c = true
    · rw [List.takeWhile_cons_of_pos h]; simp [h]
    · rw [List.takeWhile_cons_of_neg h]; rfl
end Go.Proofs.YtabjghmfjoefpaaDoor
namespace Go.Proofs.YtabjghmfjoefpaaDoor
open Go.RowKit

theorem mkB_list (l : List UInt8) : (mkB l).data.toList = l := by simp [mkB]
theorem mkB_size (l : List UInt8) : (mkB l).size = l.length := by
  show (mkB l).data.size = _
  simp [mkB]
end Go.Proofs.YtabjghmfjoefpaaDoor
namespace Go.Proofs.YtabjghmfjoefpaaDoor
open Go.RowKit

theorem all_span (p : UInt8 → Bool) (l : List UInt8) : (span p l < l.length) = ¬ (l.all p = true) := by
  rw [eq_iff_iff]
  induction l with
  | nil => simp [span]
  | cons c r ih =>
    by_cases h : p c = true
    · have : span p (c :: r) = span p r + 1 := by simp [span, h]
      rw [this, List.length_cons, List.all_cons, h, Bool.true_and, ← ih]; omega
    · simp [span, h]
end Go.Proofs.YtabjghmfjoefpaaDoor
namespace Go.Proofs.YtabjghmfjoefpaaDoor
open Go.RowKit

/-! ### the table -/
/-- a function value that tells bytes -/
structure TellC (w : World) (F : Nat) (caps : Array Value) (p : UInt8 → Bool) : Prop where
  ent : Enters F
  tells : TellsL F caps p w
theorem TellC.later {w w' : World} {F : Nat} {caps : Array Value} {p : UInt8 → Bool} (h : TellC w F caps p) (hb : Below w.heap.size w w') : TellC w' F caps p := ⟨h.ent, h.tells.later hb⟩
theorem TellC.plain {F : Nat} {p : UInt8 → Bool} (w : World) (he : Enters F) (h : ∀ (c : UInt8) (w : World), Calls Tryd.prog F #[.int .u8 (c.toNat : Int)] w fun e w' => e = .returned (.bool (p c)) ∧ w = w') : TellC w F #[] p :=
  ⟨he, fun W _ c => h c W⟩
/-- one that asks where something begins -/
structure FitC (w : World) (F : Nat) (caps : Array Value) (p : List UInt8 → Bool) : Prop where
  ent : Enters F
  tells : ∀ W, Below w.heap.size w W → ∀ s : ByteArray, 1 ≤ s.size → s.size ≤ 1000000 → Calls Tryd.prog F (#[.string s] ++ caps) W fun e w' => e = .returned (.bool (p s.data.toList)) ∧ Below W.heap.size W w'
theorem FitC.later {w w' : World} {F : Nat} {caps : Array Value} {p : List UInt8 → Bool} (h : FitC w F caps p) (hb : Below w.heap.size w w') : FitC w' F caps p := ⟨h.ent, fun W hW => h.tells W (hb.then hW)⟩
end Go.Proofs.YtabjghmfjoefpaaDoor
namespace Go.Proofs.YtabjghmfjoefpaaDoor
open Go.RowKit

/-- the table's entries -/
abbrev Ent := (List UInt8 → Bool) × (List UInt8 → Step)
def tbl : List Ent := [(headP blankB, fun l => .pass (span blankB l)), (headP (fun c => [37].contains c), fun l => .pass (span notNl l)), (headP smallB, runS 1 letterB 12), (headP greatB, runS 2 letterB 20000),
  (headP digitB, numS), (headP (fun c => [39].contains c), fun l => quoS (l.drop 1)), (headP punctB, fun l => .tok 5 (l.take 1) 0 1), (fullP, fun l => .tok 6 (l.take 1) 0 1), (headP signB, runS 4 signB 12)]
def firstOf (l : List UInt8) : List Ent → Step
  | [] => .err 40
  | e :: r => if e.1 l then e.2 l else firstOf l r
theorem firstOf_step (c : UInt8) (r : List UInt8) : firstOf (c :: r) tbl = stepL (c :: r) := by
  have h37 : [37].contains c = (c == 37) := by rw [List.contains_cons, List.contains_nil, Bool.or_false]
  have h39 : [39].contains c = (c == 39) := by rw [List.contains_cons, List.contains_nil, Bool.or_false]
  simp only [tbl, firstOf, stepL, tokL, headP, fullP, h37, h39, List.drop_succ_cons, List.drop_zero, List.take_succ_cons, List.take_zero]
  rfl
end Go.Proofs.YtabjghmfjoefpaaDoor
namespace Go.Proofs.YtabjghmfjoefpaaDoor
open Go.RowKit

end Go.Proofs.YtabjghmfjoefpaaDoor
namespace Go.Proofs.YtabjghmfjoefpaaDoor
open Go.RowKit

/-- what Lex tells -/
def lexL (l : List UInt8) : Res := if 20000 < l.length then .error (0, 2) else lexW false l 0
/-- no slice at all, or one that begins where a block does -/
def Head (a : Option Addr) (cap : Nat) : Prop := (a = none ∧ cap = 0) ∨ ∃ g, a = some ⟨g, 0, none⟩
theorem AccInv.rowH {α : Type} [RepC α] {B e : Nat} {acc : List α} {v : Value} {w : World} (h : AccInv B e acc v w) : ∃ a cap, v = .slice a acc.length cap ∧ Row w a cap acc ∧ Head a cap := by
  obtain ⟨a, cap, rfl, hr⟩ := h.row
  refine ⟨a, cap, rfl, hr, ?_⟩
  obtain ⟨vs, ho, _⟩ := h.ex
  rcases ho.2 with ⟨h1, _⟩ | ⟨g, cap', cur, h1, _⟩
  · injection h1 with h1 h2 h3; exact .inl ⟨h1, h3⟩
  · injection h1 with h1 h2 h3; exact .inr ⟨g, h1⟩
def LexOut (w' : World) (e : Ending) : Res → Prop
  | .ok ts => ∃ a cap, e = .returned (.tuple #[.slice a ts.length cap, .int .i64 0, .int .i64 0]) ∧ Row w' a cap ts ∧ Head a cap
  | .error (p, er) => e = .returned (.tuple #[.slice none 0 0, .int .i64 (p : Int), .int .i64 er])
theorem appR_conR (acc : List Tok) (t : Tok) (r : Res) : appR acc (conR t r) = appR (acc ++ [t]) r := by
  cases r <;> simp [appR, conR]
theorem extract_list (s : ByteArray) (k : Nat) : (s.extract k s.size).data.toList = s.data.toList.drop k := by
  simp [ByteArray.data_extract, List.extract]
  rw [List.take_of_length_le (by simp)]
theorem set_size (w : World) (p : Addr) (v : Value) : (w.setCell p v).heap.size = w.heap.size := by simp
theorem step_err {l : List UInt8} {e : Int} (h : stepL l = .err e) (hl : l ≠ []) : e = 2 ∨ e = 40 ∨ e = 41 := by
  cases l with
  | nil => exact absurd rfl hl
  | cons c r =>
    have h := (stepL_err h).2.2
    simp only [tokL, runS, numS, quoS] at h
    repeat' split at h
    all_goals first
      | (cases h; done)
      | (injection h with h; subst h; decide)
theorem mkB_le {l : List UInt8} {n : Nat} (h : l.length ≤ n) : (mkB l).size ≤ n := by rw [mkB_size]; exact h
theorem tok_fit {l : List UInt8} {k : Int} {t : List UInt8} {n : Int} {len p : Nat} (h : stepL l = .tok k t n len) (hl : l.length ≤ 20000) (hp : p ≤ 20000) : (Tok.mk k (mkB t) n p).fit ∧ 1 ≤ k ∧ k ≤ 6 := by
  cases l with
  | nil => simp [stepL] at h
  | cons c r =>
    have hi := tokL_is (stepL_tok h).2.2
    have htl : t.length ≤ 20000 ∧ 0 ≤ n ∧ n ≤ 2147483647 ∧ 1 ≤ k ∧ k ≤ 6 := by
      have hx : ∀ q : UInt8 → Bool, ∀ z : List UInt8, z.length ≤ 20000 → (z.takeWhile q).length ≤ 20000 := fun q z hz => Nat.le_trans (span_le q z) hz
      cases hi with
      | name h1 h2 => exact ⟨hx _ _ hl, by omega, by omega, by omega, by omega⟩
      | var h1 h2 => exact ⟨hx _ _ hl, by omega, by omega, by omega, by omega⟩
      | num h1 h2 => exact ⟨hx _ _ hl, by omega, by omega, by omega, by omega⟩
      | quo h1 => exact ⟨hx _ _ (by simp only [List.length_cons] at hl; omega), by omega, by omega, by omega, by omega⟩
      | punct h1 => exact ⟨by simp, by omega, by omega, by omega, by omega⟩
      | stop h1 => exact ⟨by simp, by omega, by omega, by omega, by omega⟩
      | sign h1 h2 h3 => exact ⟨hx _ _ hl, by omega, by omega, by omega, by omega⟩
    have := mkB_le htl.1
    exact ⟨⟨by dsimp only; omega, by dsimp only; omega, by dsimp only; omega, by dsimp only; omega, by simp only; omega, by simp only; omega, by simp only; omega⟩, htl.2.2.2.1, htl.2.2.2.2⟩
theorem set4_res {w : World} {g : Nat} {a' b' c' d' : Value} (h : Res4 w g a' b' c' d') (a b c d : Value) : Res4 ((((w.setCell ⟨g, 0, none⟩ a).setCell ⟨g, 1, none⟩ b).setCell ⟨g, 2, none⟩ c).setCell ⟨g, 3, none⟩ d) g a b c d := by
  obtain ⟨c0, c1, c2, c3, f0, f1, f2, f3⟩ := h
  exact ⟨by simp [go_sem, c0], by simp [go_sem, c1], by simp [go_sem, c2], by simp [go_sem, c3], by simp [go_sem, f0], by simp [go_sem, f1], by simp [go_sem, f2], by simp [go_sem, f3]⟩
theorem Tryd.infoTok : (Tryd.prog.info? 55).map (fun i => (i.zero, i.size, i.bytes)) = some (some noTok, 4, 40) := by kernel_rfl

theorem drewB {B : Nat} {w w' : World} (h : Below B w w') : Below B w w'.drew := ⟨h.os, h.tape, h.output, h.size, h.block⟩
theorem set4_far (w1 : World) {g b o : Nat} {v : Value} (hg : b < g) (a c d e : Value) (h : w1.cell? ⟨b, o, none⟩ = some v) :
    ((((w1.setCell ⟨g, 0, none⟩ a).setCell ⟨g, 1, none⟩ c).setCell ⟨g, 2, none⟩ d).setCell ⟨g, 3, none⟩ e).cell? ⟨b, o, none⟩ = some v :=
  have hb : Below g w1 ((((w1.setCell ⟨g, 0, none⟩ a).setCell ⟨g, 1, none⟩ c).setCell ⟨g, 2, none⟩ d).setCell ⟨g, 3, none⟩ e) :=
    ((((Below.refl g w1).setCell (Nat.le_refl _) _).setCell (Nat.le_refl _) _).setCell (Nat.le_refl _) _).setCell (Nat.le_refl _) _
  (hb.cell (p := ⟨b, o, none⟩) hg).trans h
end Go.Proofs.YtabjghmfjoefpaaDoor
namespace Go.Proofs.YtabjghmfjoefpaaDoor
open Go.RowKit

theorem lexL_eq {s : ByteArray} (h : s.size ≤ 20000) : lexL s.data.toList = lexW false s.data.toList 0 := by
  unfold lexL; rw [if_neg (by rw [size_list]; omega)]
theorem lexL_big {s : ByteArray} (h : 20000 < s.size) : lexL s.data.toList = .error (0, 2) := by
  unfold lexL; rw [if_pos (by rw [size_list]; omega)]
theorem Row.tok {w w' : World} {b off cap : Nat} {ts : List Tok} (h : Row w (some ⟨b, off, none⟩) cap ts) (hb : Below w.heap.size w w') {i : Nat} {t : Tok} (hi : ts[i]? = some t) : TokAt w' b (off + i * 4) t := by
  obtain ⟨b', off', e, hc⟩ := h.at_ i t hi
  simp at e
  obtain ⟨rfl, rfl⟩ := e
  exact TokAt.keeps (show TokAt w b (off + i * 4) t from hc) (Keeps.of hb)
theorem Tok.eq_iff (x y : Tok) : x = y ↔ x.k = y.k ∧ x.s = y.s ∧ x.n = y.n ∧ x.p = y.p := by
  cases x; cases y; simp
theorem toListB_inj (a b : ByteArray) : (a.toList = b.toList) ↔ a = b := by
  rw [ByteArray.toList_eq, ByteArray.toList_eq]
  constructor
  · intro e
    cases a; cases b
    simp at e
    rw [e]
  · intro e; rw [e]
set_option maxHeartbeats 800000 in
theorem run_eql_tok (x y : Tok) (w : World) : (binOp .eql 55 (.agg #[.int .i64 x.k, .string x.s, .int .i64 x.n, .int .i64 x.p]) (.agg #[.int .i64 y.k, .string y.s, .int .i64 y.n, .int .i64 y.p])).run Tryd.prog w = .ok (.bool (decide (x = y))) w := by
  by_cases h1 : x.k = y.k
  · by_cases h2 : x.s = y.s
    · by_cases h3 : x.n = y.n
      · by_cases h4 : x.p = y.p
        · have : x = y := (Tok.eq_iff x y).2 ⟨h1, h2, h3, h4⟩
          subst this
          go_simp
        · have h5 : ¬ x = y := fun e => h4 (by rw [e])
          have h6 : (x.p == y.p) = false := by simp [h4]
          go_simp
      · have h4 : ¬ x = y := fun e => h3 (by rw [e])
        have h5 : (x.n == y.n) = false := by simp [h3]
        go_simp
    · have h4 : ¬ x = y := fun e => h2 (by rw [e])
      have h5 : (x.s.toList == y.s.toList) = false := by simp [toListB_inj, h2]
      go_simp
  · have h4 : ¬ x = y := fun e => h1 (by rw [e])
    have h5 : (x.k == y.k) = false := by simp [h1]
    go_simp
set_option maxHeartbeats 800000 in
theorem run_neq_tok (x y : Tok) (w : World) : (binOp .neq 55 (.agg #[.int .i64 x.k, .string x.s, .int .i64 x.n, .int .i64 x.p]) (.agg #[.int .i64 y.k, .string y.s, .int .i64 y.n, .int .i64 y.p])).run Tryd.prog w = .ok (.bool (!decide (x = y))) w := by
  by_cases h1 : x.k = y.k
  · by_cases h2 : x.s = y.s
    · by_cases h3 : x.n = y.n
      · by_cases h4 : x.p = y.p
        · have : x = y := (Tok.eq_iff x y).2 ⟨h1, h2, h3, h4⟩
          subst this
          go_simp
        · have h5 : ¬ x = y := fun e => h4 (by rw [e])
          have h6 : (x.p == y.p) = false := by simp [h4]
          go_simp
      · have h4 : ¬ x = y := fun e => h3 (by rw [e])
        have h5 : (x.n == y.n) = false := by simp [h3]
        go_simp
    · have h4 : ¬ x = y := fun e => h2 (by rw [e])
      have h5 : (x.s.toList == y.s.toList) = false := by simp [toListB_inj, h2]
      go_simp
  · have h4 : ¬ x = y := fun e => h1 (by rw [e])
    have h5 : (x.k == y.k) = false := by simp [h1]
    go_simp
end Go.Proofs.YtabjghmfjoefpaaDoor
namespace Go.Proofs.YtabjghmfjoefpaaDoor
open Go.RowKit

theorem LexOut.ok {w' : World} {e : Ending} {r : Res} {ts : List Tok} (h : LexOut w' e r) (hr : r = .ok ts) : ∃ a cap, e = .returned (.tuple #[.slice a ts.length cap, .int .i64 0, .int .i64 0]) ∧ Row w' a cap ts ∧ Head a cap := by subst hr; exact h
theorem LexOut.err {w' : World} {e : Ending} {r : Res} {p : Nat} {er : Int} (h : LexOut w' e r) (hr : r = .error (p, er)) : e = .returned (.tuple #[.slice none 0 0, .int .i64 (p : Int), .int .i64 er]) := by subst hr; exact h
def headT0 : List Tok := [⟨1, ⟨#[112]⟩, 0, 0⟩, ⟨5, ⟨#[40]⟩, 0, 1⟩, ⟨2, ⟨#[88, 49]⟩, 0, 2⟩, ⟨5, ⟨#[41]⟩, 0, 4⟩, ⟨4, ⟨#[58, 45]⟩, 0, 6⟩, ⟨1, ⟨#[105, 116, 32, 105, 115]⟩, 0, 9⟩, ⟨4, ⟨#[61]⟩, 0, 16⟩, ⟨3, ⟨#[48, 55]⟩, 7, 17⟩, ⟨6, ⟨#[46]⟩, 0, 19⟩, ⟨5, ⟨#[124]⟩, 0, 26⟩]
theorem headE0 : lexL (⟨#[112, 40, 88, 49, 41, 32, 58, 45, 32, 39, 105, 116, 32, 105, 115, 39, 61, 48, 55, 46, 32, 37, 32, 115, 111, 10, 124]⟩ : ByteArray).data.toList = .ok headT0 := by kernel_rfl
def headT1 : List Tok := [⟨1, ⟨#[97]⟩, 0, 0⟩, ⟨4, ⟨#[46]⟩, 0, 1⟩, ⟨1, ⟨#[98]⟩, 0, 2⟩, ⟨6, ⟨#[46]⟩, 0, 3⟩]
theorem headE1 : lexL (⟨#[97, 46, 98, 46]⟩ : ByteArray).data.toList = .ok headT1 := by kernel_rfl
theorem headF0 : lexL (⟨#[97, 98, 32, 195, 169]⟩ : ByteArray).data.toList = .error (3, 40) := by kernel_rfl
theorem headF1 : lexL (⟨#[32, 39, 120]⟩ : ByteArray).data.toList = .error (1, 41) := by kernel_rfl
theorem headF2 : lexL (⟨#[51, 48, 48, 48, 48, 48, 48, 48, 48, 48]⟩ : ByteArray).data.toList = .error (0, 2) := by kernel_rfl
end Go.Proofs.YtabjghmfjoefpaaDoor
namespace Go.Proofs.YtabjghmfjoefpaaDoor

/-! ### tokens of texts that are joined -/
def appR2 (l : List Tok) : Res → Res
  | .ok m => .ok (l ++ m)
  | .error e => .error e
/-- a byte behind which a token ends -/
structure Delim (d : UInt8) : Prop where
  l : letterB d = false
  g : digitB d = false
  s : signB d = false
  b : (blankB d || d == 37) = true
theorem delim10 : Delim 10 := ⟨by decide, by decide, by decide, by decide⟩
theorem delim32 : Delim 32 := ⟨by decide, by decide, by decide, by decide⟩
theorem delim37 : Delim 37 := ⟨by decide, by decide, by decide, by decide⟩
theorem tw_app {p : UInt8 → Bool} {d : UInt8} (h : p d = false) (l x : List UInt8) : (l ++ d :: x).takeWhile p = l.takeWhile p := by
  induction l with
  | nil => simp [h]
  | cons c r ih =>
    by_cases hc : p c = true
    · rw [List.cons_append, List.takeWhile_cons_of_pos hc, List.takeWhile_cons_of_pos hc, ih]
    · rw [List.cons_append, List.takeWhile_cons_of_neg hc, List.takeWhile_cons_of_neg hc]
theorem span_app {p : UInt8 → Bool} {d : UInt8} (h : p d = false) (l x : List UInt8) : span p (l ++ d :: x) = span p l := by
  unfold span; rw [tw_app h]
theorem tw_lt {p : UInt8 → Bool} {l : List UInt8} (h : span p l < l.length) (y : List UInt8) : (l ++ y).takeWhile p = l.takeWhile p := by
  induction l with
  | nil => simp at h
  | cons c r ih =>
    by_cases hc : p c = true
    · rw [List.cons_append, List.takeWhile_cons_of_pos hc, List.takeWhile_cons_of_pos hc, ih]
      have : span p (c :: r) = span p r + 1 := by simp [span, hc]
      rw [this, List.length_cons] at h; omega
    · rw [List.cons_append, List.takeWhile_cons_of_neg hc, List.takeWhile_cons_of_neg hc]
theorem tw_ge {p : UInt8 → Bool} {l : List UInt8} (h : ¬ span p l < l.length) (y : List UInt8) : (l ++ y).takeWhile p = l ++ y.takeWhile p := by
  induction l with
  | nil => rfl
  | cons c r ih =>
    by_cases hc : p c = true
    · rw [List.cons_append, List.takeWhile_cons_of_pos hc, ih]; rfl
      have : span p (c :: r) = span p r + 1 := by simp [span, hc]
      rw [this, List.length_cons] at h; omega
    · exfalso
      have : span p (c :: r) = 0 := by simp [span, hc]
      rw [this] at h; simp at h
theorem quoS_ok {r : List UInt8} (h : quoB r = true) (y : List UInt8) : quoS (r ++ y) = quoS r := by
  have h1 : span notQ r < r.length := by simp only [quoB, Bool.and_eq_true, decide_eq_true_eq] at h; exact h.1.1.1
  have h2 := tw_lt h1 y
  have h3 : span notQ (r ++ y) = span notQ r := by unfold span; rw [h2]
  have h4 : quoB (r ++ y) = true := by
    simp only [quoB, Bool.and_eq_true, decide_eq_true_eq] at h ⊢
    rw [h2, h3, List.length_append]
    exact ⟨⟨⟨by omega, h.1.1.2⟩, h.1.2⟩, h.2⟩
  unfold quoS
  rw [h, h4, h2, h3]
theorem quoS_nl (r x : List UInt8) : quoS (r ++ 10 :: x) = quoS r := by
  cases h : quoB r with
  | true => exact quoS_ok h _
  | false =>
    have h4 : quoB (r ++ 10 :: x) = false := by
      by_cases h1 : span notQ r < r.length
      · have h2 := tw_lt h1 (10 :: x)
        have h3 : span notQ (r ++ 10 :: x) = span notQ r := by unfold span; rw [h2]
        unfold quoB at h ⊢
        rw [h2, h3, List.length_append, decide_eq_true (show span notQ r < r.length + (10 :: x).length by omega)]
        rw [decide_eq_true h1] at h
        exact h
      · have h2 := tw_ge h1 (10 :: x)
        unfold quoB
        rw [h2, List.all_append, List.takeWhile_cons_of_pos (by decide), List.all_cons, show seenB 10 = false by decide]
        simp
    unfold quoS
    rw [h, h4]; rfl
theorem stopL_app {d : UInt8} (h : Delim d) (r x : List UInt8) : stopL (r ++ d :: x) = stopL r := by
  cases r with
  | nil => exact h.b
  | cons c r => rfl
theorem tokL_app {d : UInt8} (hd : Delim d) (c : UInt8) (r x : List UInt8) (hq : c = 39 → quoS (r ++ d :: x) = quoS r) : tokL (c :: (r ++ d :: x)) = tokL (c :: r) := by
  have e : ∀ p : UInt8 → Bool, p d = false → (c :: (r ++ d :: x)).takeWhile p = (c :: r).takeWhile p := fun p hp => tw_app hp (c :: r) x
  have e2 : ∀ p : UInt8 → Bool, p d = false → span p (c :: (r ++ d :: x)) = span p (c :: r) := fun p hp => span_app hp (c :: r) x
  simp only [tokL, runS, numS, e _ hd.l, e2 _ hd.l, e _ hd.g, e2 _ hd.g, e _ hd.s, e2 _ hd.s, stopL_app hd]
  by_cases h39 : c = 39
  · subst h39; rw [hq rfl]
  · have : ¬ (c == 39) = true := by simpa using h39
    simp only [this]
    rfl
theorem tokL_nl (c : UInt8) (r x : List UInt8) : tokL (c :: (r ++ 10 :: x)) = tokL (c :: r) := tokL_app delim10 c r x fun _ => quoS_nl r x
theorem tokL_ok {d : UInt8} (hd : Delim d) {c : UInt8} {r : List UInt8} {k : Int} {t : List UInt8} {n : Int} {len : Nat} (h : tokL (c :: r) = .tok k t n len) (x : List UInt8) : tokL (c :: (r ++ d :: x)) = .tok k t n len := by
  rw [tokL_app hd c r x ?_, h]
  rintro rfl
  refine quoS_ok ?_ _
  cases hb : quoB r with
  | true => rfl
  | false =>
    exfalso
    have : tokL (39 :: r) = .err 41 := by
      have h1 : smallB 39 = false := by decide
      have h2 : greatB 39 = false := by decide
      have h3 : digitB 39 = false := by decide
      simp [tokL, h1, h2, h3, quoS, hb]
    rw [this] at h; cases h
theorem drop_app {l x : List UInt8} {n : Nat} (h : n ≤ l.length) : (l ++ x).drop n = l.drop n ++ x := by
  rw [List.drop_append_of_le_length h]
theorem appR_con (ts : List Tok) (t : Tok) (r : Res) : conR t (appR ts r) = appR (t :: ts) r := by cases r <;> rfl
/-- two lines -/
theorem lex_lines : ∀ (n : Nat) (a : List UInt8), a.length ≤ n → ∀ (b : List UInt8) (rm : Bool) (p : Nat), lexW rm (a ++ 10 :: b) p = match lexW rm a p with
    | .ok ts => appR ts (lexW false b (p + a.length + 1))
    | .error e => .error e := by
  intro n
  induction n with
  | zero =>
    intro a ha b rm p
    obtain rfl : a = [] := List.eq_nil_of_length_eq_zero (by omega)
    rw [lexW_nil, List.nil_append]
    cases rm with
    | true => rw [lexW_rem, show notNl 10 = false by decide]; cases lexW false b (p + 1) <;> rfl
    | false => rw [lexW_blank (by decide)]; cases lexW false b (p + 1) <;> rfl
  | succ n ih =>
    intro a ha b rm p
    cases a with
    | nil => exact ih [] (by simp) b rm p
    | cons c r =>
      simp only [List.length_cons] at ha
      have hp : p + 1 + r.length + 1 = p + (c :: r).length + 1 := by simp only [List.length_cons]; omega
      rw [List.cons_append]
      cases rm with
      | true => rw [lexW_rem, lexW_rem, ih r (by omega), hp]
      | false =>
        cases h1 : blankB c with
        | true => rw [lexW_blank h1, lexW_blank h1, ih r (by omega), hp]
        | false =>
          cases h2 : (c == 37) with
          | true =>
            obtain rfl : c = 37 := by simpa using h2
            rw [lexW_perc, lexW_perc, ih r (by omega), hp]
          | false =>
            cases ht : tokL (c :: r) with
            | pass m => exact absurd ht (tokL_pass _ _)
            | err e => rw [lexW_err h1 h2 ht, lexW_err h1 h2 (by rw [tokL_nl, ht])]
            | tok k t nn len =>
              have hl := tokL_len ht
              have hl' := hl.2
              simp only [List.length_cons] at hl'
              rw [lexW_tok h1 h2 ht, lexW_tok h1 h2 (show tokL (c :: (r ++ 10 :: b)) = .tok k t nn len by rw [tokL_nl, ht]),
                show c :: (r ++ 10 :: b) = (c :: r) ++ 10 :: b from rfl, drop_app hl.2, ih _ (by simp; omega)]
              cases hx : lexW false ((c :: r).drop len) (p + len) with
              | error e => rfl
              | ok ts =>
                simp only [conR]
                rw [show p + len + ((c :: r).drop len).length + 1 = p + (c :: r).length + 1 by rw [List.length_drop]; simp only [List.length_cons]; omega]
                exact appR_con _ _ _

/-! ### further on -/
def Tok.add (d : Nat) (t : Tok) : Tok := ⟨t.k, t.s, t.n, t.p + d⟩
def shiftR (d : Nat) : Res → Res
  | .ok l => .ok (l.map (Tok.add d))
  | .error (p, e) => .error (p + d, e)
theorem lex_shift (d : Nat) : ∀ (n : Nat) (l : List UInt8), l.length ≤ n → ∀ (rm : Bool) (p : Nat), lexW rm l (p + d) = shiftR d (lexW rm l p) := by
  intro n
  induction n with
  | zero =>
    intro l hl rm p
    obtain rfl : l = [] := List.eq_nil_of_length_eq_zero (by omega)
    rw [lexW_nil, lexW_nil]; rfl
  | succ n ih =>
    intro l hl rm p
    cases l with
    | nil => rw [lexW_nil, lexW_nil]; rfl
    | cons c r =>
      simp only [List.length_cons] at hl
      have hp : p + d + 1 = p + 1 + d := by omega
      cases rm with
      | true => rw [lexW_rem, lexW_rem, hp, ih r (by omega)]
      | false =>
        cases h1 : blankB c with
        | true => rw [lexW_blank h1, lexW_blank h1, hp, ih r (by omega)]
        | false =>
          cases h2 : (c == 37) with
          | true =>
            obtain rfl : c = 37 := by simpa using h2
            rw [lexW_perc, lexW_perc, hp, ih r (by omega)]
          | false =>
            cases ht : tokL (c :: r) with
            | pass m => exact absurd ht (tokL_pass _ _)
            | err e => rw [lexW_err h1 h2 ht, lexW_err h1 h2 ht]; rfl
            | tok k t nn len =>
              have hl2 := tokL_len ht
              have hl' := hl2.2
              simp only [List.length_cons] at hl'
              rw [lexW_tok h1 h2 ht, lexW_tok h1 h2 ht, show p + d + len = p + len + d by omega, ih _ (by simp; omega)]
              cases lexW false ((c :: r).drop len) (p + len) with
              | error e => rfl
              | ok ts =>
                simp only [shiftR, conR, List.map_cons]
                congr 1
end Go.Proofs.YtabjghmfjoefpaaDoor
namespace Go.Proofs.YtabjghmfjoefpaaDoor
open Go.RowKit

theorem tok_at {w wr : World} {b off cap : Nat} {xs : List Tok} (h : Row w (some ⟨b, off, none⟩) cap xs) (hb : Below w.heap.size w wr) {k : Nat} (hk : k < xs.length) : TokAt wr b (off + k * 4) xs[k] :=
  h.tok hb (List.getElem?_eq_getElem hk)
end Go.Proofs.YtabjghmfjoefpaaDoor
namespace Go.Proofs.YtabjghmfjoefpaaDoor

/-! ### what is wrong is told by a number that is none -/
theorem tokL_err {l : List UInt8} {e : Int} (h : tokL l = .err e) (hl : l ≠ []) : e = 2 ∨ e = 40 ∨ e = 41 := by
  cases l with
  | nil => exact absurd rfl hl
  | cons c r =>
    simp only [tokL, runS, numS, quoS] at h
    repeat' split at h
    all_goals first
      | (cases h; done)
      | (injection h with h; subst h; decide)
theorem lexW_bad : ∀ (n : Nat) (l : List UInt8), l.length ≤ n → ∀ (rm : Bool) (p q : Nat) (e : Int), lexW rm l p = .error (q, e) → (e = 2 ∨ e = 40 ∨ e = 41) ∧ p ≤ q ∧ q < p + l.length := by
  intro n
  induction n with
  | zero =>
    intro l hl rm p q e h
    obtain rfl : l = [] := List.eq_nil_of_length_eq_zero (by omega)
    rw [lexW_nil] at h; cases h
  | succ n ih =>
    intro l hl rm p q e h
    cases l with
    | nil => rw [lexW_nil] at h; cases h
    | cons c r =>
      simp only [List.length_cons] at hl ⊢
      cases rm with
      | true =>
        rw [lexW_rem] at h
        have := ih r (by omega) _ _ _ _ h
        exact ⟨this.1, by omega, by omega⟩
      | false =>
        cases h1 : blankB c with
        | true =>
          rw [lexW_blank h1] at h
          have := ih r (by omega) _ _ _ _ h
          exact ⟨this.1, by omega, by omega⟩
        | false =>
          cases h2 : (c == 37) with
          | true =>
            obtain rfl : c = 37 := by simpa using h2
            rw [lexW_perc] at h
            have := ih r (by omega) _ _ _ _ h
            exact ⟨this.1, by omega, by omega⟩
          | false =>
            cases ht : tokL (c :: r) with
            | pass m => exact absurd ht (tokL_pass _ _)
            | err e' =>
              rw [lexW_err h1 h2 ht] at h
              injection h with h
              injection h with h3 h4
              subst h3 h4
              exact ⟨tokL_err ht (by simp), by omega, by omega⟩
            | tok k t nn len =>
              have hl2 := tokL_len ht
              have hl' := hl2.2
              simp only [List.length_cons] at hl'
              rw [lexW_tok h1 h2 ht] at h
              cases hx : lexW false ((c :: r).drop len) (p + len) with
              | ok ts => rw [hx] at h; cases h
              | error e' =>
                rw [hx] at h
                simp only [conR] at h
                rw [h] at hx
                have := ih _ (by simp; omega) _ _ _ _ hx
                rw [List.length_drop] at this
                simp only [List.length_cons] at this
                exact ⟨this.1, by omega, by omega⟩
/-- the tokens' places -/
theorem lexW_good : ∀ (n : Nat) (l : List UInt8), l.length ≤ n → ∀ (rm : Bool) (p : Nat) (ts : List Tok), lexW rm l p = .ok ts → (∀ t ∈ ts, (p : Int) ≤ t.p ∧ t.p < p + l.length) ∧ ts.length ≤ l.length := by
  intro n
  induction n with
  | zero =>
    intro l hl rm p ts h
    obtain rfl : l = [] := List.eq_nil_of_length_eq_zero (by omega)
    rw [lexW_nil] at h; cases h; simp
  | succ n ih =>
    intro l hl rm p ts h
    cases l with
    | nil => rw [lexW_nil] at h; cases h; simp
    | cons c r =>
      simp only [List.length_cons] at hl ⊢
      cases rm with
      | true =>
        rw [lexW_rem] at h
        have := ih r (by omega) _ _ _ h
        exact ⟨fun t ht => by have := this.1 t ht; omega, by omega⟩
      | false =>
        cases h1 : blankB c with
        | true =>
          rw [lexW_blank h1] at h
          have := ih r (by omega) _ _ _ h
          exact ⟨fun t ht => by have := this.1 t ht; omega, by omega⟩
        | false =>
          cases h2 : (c == 37) with
          | true =>
            obtain rfl : c = 37 := by simpa using h2
            rw [lexW_perc] at h
            have := ih r (by omega) _ _ _ h
            exact ⟨fun t ht => by have := this.1 t ht; omega, by omega⟩
          | false =>
            cases ht : tokL (c :: r) with
            | pass m => exact absurd ht (tokL_pass _ _)
            | err e' => rw [lexW_err h1 h2 ht] at h; cases h
            | tok k t nn len =>
              have hl2 := tokL_len ht
              have hl' := hl2.2
              simp only [List.length_cons] at hl'
              rw [lexW_tok h1 h2 ht] at h
              cases hx : lexW false ((c :: r).drop len) (p + len) with
              | error e' => rw [hx] at h; cases h
              | ok ts' =>
                rw [hx] at h
                simp only [conR] at h
                cases h
                have := ih _ (by simp; omega) _ _ _ hx
                rw [List.length_drop] at this
                simp only [List.length_cons] at this ⊢
                refine ⟨fun u hu => ?_, by omega⟩
                rcases List.mem_cons.1 hu with rfl | hu
                · simp only; omega
                · have := this.1 u hu; omega
end Go.Proofs.YtabjghmfjoefpaaDoor
namespace Go.Proofs.YtabjghmfjoefpaaDoor
open Go.RowKit

theorem lexL_bad {l : List UInt8} {p : Nat} {er : Int} (h : lexL l = .error (p, er)) : (er = 2 ∨ er = 40 ∨ er = 41) ∧ p ≤ l.length := by
  unfold lexL at h
  split at h
  · injection h with h; injection h with h1 h2; subst h1 h2; exact ⟨.inl rfl, by omega⟩
  · have := lexW_bad _ l (Nat.le_refl _) _ _ _ _ h
    exact ⟨this.1, by omega⟩
theorem lexL_good {l : List UInt8} {ts : List Tok} (h : lexL l = .ok ts) : (∀ t ∈ ts, 0 ≤ t.p ∧ t.p < l.length) ∧ ts.length ≤ l.length ∧ l.length ≤ 20000 := by
  unfold lexL at h
  split at h
  · cases h
  · have := lexW_good _ l (Nat.le_refl _) _ _ _ h
    exact ⟨fun t ht => by have := this.1 t ht; omega, this.2, by omega⟩
theorem join_list (a b : ByteArray) : (a ++ b).data.toList = a.data.toList ++ b.data.toList := by simp
theorem lines_list (a b : ByteArray) : (a ++ ⟨#[10]⟩ ++ b).data.toList = a.data.toList ++ 10 :: b.data.toList := by simp
theorem lines_size (a b : ByteArray) : (a ++ ⟨#[10]⟩ ++ b).size = a.size + 1 + b.size := by
  rw [← size_list, lines_list, List.length_append, List.length_cons, size_list, size_list]; omega
/-- the tokens of two lines -/
theorem lines_eq {a b : List UInt8} (h : a.length + b.length ≤ 10000) : lexL (a ++ 10 :: b) = match lexL a with
    | .ok ts => appR ts (shiftR (a.length + 1) (lexL b))
    | .error e => .error e := by
  have h1 : lexL (a ++ 10 :: b) = lexW false (a ++ 10 :: b) 0 := by unfold lexL; rw [if_neg (by simp; omega)]
  have h2 : lexL a = lexW false a 0 := by unfold lexL; rw [if_neg (by omega)]
  have h3 : lexL b = lexW false b 0 := by unfold lexL; rw [if_neg (by omega)]
  rw [h1, h2, h3, lex_lines _ a (Nat.le_refl _)]
  cases lexW false a 0 with
  | error e => rfl
  | ok ts =>
    simp only
    rw [show 0 + a.length + 1 = 0 + (a.length + 1) by omega, lex_shift _ _ b (Nat.le_refl _)]
theorem Row.takeN {w : World} {g cap : Nat} {xs : List Tok} {k : Nat} (h : Row w (some ⟨g, 0, none⟩) cap xs) (hk : k ≤ xs.length) : Row w (some ⟨g, 0, none⟩) cap (xs.take k) := by
  have := h.slice (i := 0) (j := k) (by omega) hk
  simpa using this

theorem Row.dropN {w : World} {g cap : Nat} {xs : List Tok} {k : Nat} (h : Row w (some ⟨g, 0, none⟩) cap xs) (hk : k ≤ xs.length) : Row w (some ⟨g, k * 4, none⟩) (cap - k) (xs.drop k) := by
  have := h.slice (i := k) (j := xs.length) hk (Nat.le_refl _)
  rw [List.take_of_length_le (by simp), Nat.zero_add] at this
  exact this
theorem add_zero (t : Tok) : Tok.add 0 t = t := by cases t; simp [Tok.add]
theorem map_add_zero (ts : List Tok) : ts.map (Tok.add 0) = ts := by
  rw [show Tok.add 0 = id from funext add_zero, List.map_id]
end Go.Proofs.YtabjghmfjoefpaaDoor
namespace Go.Proofs.YtabjghmfjoefpaaDoor
open Go.RowKit

theorem rBlank (c : UInt8) (w : World) : Calls Tryd.prog 62 #[.int .u8 (c.toNat : Int)] w fun e w' => e = .returned (.bool (blankB c)) ∧ w = w' := by
  have h1 : ((c.toNat : Int) == 32) = (c == 32) := eqU c 32
  have h2 : ((c.toNat : Int) == 9) = (c == 9) := eqU c 9
  have h3 : ((c.toNat : Int) == 10) = (c == 10) := eqU c 10
  have h4 : ((c.toNat : Int) == 13) = (c == 13) := eqU c 13
  have HB : Hid (blankB c = (c == 32 || c == 9 || c == 10 || c == 13)) := rfl
  cases g1 : (c == 32) <;> cases g2 : (c == 9) <;> cases g3 : (c == 10) <;> cases g4 : (c == 13) <;> rw [g1] at h1 HB <;> rw [g2] at h2 HB <;> rw [g3] at h3 HB <;> rw [g4] at h4 HB <;> clear g1 g2 g3 g4
  all_goals
    go_enter Tryd.func62, Tryd.ntmps62
    go_wp2
    go_ret
    exact ⟨ret_bool HB.out.symm, rfl⟩
theorem rBlank_lit {c : UInt8} {w : World} {b : Bool} (hb : blankB c = b) : Calls Tryd.prog 62 #[.int .u8 (c.toNat : Int)] w fun e w' => e = .returned (.bool b) ∧ w = w' := by
  subst hb; exact rBlank c w
theorem rSmall (c : UInt8) (w : World) : Calls Tryd.prog 63 #[.int .u8 (c.toNat : Int)] w fun e w' => e = .returned (.bool (smallB c)) ∧ w = w' := by
  have h1 : decide ((97 : Int) ≤ (c.toNat : Int)) = decide (97 ≤ c) := leU 97 c
  have h2 : decide ((c.toNat : Int) ≤ 122) = decide (c ≤ 122) := leU c 122
  have HB : Hid (smallB c = (decide (97 ≤ c) && decide (c ≤ 122))) := rfl
  cases g1 : decide (97 ≤ c) <;> cases g2 : decide (c ≤ 122) <;> rw [g1] at h1 HB <;> rw [g2] at h2 HB <;> clear g1 g2
  all_goals
    go_enter Tryd.func63, Tryd.ntmps63
    go_wp2
    go_ret
    exact ⟨ret_bool HB.out.symm, rfl⟩
theorem rSmall_lit {c : UInt8} {w : World} {b : Bool} (hb : smallB c = b) : Calls Tryd.prog 63 #[.int .u8 (c.toNat : Int)] w fun e w' => e = .returned (.bool b) ∧ w = w' := by
  subst hb; exact rSmall c w
theorem rDigit (c : UInt8) (w : World) : Calls Tryd.prog 67 #[.int .u8 (c.toNat : Int)] w fun e w' => e = .returned (.bool (digitB c)) ∧ w = w' := by
  have h1 : decide ((48 : Int) ≤ (c.toNat : Int)) = decide (48 ≤ c) := leU 48 c
  have h2 : decide ((c.toNat : Int) ≤ 57) = decide (c ≤ 57) := leU c 57
  have HB : Hid (digitB c = (decide (48 ≤ c) && decide (c ≤ 57))) := rfl
  cases g1 : decide (48 ≤ c) <;> cases g2 : decide (c ≤ 57) <;> rw [g1] at h1 HB <;> rw [g2] at h2 HB <;> clear g1 g2
  all_goals
    go_enter Tryd.func67, Tryd.ntmps67
    go_wp2
    go_ret
    exact ⟨ret_bool HB.out.symm, rfl⟩
theorem rDigit_lit {c : UInt8} {w : World} {b : Bool} (hb : digitB c = b) : Calls Tryd.prog 67 #[.int .u8 (c.toNat : Int)] w fun e w' => e = .returned (.bool b) ∧ w = w' := by
  subst hb; exact rDigit c w
theorem rGreat (c : UInt8) (w : World) : Calls Tryd.prog 66 #[.int .u8 (c.toNat : Int)] w fun e w' => e = .returned (.bool (greatB c)) ∧ w = w' := by
  have h1 : decide ((65 : Int) ≤ (c.toNat : Int)) = decide (65 ≤ c) := leU 65 c
  have h2 : decide ((c.toNat : Int) ≤ 90) = decide (c ≤ 90) := leU c 90
  have h3 : ((c.toNat : Int) == 95) = (c == 95) := eqU c 95
  have HB : Hid (greatB c = (decide (65 ≤ c) && decide (c ≤ 90) || c == 95)) := rfl
  cases g1 : decide (65 ≤ c) <;> cases g2 : decide (c ≤ 90) <;> cases g3 : (c == 95) <;> rw [g1] at h1 HB <;> rw [g2] at h2 HB <;> rw [g3] at h3 HB <;> clear g1 g2 g3
  all_goals
    go_enter Tryd.func66, Tryd.ntmps66
    go_wp2
    go_ret
    exact ⟨ret_bool HB.out.symm, rfl⟩
theorem rGreat_lit {c : UInt8} {w : World} {b : Bool} (hb : greatB c = b) : Calls Tryd.prog 66 #[.int .u8 (c.toNat : Int)] w fun e w' => e = .returned (.bool b) ∧ w = w' := by
  subst hb; exact rGreat c w
theorem rLetter (c : UInt8) (w : World) : Calls Tryd.prog 89 #[.int .u8 (c.toNat : Int)] w fun e w' => e = .returned (.bool (letterB c)) ∧ w = w' := by
  have HB : Hid (letterB c = (smallB c || greatB c || digitB c)) := rfl
  cases g1 : smallB c <;> cases g2 : greatB c <;> cases g3 : digitB c <;> rw [g1, g2, g3] at HB
  all_goals
    have H1 := mkHid g1
    have H2 := mkHid g2
    have H3 := mkHid g3
    clear g1 g2 g3
    go_enter Tryd.func89, Tryd.ntmps89
    go_wp2_with (first
      | (go_at_call 63; refine (rSmall_lit H1.out).mono ?_; rintro e w' ⟨rfl, rfl⟩)
      | (go_at_call 66; refine (rGreat_lit H2.out).mono ?_; rintro e w' ⟨rfl, rfl⟩)
      | (go_at_call 67; refine (rDigit_lit H3.out).mono ?_; rintro e w' ⟨rfl, rfl⟩))
    go_ret
    exact ⟨ret_bool HB.out.symm, rfl⟩
theorem rLetter_lit {c : UInt8} {w : World} {b : Bool} (hb : letterB c = b) : Calls Tryd.prog 89 #[.int .u8 (c.toNat : Int)] w fun e w' => e = .returned (.bool b) ∧ w = w' := by
  subst hb; exact rLetter c w
def hasB (l : List UInt8) (c : UInt8) : Bool := l.contains c
/-- does a byte stand in a text? -/
theorem rIn (s : ByteArray) (c : UInt8) (w : World) (hs : s.size ≤ 1000000) : Calls Tryd.prog 70 #[.string s, .int .u8 (c.toNat : Int)] w fun e w' => e = .returned (.bool (hasB s.data.toList c)) ∧ w = w' := by
  go_enter Tryd.func70, Tryd.ntmps70
  go_wp2
  go_loop [5] (fun i => ∃ k : Nat, k ≤ s.size ∧ i = .int .i64 k ∧ Hid ((s.data.toList.take k).contains c = false)) (fun i => s.size - (intOf i).toNat)
  case atStart => exact ⟨0, Nat.zero_le _, rfl, mkHid (by simp)⟩
  case round =>
    obtain ⟨k, hk, rfl, HA⟩ := hrel
    by_cases hlt : k < s.size
    · have h1 : ((s[k].toNat : Int) == (c.toNat : Int)) = (s[k] == c) := eqU s[k] c
      cases hc : (s[k] == c) with
      | true =>
        rw [hc] at h1
        have HN : Hid (s.data.toList.contains c = true) := by
          have e : s[k] = c := by simpa using hc
          rw [Hid, List.contains_iff_mem, ← e]
          simp [ByteArray.getElem_eq_getElem_data]
        clear hc HA
        go_wp2
        go_ret
        exact ⟨ret_bool HN.out.symm, rfl⟩
      | false =>
        rw [hc] at h1
        have HN : Hid ((s.data.toList.take (k + 1)).contains c = false) := by
          have hne : (c == s[k]) = false := by
            have : ¬ s[k] = c := by simpa using hc
            simp; exact fun e => this e.symm
          have h2 := HA.out
          rw [Hid, take_snocB s k hlt]
          simp only [List.contains_eq_any_beq, List.any_append] at h2 ⊢
          rw [h2]
          simp [hne]
        clear hc HA
        go_wp2
        go_round
        case rel => exact ⟨k + 1, by omega, by go_num, HN⟩
        case measure => simp [intOf]; omega
    · have HN : Hid (s.data.toList.contains c = false) := by
        have h := HA.out
        rw [List.take_of_length_le (by simp; omega)] at h
        exact h
      clear HA
      go_wp2
      go_ret
      exact ⟨ret_bool HN.out.symm, rfl⟩
theorem rSign (c : UInt8) (w : World) : Calls Tryd.prog 71 #[.int .u8 (c.toNat : Int)] w fun e w' => e = .returned (.bool (signB c)) ∧ w = w' := by
  go_enter Tryd.func71, Tryd.ntmps71
  go_wp2_with fail
  refine (rIn _ c _ (by decide)).mono ?_; rintro e w1 ⟨rfl, rfl⟩
  go_wp2
  go_ret
  exact ⟨ret_bool rfl, rfl⟩
theorem rSign_lit {c : UInt8} {w : World} {b : Bool} (hb : signB c = b) : Calls Tryd.prog 71 #[.int .u8 (c.toNat : Int)] w fun e w' => e = .returned (.bool b) ∧ w = w' := by
  subst hb; exact rSign c w
end Go.Proofs.YtabjghmfjoefpaaDoor
namespace Go.Proofs.YtabjghmfjoefpaaDoor

/-! ### what the document passes over -/
def skipL : Bool → List UInt8 → Nat
  | _, [] => 0
  | b, c :: r => if c == 10 then skipL false r + 1 else if c == 37 then skipL true r + 1 else if b || blankB c then skipL b r + 1 else 0
theorem skip_le : ∀ (l : List UInt8) (b : Bool), skipL b l ≤ l.length
  | [], b => by simp [skipL]
  | c :: r, b => by
    simp only [skipL, List.length_cons]
    have h1 := skip_le r false
    have h2 := skip_le r true
    have h3 := skip_le r b
    split
    · omega
    split
    · omega
    split <;> omega
theorem skip_lex : ∀ (l : List UInt8) (b : Bool) (q : Nat), lexW b l q = lexW false (l.drop (skipL b l)) (q + skipL b l)
  | [], b, q => by simp [skipL, lexW_nil]
  | c :: r, b, q => by
    have h1 := skip_lex r false (q + 1)
    have h2 := skip_lex r true (q + 1)
    simp only [skipL]
    cases g10 : (c == 10) with
    | true =>
      obtain rfl : c = 10 := by simpa using g10
      simp only [if_true, List.drop_succ_cons]
      rw [show q + (skipL false r + 1) = q + 1 + skipL false r by omega, ← h1]
      cases b with
      | true => rw [lexW_rem]; rfl
      | false => rw [lexW_blank (by decide)]
    | false =>
      simp only [Bool.false_eq_true, if_false]
      cases g37 : (c == 37) with
      | true =>
        obtain rfl : c = 37 := by simpa using g37
        simp only [if_true, List.drop_succ_cons]
        rw [show q + (skipL true r + 1) = q + 1 + skipL true r by omega, ← h2]
        cases b with
        | true => rw [lexW_rem]; rfl
        | false => rw [lexW_perc]
      | false =>
        simp only [Bool.false_eq_true, if_false]
        cases b with
        | true =>
          simp only [Bool.true_or, if_true, List.drop_succ_cons]
          rw [show q + (skipL true r + 1) = q + 1 + skipL true r by omega, ← h2, lexW_rem, show notNl c = true by simp [notNl]; simpa using g10]
        | false =>
          cases gb : blankB c with
          | true =>
            simp only [Bool.or_true, if_true, List.drop_succ_cons]
            rw [show q + (skipL false r + 1) = q + 1 + skipL false r by omega, ← h1, lexW_blank gb]
          | false => simp
theorem skip_stop : ∀ (l : List UInt8) (b : Bool) (c : UInt8) (r : List UInt8), l.drop (skipL b l) = c :: r → blankB c = false ∧ (c == 37) = false
  | [], b, c, r, h => by simp at h
  | d :: l, b, c, r, h => by
    simp only [skipL] at h
    cases g10 : (d == 10) with
    | true =>
      rw [g10] at h
      simp only [if_true, List.drop_succ_cons] at h
      exact skip_stop l false c r h
    | false =>
      rw [g10] at h
      simp only [Bool.false_eq_true, if_false] at h
      cases g37 : (d == 37) with
      | true =>
        rw [g37] at h
        simp only [if_true, List.drop_succ_cons] at h
        exact skip_stop l true c r h
      | false =>
        rw [g37] at h
        simp only [Bool.false_eq_true, if_false] at h
        cases gb : (b || blankB d) with
        | true =>
          rw [gb] at h
          simp only [if_true, List.drop_succ_cons] at h
          exact skip_stop l b c r h
        | false =>
          rw [gb] at h
          simp only [Bool.false_eq_true, if_false, List.drop_zero] at h
          obtain ⟨rfl, rfl⟩ := List.cons.inj h
          simp only [Bool.or_eq_false_iff] at gb
          exact ⟨gb.2, g37⟩
end Go.Proofs.YtabjghmfjoefpaaDoor
namespace Go.Proofs.YtabjghmfjoefpaaDoor
open Go.RowKit

set_option maxHeartbeats 1600000 in
/-- the place of the next token -/
theorem rPass (s : ByteArray) (a : Nat) (w : World) (hs : s.size ≤ 1000000) (ha : a ≤ s.size) :
    Calls Tryd.prog 49 #[.string s, .int .i64 (a : Int)] w fun e w' => e = .returned (.int .i64 ((a + skipL false (s.data.toList.drop a) : Nat) : Int)) ∧ w = w' := by
  generalize hR : a + skipL false (s.data.toList.drop a) = R
  have HR0 : Hid (a + skipL false (s.data.toList.drop a) = R) := hR
  clear hR
  go_enter Tryd.func49, Tryd.ntmps49
  go_wp2
  go_loop [1, 5] (fun i b => ∃ (k : Nat) (rm : Bool), k ≤ s.size ∧ i = .int .i64 k ∧ b = .bool rm ∧ Hid (k + skipL rm (s.data.toList.drop k) = R)) (fun i b => s.size - (intOf i).toNat)
  case atStart => exact ⟨a, false, ha, rfl, rfl, HR0⟩
  case round =>
    clear HR0
    obtain ⟨k, rm, hk, rfl, rfl, HA⟩ := hrel
    by_cases hlt : k < s.size
    · have hA := HA.out
      rw [drop_consB s k hlt] at hA
      simp only [skipL] at hA
      have h10 : ((s[k].toNat : Int) == 10) = (s[k] == 10) := eqU s[k] 10
      have h37 : ((s[k].toNat : Int) == 37) = (s[k] == 37) := eqU s[k] 37
      clear HA
      cases g10 : (s[k] == 10) with
      | true =>
        rw [g10] at h10 hA
        simp only [if_true] at hA
        have HN : Hid (k + 1 + skipL false (s.data.toList.drop (k + 1)) = R) := by rw [Hid, ← hA]; omega
        clear g10 hA h37
        go_wp2
        go_round
        case rel => exact ⟨k + 1, false, by omega, by go_num, rfl, HN⟩
        case measure => simp [intOf]; omega
      | false =>
        rw [g10] at h10 hA
        simp only [Bool.false_eq_true, if_false] at hA
        cases g37 : (s[k] == 37) with
        | true =>
          rw [g37] at h37 hA
          simp only [if_true] at hA
          have HN : Hid (k + 1 + skipL true (s.data.toList.drop (k + 1)) = R) := by rw [Hid, ← hA]; omega
          clear g10 g37 hA
          go_wp2
          go_round
          case rel => exact ⟨k + 1, true, by omega, by go_num, rfl, HN⟩
          case measure => simp [intOf]; omega
        | false =>
          rw [g37] at h37 hA
          simp only [Bool.false_eq_true, if_false] at hA
          cases rm with
          | true =>
            simp only [Bool.true_or, if_true] at hA
            have HN : Hid (k + 1 + skipL true (s.data.toList.drop (k + 1)) = R) := by rw [Hid, ← hA]; omega
            clear g10 g37 hA
            go_wp2
            go_round
            case rel => exact ⟨k + 1, true, by omega, by go_num, rfl, HN⟩
            case measure => simp [intOf]; omega
          | false =>
            cases gb : blankB s[k] with
            | true =>
              rw [gb] at hA
              simp only [Bool.or_true, if_true] at hA
              have HN : Hid (k + 1 + skipL false (s.data.toList.drop (k + 1)) = R) := by rw [Hid, ← hA]; omega
              have GB := mkHid gb
              clear g10 g37 hA gb
              go_wp2_with (go_at_call 62; refine (rBlank_lit GB.out).mono ?_; rintro e w' ⟨rfl, rfl⟩)
              go_round
              case rel => exact ⟨k + 1, false, by omega, by go_num, rfl, HN⟩
              case measure => simp [intOf]; omega
            | false =>
              rw [gb] at hA
              simp only [Bool.or_false, Bool.false_eq_true, if_false] at hA
              have HN : Hid ((k : Int) = (R : Int)) := by rw [Hid, ← hA]; omega
              have GB := mkHid gb
              clear g10 g37 hA gb
              go_wp2_with (go_at_call 62; refine (rBlank_lit GB.out).mono ?_; rintro e w' ⟨rfl, rfl⟩)
              go_ret
              exact ⟨ret_int HN.out, rfl⟩
    · have HN : Hid ((k : Int) = (R : Int)) := by
        have h := HA.out
        rw [List.drop_of_length_le (by simp; omega)] at h
        rw [Hid, ← h]; simp [skipL]
      clear HA
      go_wp2
      go_ret
      exact ⟨ret_int HN.out, rfl⟩

set_option maxHeartbeats 1600000 in
theorem rRow1 (s : ByteArray) (a : Nat) (w : World) (hs : s.size ≤ 1000000) (ha : a ≤ s.size) :
    Calls Tryd.prog 65 #[.string s, .int .i64 (a : Int), .int .i64 1] w fun e w' => e = .returned (.int .i64 ((a + span letterB (s.data.toList.drop a) : Nat) : Int)) ∧ w = w' := by
  generalize hR : a + span letterB (s.data.toList.drop a) = R
  have HR0 : Hid (a + span letterB (s.data.toList.drop a) = R) := hR
  clear hR
  go_enter Tryd.func65, Tryd.ntmps65
  go_wp2
  go_loop [1] (fun i => ∃ k : Nat, k ≤ s.size ∧ i = .int .i64 k ∧ Hid (k + span letterB (s.data.toList.drop k) = R)) (fun i => s.size - (intOf i).toNat)
  case atStart => exact ⟨a, ha, rfl, HR0⟩
  case round =>
    clear HR0
    obtain ⟨k, hk, rfl, HA⟩ := hrel
    by_cases hlt : k < s.size
    · have hA := HA.out
      rw [drop_consB s k hlt] at hA
      clear HA
      cases g : letterB s[k] with
      | true =>
        rw [show span letterB (s[k] :: s.data.toList.drop (k + 1)) = span letterB (s.data.toList.drop (k + 1)) + 1 by simp [span, g]] at hA
        have HN : Hid (k + 1 + span letterB (s.data.toList.drop (k + 1)) = R) := by rw [Hid, ← hA]; omega
        have G := mkHid g
        clear hA g
        go_wp2_with (go_at_call 89; refine (rLetter_lit G.out).mono ?_; rintro e w' ⟨rfl, rfl⟩)
        go_round
        case rel => exact ⟨k + 1, by omega, by go_num, HN⟩
        case measure => simp [intOf]; omega
      | false =>
        rw [show span letterB (s[k] :: s.data.toList.drop (k + 1)) = 0 by simp [span, g]] at hA
        have HN : Hid ((k : Int) = (R : Int)) := by rw [Hid, ← hA]; omega
        have G := mkHid g
        clear hA g
        go_wp2_with (go_at_call 89; refine (rLetter_lit G.out).mono ?_; rintro e w' ⟨rfl, rfl⟩)
        go_ret
        exact ⟨ret_int HN.out, rfl⟩
    · have HN : Hid ((k : Int) = (R : Int)) := by
        have h := HA.out
        rw [List.drop_of_length_le (by simp; omega)] at h
        rw [Hid, ← h]; simp [span]
      clear HA
      go_wp2
      go_ret
      exact ⟨ret_int HN.out, rfl⟩

set_option maxHeartbeats 1600000 in
theorem rRow2 (s : ByteArray) (a : Nat) (w : World) (hs : s.size ≤ 1000000) (ha : a ≤ s.size) :
    Calls Tryd.prog 65 #[.string s, .int .i64 (a : Int), .int .i64 2] w fun e w' => e = .returned (.int .i64 ((a + span digitB (s.data.toList.drop a) : Nat) : Int)) ∧ w = w' := by
  generalize hR : a + span digitB (s.data.toList.drop a) = R
  have HR0 : Hid (a + span digitB (s.data.toList.drop a) = R) := hR
  clear hR
  go_enter Tryd.func65, Tryd.ntmps65
  go_wp2
  go_loop [1] (fun i => ∃ k : Nat, k ≤ s.size ∧ i = .int .i64 k ∧ Hid (k + span digitB (s.data.toList.drop k) = R)) (fun i => s.size - (intOf i).toNat)
  case atStart => exact ⟨a, ha, rfl, HR0⟩
  case round =>
    clear HR0
    obtain ⟨k, hk, rfl, HA⟩ := hrel
    by_cases hlt : k < s.size
    · have hA := HA.out
      rw [drop_consB s k hlt] at hA
      clear HA
      cases g : digitB s[k] with
      | true =>
        rw [show span digitB (s[k] :: s.data.toList.drop (k + 1)) = span digitB (s.data.toList.drop (k + 1)) + 1 by simp [span, g]] at hA
        have HN : Hid (k + 1 + span digitB (s.data.toList.drop (k + 1)) = R) := by rw [Hid, ← hA]; omega
        have G := mkHid g
        clear hA g
        go_wp2_with (go_at_call 67; refine (rDigit_lit G.out).mono ?_; rintro e w' ⟨rfl, rfl⟩)
        go_round
        case rel => exact ⟨k + 1, by omega, by go_num, HN⟩
        case measure => simp [intOf]; omega
      | false =>
        rw [show span digitB (s[k] :: s.data.toList.drop (k + 1)) = 0 by simp [span, g]] at hA
        have HN : Hid ((k : Int) = (R : Int)) := by rw [Hid, ← hA]; omega
        have G := mkHid g
        clear hA g
        go_wp2_with (go_at_call 67; refine (rDigit_lit G.out).mono ?_; rintro e w' ⟨rfl, rfl⟩)
        go_ret
        exact ⟨ret_int HN.out, rfl⟩
    · have HN : Hid ((k : Int) = (R : Int)) := by
        have h := HA.out
        rw [List.drop_of_length_le (by simp; omega)] at h
        rw [Hid, ← h]; simp [span]
      clear HA
      go_wp2
      go_ret
      exact ⟨ret_int HN.out, rfl⟩

set_option maxHeartbeats 1600000 in
theorem rRow3 (s : ByteArray) (a : Nat) (w : World) (hs : s.size ≤ 1000000) (ha : a ≤ s.size) :
    Calls Tryd.prog 65 #[.string s, .int .i64 (a : Int), .int .i64 3] w fun e w' => e = .returned (.int .i64 ((a + span signB (s.data.toList.drop a) : Nat) : Int)) ∧ w = w' := by
  generalize hR : a + span signB (s.data.toList.drop a) = R
  have HR0 : Hid (a + span signB (s.data.toList.drop a) = R) := hR
  clear hR
  go_enter Tryd.func65, Tryd.ntmps65
  go_wp2
  go_loop [1] (fun i => ∃ k : Nat, k ≤ s.size ∧ i = .int .i64 k ∧ Hid (k + span signB (s.data.toList.drop k) = R)) (fun i => s.size - (intOf i).toNat)
  case atStart => exact ⟨a, ha, rfl, HR0⟩
  case round =>
    clear HR0
    obtain ⟨k, hk, rfl, HA⟩ := hrel
    by_cases hlt : k < s.size
    · have hA := HA.out
      rw [drop_consB s k hlt] at hA
      clear HA
      cases g : signB s[k] with
      | true =>
        rw [show span signB (s[k] :: s.data.toList.drop (k + 1)) = span signB (s.data.toList.drop (k + 1)) + 1 by simp [span, g]] at hA
        have HN : Hid (k + 1 + span signB (s.data.toList.drop (k + 1)) = R) := by rw [Hid, ← hA]; omega
        have G := mkHid g
        clear hA g
        go_wp2_with (go_at_call 71; refine (rSign_lit G.out).mono ?_; rintro e w' ⟨rfl, rfl⟩)
        go_round
        case rel => exact ⟨k + 1, by omega, by go_num, HN⟩
        case measure => simp [intOf]; omega
      | false =>
        rw [show span signB (s[k] :: s.data.toList.drop (k + 1)) = 0 by simp [span, g]] at hA
        have HN : Hid ((k : Int) = (R : Int)) := by rw [Hid, ← hA]; omega
        have G := mkHid g
        clear hA g
        go_wp2_with (go_at_call 71; refine (rSign_lit G.out).mono ?_; rintro e w' ⟨rfl, rfl⟩)
        go_ret
        exact ⟨ret_int HN.out, rfl⟩
    · have HN : Hid ((k : Int) = (R : Int)) := by
        have h := HA.out
        rw [List.drop_of_length_le (by simp; omega)] at h
        rw [Hid, ← h]; simp [span]
      clear HA
      go_wp2
      go_ret
      exact ⟨ret_int HN.out, rfl⟩
end Go.Proofs.YtabjghmfjoefpaaDoor
namespace Go.Proofs.YtabjghmfjoefpaaDoor

/-! ### where tokens stand -/
/-- what is passed over: the state behind it, or none -/
def pst : Bool → List UInt8 → Option Bool
  | b, [] => some b
  | b, c :: r => if c == 10 then pst false r else if c == 37 then pst true r else if b || c == 32 || c == 9 || c == 13 then pst b r else none
theorem pst_app (x y : List UInt8) : ∀ b, pst b (x ++ y) = (pst b x).bind fun b' => pst b' y := by
  induction x with
  | nil => intro b; rfl
  | cons c x ih =>
    intro b
    simp only [List.cons_append, pst]
    split
    · exact ih _
    split
    · exact ih _
    split
    · exact ih _
    · rfl
inductive Ord (L : List UInt8) : Nat → List Tok → Prop where
  | nil {e : Nat} (h1 : e ≤ L.length) (h2 : (pst false (L.drop e)).isSome = true) : Ord L e []
  | cons {e p : Nat} {k : Int} {t : List UInt8} {n : Int} {len : Nat} {ts : List Tok} (h1 : e ≤ p) (h2 : p < L.length) (h3 : (pst false ((L.drop e).take (p - e))).isSome = true) (h4 : TokIs (L.drop p) k t n len) (h5 : Ord L (p + len) ts) : Ord L e (⟨k, mkB t, n, p⟩ :: ts)
theorem take_step {L : List UInt8} {e q : Nat} {c : UInt8} {r : List UInt8} (he : e ≤ q) (hd : L.drop q = c :: r) : (L.drop e).take (q + 1 - e) = (L.drop e).take (q - e) ++ [c] := by
  have hq : q < L.length := by
    rcases Nat.lt_or_ge q L.length with h | h
    · exact h
    · rw [List.drop_of_length_le h] at hd; cases hd
  have hc : L[q] = c := by
    rw [List.drop_eq_getElem_cons hq] at hd
    exact (List.cons.inj hd).1
  rw [show q + 1 - e = (q - e) + 1 by omega, List.take_succ_eq_append_getElem (by rw [List.length_drop]; omega)]
  simp only [List.getElem_drop]
  rw [show L[e + (q - e)]'(by omega) = L[q] by congr 1; omega, hc]
theorem drop_tl {L : List UInt8} {q : Nat} {c : UInt8} {r : List UInt8} (hd : L.drop q = c :: r) : L.drop (q + 1) = r := by
  rw [← List.drop_drop, hd]; rfl
theorem lex_ord (L : List UInt8) : ∀ (n q e : Nat) (rm : Bool) (ts : List Tok), L.length - q ≤ n → e ≤ q → q ≤ L.length → pst false ((L.drop e).take (q - e)) = some rm → lexW rm (L.drop q) q = .ok ts → Ord L e ts := by
  intro n
  induction n with
  | zero =>
    intro q e rm ts hn he hq hp h
    have hqe : q = L.length := by omega
    subst hqe
    rw [List.drop_length, lexW_nil] at h
    cases h
    refine .nil he ?_
    rw [List.take_of_length_le (by simp)] at hp
    rw [hp]; rfl
  | succ n ih =>
    intro q e rm ts hn he hq hp h
    cases hd : L.drop q with
    | nil =>
      have hlen : L.length ≤ q := by
        have := congrArg List.length hd
        simp at this; omega
      rw [hd, lexW_nil] at h
      cases h
      refine .nil (by omega) ?_
      rw [List.take_of_length_le (by simp; omega)] at hp
      rw [hp]; rfl
    | cons c r =>
      have hlt : q < L.length := by
        rcases Nat.lt_or_ge q L.length with h | h
        · exact h
        · rw [List.drop_of_length_le h] at hd; cases hd
      have hr := drop_tl hd
      have hst : ∀ b, pst rm [c] = some b → pst false ((L.drop e).take (q + 1 - e)) = some b := by
        intro b hb
        rw [take_step he hd, pst_app, hp]; exact hb
      rw [hd] at h
      cases rm with
      | true =>
        rw [lexW_rem, ← hr] at h
        refine ih (q + 1) e (notNl c) ts (by omega) (by omega) (by omega) (hst _ ?_) h
        simp only [pst, notNl]
        cases h1 : (c == 10) with
        | true => rfl
        | false => cases h2 : (c == 37) <;> rfl
      | false =>
        cases h1 : blankB c with
        | true =>
          rw [lexW_blank h1, ← hr] at h
          refine ih (q + 1) e false ts (by omega) (by omega) (by omega) (hst _ ?_) h
          simp only [blankB, Bool.or_eq_true, beq_iff_eq] at h1
          rcases h1 with ((rfl | rfl) | rfl) | rfl <;> rfl
        | false =>
          cases h2 : (c == 37) with
          | true =>
            obtain rfl : c = 37 := by simpa using h2
            rw [lexW_perc, ← hr] at h
            exact ih (q + 1) e true ts (by omega) (by omega) (by omega) (hst _ rfl) h
          | false =>
            cases ht : tokL (c :: r) with
            | pass m => exact absurd ht (tokL_pass _ _)
            | err e' => rw [lexW_err h1 h2 ht] at h; cases h
            | tok k t nn len =>
              have hl := tokL_len ht
              have hl' : len ≤ L.length - q := by
                have := hl.2
                rw [← hd, List.length_drop] at this; exact this
              rw [lexW_tok h1 h2 ht, ← hd, List.drop_drop] at h
              cases hx : lexW false (L.drop (q + len)) (q + len) with
              | error e' => rw [hx] at h; cases h
              | ok us =>
                rw [hx] at h
                simp only [conR] at h
                cases h
                refine .cons he hlt (by rw [hp]; rfl) (by rw [hd]; exact tokL_is ht) ?_
                exact ih (q + len) (q + len) false us (by omega) (Nat.le_refl _) (by omega) (by simp [pst]) hx
theorem lexW_ord {L : List UInt8} {ts : List Tok} (h : lexW false L 0 = .ok ts) : Ord L 0 ts :=
  lex_ord L L.length 0 0 false ts (by omega) (Nat.le_refl _) (by omega) rfl h
/-- a token's text -/
theorem TokIs.text {c : UInt8} {r : List UInt8} {k : Int} {t : List UInt8} {n : Int} {len : Nat} (h : TokIs (c :: r) k t n len) : 1 ≤ t.length ∧ ((c = 39 ∧ len = t.length + 2 ∧ r.take t.length = t ∧ t.length < r.length) ∨ (c ≠ 39 ∧ len = t.length ∧ (c :: r).take t.length = t ∧ t.length ≤ (c :: r).length)) := by
  cases h with
  | name h hl =>
    refine ⟨span_pos (small_letter h), .inr ⟨?_, rfl, take_span _ _, span_le _ _⟩⟩
    rintro rfl; exact absurd h (by decide)
  | var h hl =>
    refine ⟨span_pos (great_letter h), .inr ⟨?_, rfl, take_span _ _, span_le _ _⟩⟩
    rintro rfl; exact absurd h (by decide)
  | num h hl =>
    refine ⟨span_pos h, .inr ⟨?_, rfl, take_span _ _, span_le _ _⟩⟩
    rintro rfl; exact absurd h (by decide)
  | quo h =>
    simp only [quoB, Bool.and_eq_true, decide_eq_true_eq] at h
    exact ⟨h.1.1.2, .inl ⟨rfl, rfl, take_span _ _, h.1.1.1⟩⟩
  | punct h =>
    refine ⟨by simp, .inr ⟨?_, rfl, rfl, by simp⟩⟩
    rintro rfl; exact absurd h (by decide)
  | stop h => exact ⟨by simp, .inr ⟨by decide, rfl, rfl, by simp⟩⟩
  | sign h hs hl =>
    refine ⟨span_pos h, .inr ⟨?_, rfl, take_span _ _, span_le _ _⟩⟩
    rintro rfl; exact absurd h (by decide)
end Go.Proofs.YtabjghmfjoefpaaDoor
namespace Go.Proofs.YtabjghmfjoefpaaDoor
open Go.RowKit

theorem neU (c d : UInt8) : ((c.toNat : Int) != (d.toNat : Int)) = !(c == d) := by rw [bne, eqU]
end Go.Proofs.YtabjghmfjoefpaaDoor
namespace Go.Proofs.YtabjghmfjoefpaaDoor
open Go.RowKit

theorem Ord.step {L : List UInt8} {e : Nat} {u : Tok} {us : List Tok} (h : Ord L e (u :: us)) : ∃ (p : Nat) (k : Int) (t : List UInt8) (n : Int) (len : Nat), u = ⟨k, mkB t, n, p⟩ ∧ e ≤ p ∧ p < L.length ∧ (pst false ((L.drop e).take (p - e))).isSome = true ∧ TokIs (L.drop p) k t n len ∧ Ord L (p + len) us := by
  cases h with
  | cons h1 h2 h3 h4 h5 => exact ⟨_, _, _, _, _, rfl, h1, h2, h3, h4, h5⟩
theorem Ord.stop {L : List UInt8} {e : Nat} (h : Ord L e []) : e ≤ L.length ∧ (pst false (L.drop e)).isSome = true := by
  cases h with
  | nil h1 h2 => exact ⟨h1, h2⟩
theorem cut_list (s : ByteArray) (a b : Nat) : (s.extract a b).data.toList = (s.data.toList.drop a).take (b - a) := by
  simp [ByteArray.data_extract, List.extract]
theorem cut_eq {s : ByteArray} {a b : Nat} {t : List UInt8} (h : (s.data.toList.drop a).take (b - a) = t) : s.extract a b = mkB t := by
  have h1 := cut_list s a b
  rw [h] at h1
  apply ByteArray.ext
  rw [← Array.toList_inj, h1]
  simp [mkB]
/-- what is known of a token where it stands -/
theorem tok_here {s : ByteArray} {p : Nat} {k : Int} {t : List UInt8} {n : Int} {len : Nat} (hp : p < s.size) (h : TokIs (s.data.toList.drop p) k t n len) :
    1 ≤ (mkB t).size ∧ ((s[p] = 39 ∧ len = (mkB t).size + 2 ∧ s.extract (p + 1) (p + 1 + (mkB t).size) = mkB t ∧ p + 1 + (mkB t).size < s.size) ∨ (s[p] ≠ 39 ∧ len = (mkB t).size ∧ s.extract p (p + (mkB t).size) = mkB t ∧ p + (mkB t).size ≤ s.size)) := by
  rw [drop_consB s p hp] at h
  obtain ⟨h1, h2⟩ := h.text
  rw [mkB_size]
  refine ⟨h1, ?_⟩
  rcases h2 with ⟨e, h3, h4, h5⟩ | ⟨e, h3, h4, h5⟩
  · refine .inl ⟨e, h3, cut_eq (by rw [show p + 1 + t.length - (p + 1) = t.length by omega]; exact h4), ?_⟩
    rw [List.length_drop, size_list] at h5; omega
  · refine .inr ⟨e, h3, cut_eq (by rw [show p + t.length - p = t.length by omega, drop_consB s p hp]; exact h4), ?_⟩
    rw [List.length_cons, List.length_drop, size_list] at h5; omega

end Go.Proofs.YtabjghmfjoefpaaDoor
namespace Go.Proofs.YtabjghmfjoefpaaDoor
open Go.RowKit

/-- what the document's token tells -/
def refV (p : Nat) : Step → Value
  | .pass _ => .tuple #[]
  | .tok k t n len => .tuple #[.agg #[.int .i64 k, .string (mkB t), .int .i64 n, .int .i64 (p : Int)], .int .i64 ((p + len : Nat) : Int), .int .i64 0]
  | .err e => .tuple #[noTok, .int .i64 (p : Int), .int .i64 e]
theorem cut_span (s : ByteArray) (a : Nat) (p : UInt8 → Bool) : s.extract a (a + span p (s.data.toList.drop a)) = mkB ((s.data.toList.drop a).takeWhile p) := by
  rw [← take_span]
  exact cut_eq (by rw [Nat.add_sub_cancel_left])
set_option maxRecDepth 20000 in
theorem rShort_no (s : ByteArray) (a b : Nat) (k : Int) (w : World) (hs : s.size ≤ 1000000) (hab : a ≤ b) (hb : b ≤ s.size) (h : 12 < b - a) :
    Calls Tryd.prog 64 #[.string s, .int .i64 (a : Int), .int .i64 (b : Int), .int .i64 k] w fun e w' => e = .returned (.tuple #[noTok, .int .i64 (a : Int), .int .i64 2]) ∧ Below w.heap.size w w' := by
  have t : decide ((12 : Int) < (b : Int) - (a : Int)) = true := by simp; omega
  have hb0 := (Below.refl w.heap.size w).new (.cells #[.int .i64 0, .string ⟨#[]⟩, .int .i64 0, .int .i64 0] 55)
  go_enter Tryd.func64, Tryd.ntmps64
  go_wp2
  refine bodyPost_ret (v := .tuple #[noTok, .int .i64 (a : Int), .int .i64 2]) (by simp [results, Tryd.results64, go_sem]) rfl ⟨rfl, ?_⟩
  exact hb0
set_option maxRecDepth 20000 in
theorem rShort_yes (s : ByteArray) (a b : Nat) (k : Int) (w : World) (hs : s.size ≤ 1000000) (hab : a ≤ b) (hb : b ≤ s.size) (h : b - a ≤ 12) :
    Calls Tryd.prog 64 #[.string s, .int .i64 (a : Int), .int .i64 (b : Int), .int .i64 k] w fun e w' => e = .returned (.tuple #[.agg #[.int .i64 k, .string (s.extract a b), .int .i64 0, .int .i64 (a : Int)], .int .i64 (b : Int), .int .i64 0]) ∧ Below w.heap.size w w' := by
  have t : decide ((12 : Int) < (b : Int) - (a : Int)) = false := by simp; omega
  have c1 : (a : Int) ≤ (b : Int) := by omega
  have c2 : (b : Int) ≤ (s.size : Int) := by omega
  have hb0 := (Below.refl w.heap.size w).new (.cells #[.int .i64 k, .string (s.extract a b), .int .i64 0, .int .i64 (a : Int)] 55)
  go_enter Tryd.func64, Tryd.ntmps64
  go_wp2
  refine bodyPost_ret (v := .tuple #[.agg #[.int .i64 k, .string (s.extract a b), .int .i64 0, .int .i64 (a : Int)], .int .i64 (b : Int), .int .i64 0]) (by simp [results, Tryd.results64, go_sem]) rfl ⟨rfl, ?_⟩
  exact hb0

/-! ### the document's number -/
theorem decFrom_app (n : Nat) (l m : List UInt8) : decFrom n (l ++ m) = decFrom (decFrom n l) m := by
  unfold decFrom; rw [List.foldl_append]
theorem decN_snoc (l : List UInt8) (c : UInt8) : decN (l ++ [c]) = decN l * 10 + (c.toNat - 48) := by
  show decFrom 0 (l ++ [c]) = _
  rw [decFrom_app]; rfl
theorem decN_take_le (l : List UInt8) (k : Nat) : decN (l.take k) ≤ decN l := by
  show _ ≤ decFrom 0 l
  rw [← List.take_append_drop k l, decFrom_app]
  simp only [List.take_append_drop]
  exact decFrom_le _ _
set_option maxHeartbeats 3200000 in
set_option maxRecDepth 20000 in
theorem rNumber (s : ByteArray) (a : Nat) (w : World) (hs : s.size ≤ 1000000) (ha : a ≤ s.size) :
    Calls Tryd.prog 68 #[.string s, .int .i64 (a : Int)] w fun e w' => e = .returned (refV a (numS (s.data.toList.drop a))) ∧ Below w.heap.size w w' := by
  obtain ⟨D, hD⟩ : ∃ D, D = (s.data.toList.drop a).takeWhile digitB := ⟨_, rfl⟩
  obtain ⟨N, hN⟩ : ∃ N, N = span digitB (s.data.toList.drop a) := ⟨_, rfl⟩
  have hDl : D.length = N := by rw [hD, hN]; rfl
  have hNs : a + N ≤ s.size := by
    have h1 := span_le digitB (s.data.toList.drop a)
    rw [List.length_drop, size_list, ← hN] at h1; omega
  have hx : s.extract a (a + N) = mkB D := by rw [hN, hD]; exact cut_span s a digitB
  have hnum : numS (s.data.toList.drop a) = if 2147483647 < decN D then .err 2 else .tok 3 D (decN D) N := by unfold numS; rw [← hD, ← hN]
  have hall : D.all digitB = true := by rw [hD]; exact takeWhile_all _
  have hget : ∀ i (hi : a ≤ i) (hj : i < a + N), ∃ h : i < s.size, D.take (i + 1 - a) = D.take (i - a) ++ [s[i]] ∧ digitB (s[i]) = true := by
    intro i hi hj
    obtain ⟨j, rfl⟩ : ∃ j, i = a + j := ⟨i - a, by omega⟩
    rw [show a + j + 1 - a = j + 1 by omega, show a + j - a = j by omega]
    have hj : j < N := by omega
    have h : a + j < s.size := by omega
    have hjD : j < D.length := by omega
    have e : D[j] = s[a + j] := by
      have h1 : D.take N = (s.data.toList.drop a).take N := by rw [List.take_of_length_le (by omega), hD, hN, take_span]
      have h2 : (D.take N)[j]? = ((s.data.toList.drop a).take N)[j]? := by rw [h1]
      rw [List.getElem?_take_of_lt hj, List.getElem?_take_of_lt hj, List.getElem?_drop, List.getElem?_eq_getElem hjD] at h2
      have h3 : s.data.toList[a + j]? = some s[a + j] := by
        rw [List.getElem?_eq_getElem (by rw [size_list]; exact h)]; rfl
      rw [h3] at h2
      exact Option.some.inj h2
    refine ⟨h, by rw [List.take_succ_eq_append_getElem hjD, e], ?_⟩
    rw [← e]
    exact List.all_eq_true.1 hall _ (List.getElem_mem hjD)
  have HG := mkHid hget
  have HX := mkHid hx
  have HN := mkHid hnum
  have HDl := mkHid hDl
  have HNN := mkHid hN
  have hb0 := (Below.refl w.heap.size w).new (.cells #[.int .i64 0, .string ⟨#[]⟩, .int .i64 0, .int .i64 0] 55)
  clear hD hN hDl hx hnum hall hget
  go_enter Tryd.func68, Tryd.ntmps68
  go_wp2_with fail
  refine (rRow2 s a _ hs ha).mono ?_; rintro e w1 ⟨rfl, rfl⟩
  rw [← HNN.out]
  go_wp2
  go_loop [8, 9] (fun n i => ∃ k m : Nat, a ≤ k ∧ k ≤ a + N ∧ i = .int .i64 (k : Int) ∧ n = .int .i64 (m : Int) ∧ m ≤ 2147483647 ∧ Hid (m = decN (D.take (k - a)))) (fun n i => N + a - (intOf i).toNat)
  case atStart => exact ⟨a, 0, Nat.le_refl _, by omega, rfl, rfl, by omega, by rw [Hid, Nat.sub_self]; rfl⟩
  case round =>
    obtain ⟨k, m, hak, hk, rfl, rfl, hm, HM⟩ := hrel
    by_cases hlt : k < a + N
    · obtain ⟨hks, htk, hdg⟩ := HG.out k hak hlt
      have hd := digit_nat hdg
      have hdec : decN (D.take (k + 1 - a)) = m * 10 + (s[k].toNat - 48) := by rw [htk, decN_snoc, HM.out]
      have i2 : (k : Int) < (a : Int) + (N : Int) := by omega
      have hdi0 : (48 : Int) ≤ (s[k].toNat : Int) := by omega
      have hdi1 : (s[k].toNat : Int) ≤ 57 := by omega
      have HD := mkHid hdec
      obtain ⟨m', hm'⟩ : ∃ m', m' = m * 10 + (s[k].toNat - 48) := ⟨_, rfl⟩
      have hmi : (m : Int) * 10 + ((s[k].toNat : Int) - 48) = (m' : Int) := by omega
      rw [← hm'] at HD
      clear htk hdg hd hm' hdec
      by_cases hbig : 2147483647 < m'
      · have HR : Hid (numS (s.data.toList.drop a) = .err 2) := by
          rw [Hid, HN.out, if_pos]
          have := decN_take_le D (k + 1 - a)
          rw [HD.out] at this
          omega
        have tb : decide ((2147483647 : Int) < (m : Int) * 10 + ((s[k].toNat : Int) - 48)) = true := by rw [hmi]; simp; omega
        clear hmi HM
        go_wp2
        rw [HR.out]
        refine bodyPost_ret (v := refV a (.err 2)) (by simp [refV, results, Tryd.results68, go_sem]) rfl ⟨rfl, ?_⟩
        exact hb0
      · have HM' : Hid (m' = decN (D.take (k + 1 - a))) := HD.out.symm
        have tb : decide ((2147483647 : Int) < (m : Int) * 10 + ((s[k].toNat : Int) - 48)) = false := by rw [hmi]; simp; omega
        have HMI := mkHid hmi
        clear hmi HM HD
        go_wp2
        go_round
        case rel => exact ⟨k + 1, m', by omega, by omega, by go_num, by rw [HMI.out], by omega, HM'⟩
        case measure => simp [intOf]; omega
    · obtain rfl : k = a + N := by omega
      have hml : m = decN D := by
        have h := HM.out
        rw [Nat.add_sub_cancel_left, List.take_of_length_le (by rw [HDl.out]; omega)] at h
        exact h
      have HR : Hid (numS (s.data.toList.drop a) = .tok 3 D m N) := by rw [Hid, HN.out, if_neg (by omega), hml]
      have c1 : (a : Int) ≤ (a : Int) + (N : Int) := by omega
      have c2 : (a : Int) + (N : Int) ≤ (s.size : Int) := by omega
      have c3 : ((a : Int) + (N : Int)).toNat = a + N := by omega
      have hbN := (Below.refl w.heap.size w).new (.cells #[.int .i64 3, .string (s.extract a (a + N)), .int .i64 (m : Int), .int .i64 (a : Int)] 55)
      clear hml HM
      go_wp2
      rw [HR.out]
      refine bodyPost_ret (v := refV a (.tok 3 D m N)) (by simp [refV, results, Tryd.results68, go_sem, HX.out]) rfl ⟨rfl, ?_⟩
      exact hbN
end Go.Proofs.YtabjghmfjoefpaaDoor
namespace Go.Proofs.YtabjghmfjoefpaaDoor
open Go.RowKit

section
variable {r y : List UInt8} {c : UInt8} {j : Nat}
theorem q_hit (h1 : (r.take j).all notQ = true) (h2 : (r.take j).all seenB = true) (hd : r.drop j = 39 :: y) (hj : 1 ≤ j) (hj2 : j ≤ 12) : quoS r = .tok 1 (r.take j) 0 (j + 2) := by
  have hs : span notQ r = j := span_stop h1 hd (by decide)
  have ht : r.takeWhile notQ = r.take j := by rw [← take_span, hs]
  have hl : j < r.length := by
    rcases Nat.lt_or_ge j r.length with h | h
    · exact h
    · rw [List.drop_of_length_le h] at hd; cases hd
  have hq : quoB r = true := by
    unfold quoB
    rw [hs, ht, h2, decide_eq_true hl, decide_eq_true hj, decide_eq_true hj2]; rfl
  unfold quoS
  rw [if_pos hq, ht, hs]
theorem quo_no (h : quoB r = false) : quoS r = .err 41 := by unfold quoS; rw [h]; rfl
theorem q_zero (hd : r = 39 :: y) : quoS r = .err 41 := by
  subst hd
  refine quo_no ?_
  have : span notQ (39 :: y) = 0 := by simp [span, show notQ 39 = false by decide]
  unfold quoB
  rw [this]; simp
theorem q_unseen (h1 : (r.take j).all notQ = true) (hd : r.drop j = c :: y) (hc : notQ c = true) (hs : seenB c = false) : quoS r = .err 41 := by
  refine quo_no ?_
  have e : r = r.take j ++ c :: y := by rw [← hd, List.take_append_drop]
  have ha : (r.takeWhile notQ).all seenB = false := by
    rw [e, List.takeWhile_append_of_pos (by simpa using h1), List.all_append, List.takeWhile_cons_of_pos hc, List.all_cons, hs]
    simp
  unfold quoB
  rw [ha]; simp
theorem q_end (h1 : r.all notQ = true) : quoS r = .err 41 := by
  refine quo_no ?_
  have : span notQ r = r.length := span_all h1
  unfold quoB
  rw [this]; simp
theorem q_long (h1 : (r.take 13).all notQ = true) (hl : 13 ≤ r.length) : quoS r = .err 41 := by
  refine quo_no ?_
  have h2 : 13 ≤ span notQ r := by
    have e : r = r.take 13 ++ r.drop 13 := (List.take_append_drop 13 r).symm
    unfold span
    rw [e, List.takeWhile_append_of_pos (by simpa using h1), List.length_append, List.length_take]
    omega
  unfold quoB
  rw [decide_eq_false (show ¬ span notQ r ≤ 12 by omega)]; simp
end
set_option maxHeartbeats 3200000 in
set_option maxRecDepth 20000 in
theorem rQuoted (s : ByteArray) (a : Nat) (w : World) (hs : s.size ≤ 1000000) (ha : a < s.size) :
    Calls Tryd.prog 69 #[.string s, .int .i64 (a : Int)] w fun e w' => e = .returned (refV a (quoS (s.data.toList.drop (a + 1)))) ∧ Below w.heap.size w w' := by
  obtain ⟨Q, hQ⟩ : ∃ Q, Q = quoS (s.data.toList.drop (a + 1)) := ⟨_, rfl⟩
  rw [← hQ]
  have HQ := mkHid hQ
  have hb0 := (Below.refl w.heap.size w).new (.cells #[.int .i64 0, .string ⟨#[]⟩, .int .i64 0, .int .i64 0] 55)
  clear hQ
  go_enter Tryd.func69, Tryd.ntmps69
  go_wp2
  go_loop [7] (fun i => ∃ k : Nat, a + 1 ≤ k ∧ k ≤ s.size ∧ k ≤ a + 14 ∧ i = .int .i64 (k : Int) ∧ Hid (((s.data.toList.drop (a + 1)).take (k - (a + 1))).all notQ = true ∧ ((s.data.toList.drop (a + 1)).take (k - (a + 1))).all seenB = true)) (fun i => s.size - (intOf i).toNat)
  case atStart => exact ⟨a + 1, Nat.le_refl _, by omega, by omega, by simp, by rw [Hid, Nat.sub_self]; exact ⟨rfl, rfl⟩⟩
  case round =>
    obtain ⟨k, hak, hk, hk14, rfl, HA⟩ := hrel
    by_cases hlt : k < s.size
    · by_cases h13 : k ≤ a + 13
      · obtain ⟨hA1, hA2⟩ := HA.out
        obtain ⟨j, hj⟩ : ∃ j, j = k - (a + 1) := ⟨_, rfl⟩
        rw [← hj] at hA1 hA2
        have hd : (s.data.toList.drop (a + 1)).drop j = s[k] :: s.data.toList.drop (k + 1) := by
          rw [List.drop_drop, show a + 1 + j = k by omega]; exact drop_consB s k hlt
        have e39 : ((s[k].toNat : Int) == 39) = (s[k] == 39) := eqU s[k] 39
        have b2 : (k : Int) ≤ (a : Int) + 12 + 1 := by omega
        clear HA
        cases g39 : (s[k] == 39) with
        | true =>
          have h39 : s[k] = 39 := by simpa using g39
          rw [g39] at e39
          rw [h39] at hd
          by_cases hj0 : 1 ≤ j
          · have hh := q_hit hA1 hA2 hd hj0 (by omega)
            have hcut : s.extract (a + 1) k = mkB ((s.data.toList.drop (a + 1)).take j) := cut_eq (by rw [hj])
            have HR : Hid (Q = .tok 1 ((s.data.toList.drop (a + 1)).take j) 0 (j + 2)) := by rw [Hid, HQ.out]; exact hh
            have HC := mkHid hcut
            have HK : Hid (((a + (j + 2) : Nat) : Int) = (k : Int) + 1) := by rw [Hid]; omega
            have t1 : decide ((a : Int) + 1 < (k : Int)) = true := by simp; omega
            have c1 : (a : Int) + 1 ≤ (k : Int) := by omega
            have c2 : (k : Int) ≤ (s.size : Int) := by omega
            have hbN := (Below.refl w.heap.size w).new (.cells #[.int .i64 1, .string (s.extract (a + 1) k), .int .i64 0, .int .i64 (a : Int)] 55)
            clear hA1 hA2 hd g39 h39 hh hcut hj
            go_wp2
            rw [HR.out]
            refine bodyPost_ret (v := refV a (.tok 1 ((s.data.toList.drop (a + 1)).take j) 0 (j + 2))) (by simp only [refV, HK.out]; simp [results, Tryd.results69, go_sem, HC.out]) rfl ⟨rfl, ?_⟩
            exact hbN
          · obtain rfl : j = 0 := by omega
            rw [List.drop_zero] at hd
            have HR : Hid (Q = .err 41) := by rw [Hid, HQ.out]; exact q_zero hd
            have t1 : decide ((a : Int) + 1 < (k : Int)) = false := by simp; omega
            clear hA1 hA2 hd g39 h39 hj
            go_wp2
            rw [HR.out]
            refine bodyPost_ret (v := refV a (.err 41)) (by simp [refV, results, Tryd.results69, go_sem]) rfl ⟨rfl, ?_⟩
            exact hb0
        | false =>
          rw [g39] at e39
          have hnq : notQ s[k] = true := by rw [notQ, g39]; rfl
          have l1 : decide ((s[k].toNat : Int) < 32) = !(decide (32 ≤ s[k])) := by
            rw [Bool.eq_iff_iff]; simp [UInt8.le_iff_toNat_le]; omega
          have l2 : decide ((126 : Int) < (s[k].toNat : Int)) = !(decide (s[k] ≤ 126)) := by
            rw [Bool.eq_iff_iff]; simp [UInt8.le_iff_toNat_le]; omega
          cases gs : seenB s[k] with
          | false =>
            have HR : Hid (Q = .err 41) := by rw [Hid, HQ.out]; exact q_unseen hA1 hd hnq gs
            clear hA1 hA2 hd g39 hj hnq
            simp only [seenB, Bool.and_eq_false_iff] at gs
            cases g1 : decide (32 ≤ s[k]) <;> cases g2 : decide (s[k] ≤ 126) <;> rw [g1] at l1 gs <;> rw [g2] at l2 gs <;> clear g1 g2
            case true.true => simp at gs
            all_goals
              clear gs
              go_wp2
              rw [HR.out]
              refine bodyPost_ret (v := refV a (.err 41)) (by simp [refV, results, Tryd.results69, go_sem]) rfl ⟨rfl, ?_⟩
              exact hb0
          | true =>
            have HN : Hid (((s.data.toList.drop (a + 1)).take (k + 1 - (a + 1))).all notQ = true ∧ ((s.data.toList.drop (a + 1)).take (k + 1 - (a + 1))).all seenB = true) := by
              have hjl : j < (s.data.toList.drop (a + 1)).length := by rw [List.length_drop, size_list]; omega
              have hg : (s.data.toList.drop (a + 1))[j] = s[k] := by
                rw [List.drop_eq_getElem_cons hjl] at hd
                exact (List.cons.inj hd).1
              rw [Hid, show k + 1 - (a + 1) = j + 1 by omega, List.take_succ_eq_append_getElem hjl, hg, List.all_append, List.all_append, hA1, hA2]
              simp [hnq, gs]
            simp only [seenB, Bool.and_eq_true] at gs
            rw [gs.1] at l1
            rw [gs.2] at l2
            clear hA1 hA2 hd g39 hj hnq gs
            go_wp2
            go_round
            case rel => exact ⟨k + 1, by omega, by omega, by omega, by go_num, HN⟩
            case measure => simp [intOf]; omega
      · obtain rfl : k = a + 14 := by omega
        have HR : Hid (Q = .err 41) := by
          rw [Hid, HQ.out]
          have h1 := HA.out.1
          rw [show a + 14 - (a + 1) = 13 by omega] at h1
          exact q_long h1 (by rw [List.length_drop, size_list]; omega)
        have b2 : ¬ (((a + 14 : Nat) : Int) ≤ (a : Int) + 12 + 1) := by omega
        clear HA
        go_wp2
        rw [HR.out]
        refine bodyPost_ret (v := refV a (.err 41)) (by simp [refV, results, Tryd.results69, go_sem]) rfl ⟨rfl, ?_⟩
        exact hb0
    · have HR : Hid (Q = .err 41) := by
        rw [Hid, HQ.out]
        have h1 := HA.out.1
        rw [List.take_of_length_le (by rw [List.length_drop, size_list]; omega)] at h1
        exact q_end h1
      clear HA
      go_wp2
      rw [HR.out]
      refine bodyPost_ret (v := refV a (.err 41)) (by simp [refV, results, Tryd.results69, go_sem]) rfl ⟨rfl, ?_⟩
      exact hb0
end Go.Proofs.YtabjghmfjoefpaaDoor
namespace Go.Proofs.YtabjghmfjoefpaaDoor
open Go.RowKit

theorem rPunct_lit {c : UInt8} {w : World} {b : Bool} (hb : punctB c = b) : Calls Tryd.prog 70 #[.string ⟨#[40, 41, 91, 93, 44, 124]⟩, .int .u8 (c.toNat : Int)] w fun e w' => e = .returned (.bool b) ∧ w = w' := by
  subst hb; exact rIn ⟨#[40, 41, 91, 93, 44, 124]⟩ c w (by decide)
set_option maxHeartbeats 1600000 in
set_option maxRecDepth 20000 in
theorem rTok_name (s : ByteArray) (a : Nat) (w : World) (hs : s.size ≤ 20000) (ha : a < s.size) (g1 : smallB s[a] = true) :
    Calls Tryd.prog 50 #[.string s, .int .i64 (a : Int)] w fun e w' => e = .returned (refV a (tokL (s.data.toList.drop a))) ∧ Below w.heap.size w w' := by
  have hd := drop_consB s a ha
  have hs2 : s.size ≤ 1000000 := by omega
  have hb0 := (Below.refl w.heap.size w).new (.cells #[.int .i64 0, .string ⟨#[]⟩, .int .i64 0, .int .i64 0] 55)
  have r0 := Res4.new w (.int .i64 0) (.string ⟨#[]⟩) (.int .i64 0) (.int .i64 0) 55
  obtain ⟨N, hN⟩ : ∃ N, N = span letterB (s.data.toList.drop a) := ⟨_, rfl⟩
  have hNs : a + N ≤ s.size := by
    have h1 := span_le letterB (s.data.toList.drop a)
    rw [List.length_drop, size_list, ← hN] at h1; omega
  have hx : s.extract a (a + N) = mkB ((s.data.toList.drop a).takeWhile letterB) := by rw [hN]; exact cut_span s a letterB
  have ht : tokL (s.data.toList.drop a) = runS 1 letterB 12 (s.data.toList.drop a) := by
    rw [hd]; simp only [tokL, g1]; rfl
  have HNN := mkHid hN
  have HX := mkHid hx
  have G1 := mkHid g1
  have aN : (a : Int) ≤ (a : Int) + (N : Int) := by omega
  clear hd
  go_enter Tryd.func50, Tryd.ntmps50
  by_cases hl : 12 < N
  · have HR : Hid (tokL (s.data.toList.drop a) = .err 2) := by rw [Hid, ht, runS, ← hN, if_pos hl]
    clear ht hN hx
    go_wp2_with (first | (go_at_call 63; refine (rSmall_lit G1.out).mono ?_; rintro e w' ⟨rfl, rfl⟩) | (go_at_call 65; refine (rRow1 s a _ hs2 (by omega)).mono ?_; rintro e w1 ⟨rfl, rfl⟩; rw [← HNN.out]) | (go_at_call 64; fail))
    refine (rShort_no s a (a + N) 1 _ hs2 (by omega) hNs (by omega)).mono ?_; rintro e w2 ⟨rfl, hb⟩
    obtain ⟨c0, c1, c2, c3, f0, f1, f2, f3⟩ := r0.below hb
    go_wp2
    rw [HR.out]
    refine bodyPost_ret (v := refV a (.err 2)) (by simp [refV, results, Tryd.results50, go_sem, c0, c1, c2, c3]) rfl ⟨rfl, ?_⟩
    exact below_set4 (hb0.then hb) (Nat.le_refl _) _ _ _ _
  · have HR : Hid (tokL (s.data.toList.drop a) = .tok 1 ((s.data.toList.drop a).takeWhile letterB) 0 N) := by rw [Hid, ht, runS, ← hN, if_neg hl]
    clear ht hN hx
    go_wp2_with (first | (go_at_call 63; refine (rSmall_lit G1.out).mono ?_; rintro e w' ⟨rfl, rfl⟩) | (go_at_call 65; refine (rRow1 s a _ hs2 (by omega)).mono ?_; rintro e w1 ⟨rfl, rfl⟩; rw [← HNN.out]) | (go_at_call 64; fail))
    refine (rShort_yes s a (a + N) 1 _ hs2 (by omega) hNs (by omega)).mono ?_; rintro e w2 ⟨rfl, hb⟩
    obtain ⟨c0, c1, c2, c3, f0, f1, f2, f3⟩ := r0.below hb
    go_wp2
    rw [HR.out]
    refine bodyPost_ret (v := refV a (.tok 1 ((s.data.toList.drop a).takeWhile letterB) 0 N)) (by simp [refV, results, Tryd.results50, go_sem, c0, c1, c2, c3, HX.out]) rfl ⟨rfl, ?_⟩
    exact below_set4 (hb0.then hb) (Nat.le_refl _) _ _ _ _
set_option maxHeartbeats 1600000 in
set_option maxRecDepth 20000 in
theorem rTok_var (s : ByteArray) (a : Nat) (w : World) (hs : s.size ≤ 20000) (ha : a < s.size) (g1 : smallB s[a] = false) (g2 : greatB s[a] = true) :
    Calls Tryd.prog 50 #[.string s, .int .i64 (a : Int)] w fun e w' => e = .returned (refV a (tokL (s.data.toList.drop a))) ∧ Below w.heap.size w w' := by
  have hd := drop_consB s a ha
  have hs2 : s.size ≤ 1000000 := by omega
  have hb0 := (Below.refl w.heap.size w).new (.cells #[.int .i64 0, .string ⟨#[]⟩, .int .i64 0, .int .i64 0] 55)
  have r0 := Res4.new w (.int .i64 0) (.string ⟨#[]⟩) (.int .i64 0) (.int .i64 0) 55
  obtain ⟨N, hN⟩ : ∃ N, N = span letterB (s.data.toList.drop a) := ⟨_, rfl⟩
  have hNs : a + N ≤ s.size := by
    have h1 := span_le letterB (s.data.toList.drop a)
    rw [List.length_drop, size_list, ← hN] at h1; omega
  have hx : s.extract a (a + N) = mkB ((s.data.toList.drop a).takeWhile letterB) := by rw [hN]; exact cut_span s a letterB
  have HR : Hid (tokL (s.data.toList.drop a) = .tok 2 ((s.data.toList.drop a).takeWhile letterB) 0 N) := by
    have ht : tokL (s.data.toList.drop a) = runS 2 letterB 20000 (s.data.toList.drop a) := by
      rw [hd]; simp only [tokL, g1, g2]; rfl
    rw [Hid, ht, runS, ← hN, if_neg (by omega)]
  have HNN := mkHid hN
  have HX := mkHid hx
  have G1 := mkHid g1
  have G2 := mkHid g2
  have c1' : (a : Int) ≤ (a : Int) + (N : Int) := by omega
  have c2' : (a : Int) + (N : Int) ≤ (s.size : Int) := by omega
  have c3' : ((a : Int) + (N : Int)).toNat = a + N := by omega
  clear g1 g2 hN hx
  clear hd
  go_enter Tryd.func50, Tryd.ntmps50
  go_wp2_with (first | (go_at_call 63; refine (rSmall_lit G1.out).mono ?_; rintro e w' ⟨rfl, rfl⟩) | (go_at_call 66; refine (rGreat_lit G2.out).mono ?_; rintro e w' ⟨rfl, rfl⟩) | (go_at_call 65; refine (rRow1 s a _ hs2 (by omega)).mono ?_; rintro e w1 ⟨rfl, rfl⟩; rw [← HNN.out]))
  rw [HR.out]
  obtain ⟨c0, c1, c2, c3, f0, f1, f2, f3⟩ := r0
  refine bodyPost_ret (v := refV a (.tok 2 ((s.data.toList.drop a).takeWhile letterB) 0 N)) (by simp [refV, results, Tryd.results50, go_sem, HX.out]) rfl ⟨rfl, ?_⟩
  exact (Below.refl w.heap.size w).new _
set_option maxHeartbeats 1600000 in
set_option maxRecDepth 20000 in
theorem rTok_num (s : ByteArray) (a : Nat) (w : World) (hs : s.size ≤ 20000) (ha : a < s.size) (g1 : smallB s[a] = false) (g2 : greatB s[a] = false) (g3 : digitB s[a] = true) :
    Calls Tryd.prog 50 #[.string s, .int .i64 (a : Int)] w fun e w' => e = .returned (refV a (tokL (s.data.toList.drop a))) ∧ Below w.heap.size w w' := by
  have hd := drop_consB s a ha
  have hs2 : s.size ≤ 1000000 := by omega
  have hb0 := (Below.refl w.heap.size w).new (.cells #[.int .i64 0, .string ⟨#[]⟩, .int .i64 0, .int .i64 0] 55)
  have r0 := Res4.new w (.int .i64 0) (.string ⟨#[]⟩) (.int .i64 0) (.int .i64 0) 55
  have ht : tokL (s.data.toList.drop a) = numS (s.data.toList.drop a) := by
    rw [hd]; simp only [tokL, g1, g2, g3]; rfl
  have HT := mkHid ht
  have G1 := mkHid g1
  have G2 := mkHid g2
  have G3 := mkHid g3
  have hnp : (∃ k t n len, numS (s.data.toList.drop a) = .tok k t n len) ∨ ∃ e, numS (s.data.toList.drop a) = .err e := by
    unfold numS; split
    · exact .inr ⟨_, rfl⟩
    · exact .inl ⟨_, _, _, _, rfl⟩
  clear g1 g2 g3 ht
  clear hd
  go_enter Tryd.func50, Tryd.ntmps50
  rcases hnp with ⟨k, t, n, len, hn⟩ | ⟨er, hn⟩
  · have HN := mkHid hn
    clear hn
    go_wp2_with (first | (go_at_call 63; refine (rSmall_lit G1.out).mono ?_; rintro e w' ⟨rfl, rfl⟩) | (go_at_call 66; refine (rGreat_lit G2.out).mono ?_; rintro e w' ⟨rfl, rfl⟩) | (go_at_call 67; refine (rDigit_lit G3.out).mono ?_; rintro e w' ⟨rfl, rfl⟩) | (go_at_call 68; fail))
    refine (rNumber s a _ hs2 (by omega)).mono ?_; rintro e w2 ⟨rfl, hb⟩
    rw [HN.out]
    simp only [refV]
    obtain ⟨c0, c1, c2, c3, f0, f1, f2, f3⟩ := r0.below hb
    go_wp2
    rw [HT.out, HN.out]
    refine bodyPost_ret (v := refV a (.tok k t n len)) (by simp [refV, results, Tryd.results50, go_sem, c0, c1, c2, c3]) rfl ⟨rfl, ?_⟩
    exact below_set4 (hb0.then hb) (Nat.le_refl _) _ _ _ _
  · have HN := mkHid hn
    clear hn
    go_wp2_with (first | (go_at_call 63; refine (rSmall_lit G1.out).mono ?_; rintro e w' ⟨rfl, rfl⟩) | (go_at_call 66; refine (rGreat_lit G2.out).mono ?_; rintro e w' ⟨rfl, rfl⟩) | (go_at_call 67; refine (rDigit_lit G3.out).mono ?_; rintro e w' ⟨rfl, rfl⟩) | (go_at_call 68; fail))
    refine (rNumber s a _ hs2 (by omega)).mono ?_; rintro e w2 ⟨rfl, hb⟩
    rw [HN.out]
    simp only [refV]
    obtain ⟨c0, c1, c2, c3, f0, f1, f2, f3⟩ := r0.below hb
    go_wp2
    rw [HT.out, HN.out]
    refine bodyPost_ret (v := refV a (.err er)) (by simp [refV, results, Tryd.results50, go_sem, c0, c1, c2, c3]) rfl ⟨rfl, ?_⟩
    exact below_set4 (hb0.then hb) (Nat.le_refl _) _ _ _ _
set_option maxHeartbeats 1600000 in
set_option maxRecDepth 20000 in
theorem rTok_quo (s : ByteArray) (a : Nat) (w : World) (hs : s.size ≤ 20000) (ha : a < s.size) (g39 : s[a] = 39) :
    Calls Tryd.prog 50 #[.string s, .int .i64 (a : Int)] w fun e w' => e = .returned (refV a (tokL (s.data.toList.drop a))) ∧ Below w.heap.size w w' := by
  have hd := drop_consB s a ha
  have hs2 : s.size ≤ 1000000 := by omega
  have hb0 := (Below.refl w.heap.size w).new (.cells #[.int .i64 0, .string ⟨#[]⟩, .int .i64 0, .int .i64 0] 55)
  have r0 := Res4.new w (.int .i64 0) (.string ⟨#[]⟩) (.int .i64 0) (.int .i64 0) 55
  have ht : tokL (s.data.toList.drop a) = quoS (s.data.toList.drop (a + 1)) := by
    have g1 : smallB 39 = false := by decide
    have g2 : greatB 39 = false := by decide
    have g3 : digitB 39 = false := by decide
    rw [hd, g39]; simp only [tokL, g1, g2, g3]; rfl
  have HT := mkHid ht
  have G1 := mkHid (show smallB s[a] = false by rw [g39]; decide)
  have G2 := mkHid (show greatB s[a] = false by rw [g39]; decide)
  have G3 := mkHid (show digitB s[a] = false by rw [g39]; decide)
  have h39 : ((s[a].toNat : Int) == 39) = true := (eqU s[a] 39).trans (by rw [g39]; rfl)
  have hnp : (∃ k t n len, quoS (s.data.toList.drop (a + 1)) = .tok k t n len) ∨ ∃ e, quoS (s.data.toList.drop (a + 1)) = .err e := by
    unfold quoS; split
    · exact .inl ⟨_, _, _, _, rfl⟩
    · exact .inr ⟨_, rfl⟩
  clear g39 ht
  clear hd
  go_enter Tryd.func50, Tryd.ntmps50
  rcases hnp with ⟨k, t, n, len, hn⟩ | ⟨er, hn⟩
  · have HN := mkHid hn
    clear hn
    go_wp2_with (first | (go_at_call 63; refine (rSmall_lit G1.out).mono ?_; rintro e w' ⟨rfl, rfl⟩) | (go_at_call 66; refine (rGreat_lit G2.out).mono ?_; rintro e w' ⟨rfl, rfl⟩) | (go_at_call 67; refine (rDigit_lit G3.out).mono ?_; rintro e w' ⟨rfl, rfl⟩) | (go_at_call 69; fail))
    refine (rQuoted s a _ hs2 ha).mono ?_; rintro e w2 ⟨rfl, hb⟩
    rw [HN.out]
    simp only [refV]
    obtain ⟨c0, c1, c2, c3, f0, f1, f2, f3⟩ := r0.below hb
    go_wp2
    rw [HT.out, HN.out]
    refine bodyPost_ret (v := refV a (.tok k t n len)) (by simp [refV, results, Tryd.results50, go_sem, c0, c1, c2, c3]) rfl ⟨rfl, ?_⟩
    exact below_set4 (hb0.then hb) (Nat.le_refl _) _ _ _ _
  · have HN := mkHid hn
    clear hn
    go_wp2_with (first | (go_at_call 63; refine (rSmall_lit G1.out).mono ?_; rintro e w' ⟨rfl, rfl⟩) | (go_at_call 66; refine (rGreat_lit G2.out).mono ?_; rintro e w' ⟨rfl, rfl⟩) | (go_at_call 67; refine (rDigit_lit G3.out).mono ?_; rintro e w' ⟨rfl, rfl⟩) | (go_at_call 69; fail))
    refine (rQuoted s a _ hs2 ha).mono ?_; rintro e w2 ⟨rfl, hb⟩
    rw [HN.out]
    simp only [refV]
    obtain ⟨c0, c1, c2, c3, f0, f1, f2, f3⟩ := r0.below hb
    go_wp2
    rw [HT.out, HN.out]
    refine bodyPost_ret (v := refV a (.err er)) (by simp [refV, results, Tryd.results50, go_sem, c0, c1, c2, c3]) rfl ⟨rfl, ?_⟩
    exact below_set4 (hb0.then hb) (Nat.le_refl _) _ _ _ _
set_option maxHeartbeats 1600000 in
set_option maxRecDepth 20000 in
theorem rTok_punct (s : ByteArray) (a : Nat) (w : World) (hs : s.size ≤ 20000) (ha : a < s.size) (g1 : smallB s[a] = false) (g2 : greatB s[a] = false) (g3 : digitB s[a] = false) (g4 : (s[a] == 39) = false) (gp : punctB s[a] = true) :
    Calls Tryd.prog 50 #[.string s, .int .i64 (a : Int)] w fun e w' => e = .returned (refV a (tokL (s.data.toList.drop a))) ∧ Below w.heap.size w w' := by
  have hd := drop_consB s a ha
  have hs2 : s.size ≤ 1000000 := by omega
  have hb0 := (Below.refl w.heap.size w).new (.cells #[.int .i64 0, .string ⟨#[]⟩, .int .i64 0, .int .i64 0] 55)
  have r0 := Res4.new w (.int .i64 0) (.string ⟨#[]⟩) (.int .i64 0) (.int .i64 0) 55
  have hx : s.extract a (a + 1) = mkB [s[a]] := cut_eq (by rw [Nat.add_sub_cancel_left, hd]; rfl)
  have HX := mkHid hx
  have a1 : (a : Int) + 1 = ((a + 1 : Nat) : Int) := by omega
  have HR : Hid (tokL (s.data.toList.drop a) = .tok 5 [s[a]] 0 1) := by rw [Hid, hd]; simp only [tokL, g1, g2, g3, g4, gp, Bool.false_eq_true, if_false, if_true]
  have G1 := mkHid g1
  have G2 := mkHid g2
  have G3 := mkHid g3
  have h39 : ((s[a].toNat : Int) == 39) = false := (eqU s[a] 39).trans g4
  have GP := mkHid gp
  clear g1 g2 g3 g4 gp
  have HA1 := mkHid a1
  clear hx a1
  clear hd
  go_enter Tryd.func50, Tryd.ntmps50
  go_wp2_with (first | (go_at_call 63; refine (rSmall_lit G1.out).mono ?_; rintro e w' ⟨rfl, rfl⟩) | (go_at_call 66; refine (rGreat_lit G2.out).mono ?_; rintro e w' ⟨rfl, rfl⟩) | (go_at_call 67; refine (rDigit_lit G3.out).mono ?_; rintro e w' ⟨rfl, rfl⟩) | (go_at_call 70; refine (rPunct_lit GP.out).mono ?_; rintro e w' ⟨rfl, rfl⟩) | (go_at_call 64; fail))
  have cS := rShort_yes s a (a + 1) 5 (w.alloc (.cells #[.int .i64 0, .string ⟨#[]⟩, .int .i64 0, .int .i64 0] 55)) hs2 (by omega) (by omega) (by omega)
  rw [← HA1.out] at cS
  refine cS.mono ?_; rintro e w2 ⟨rfl, hb⟩
  clear cS
  obtain ⟨c0, c1, c2, c3, f0, f1, f2, f3⟩ := r0.below hb
  go_wp2
  rw [HR.out]
  refine bodyPost_ret (v := refV a (.tok 5 [s[a]] 0 1)) (by simp [refV, results, Tryd.results50, go_sem, c0, c1, c2, c3, HX.out]) rfl ⟨rfl, ?_⟩
  exact below_set4 (hb0.then hb) (Nat.le_refl _) _ _ _ _
set_option maxHeartbeats 1600000 in
set_option maxRecDepth 20000 in
theorem rTok_stop1 (s : ByteArray) (a : Nat) (w : World) (hs : s.size ≤ 20000) (ha : a < s.size) (g1 : smallB s[a] = false) (g2 : greatB s[a] = false) (g3 : digitB s[a] = false) (g4 : (s[a] == 39) = false) (gp : punctB s[a] = false) (g46 : (s[a] == 46) = true) (hl : a + 1 = s.size) :
    Calls Tryd.prog 50 #[.string s, .int .i64 (a : Int)] w fun e w' => e = .returned (refV a (tokL (s.data.toList.drop a))) ∧ Below w.heap.size w w' := by
  have hd := drop_consB s a ha
  have hs2 : s.size ≤ 1000000 := by omega
  have hb0 := (Below.refl w.heap.size w).new (.cells #[.int .i64 0, .string ⟨#[]⟩, .int .i64 0, .int .i64 0] 55)
  have r0 := Res4.new w (.int .i64 0) (.string ⟨#[]⟩) (.int .i64 0) (.int .i64 0) 55
  have hx : s.extract a (a + 1) = mkB [s[a]] := cut_eq (by rw [Nat.add_sub_cancel_left, hd]; rfl)
  have HX := mkHid hx
  have a1 : (a : Int) + 1 = ((a + 1 : Nat) : Int) := by omega
  have HR : Hid (tokL (s.data.toList.drop a) = .tok 6 [s[a]] 0 1) := by
    have hst : stopL (s.data.toList.drop (a + 1)) = true := by rw [List.drop_of_length_le (by simp; omega)]; rfl
    rw [Hid, hd]; simp only [tokL, g1, g2, g3, g4, gp, g46, hst, Bool.and_self, Bool.false_eq_true, if_false, if_true]
  have h46 : ((s[a].toNat : Int) == 46) = true := (eqU s[a] 46).trans g46
  have e1 : ((a : Int) + 1 == (s.size : Int)) = true := by simp; omega
  have G1 := mkHid g1
  have G2 := mkHid g2
  have G3 := mkHid g3
  have h39 : ((s[a].toNat : Int) == 39) = false := (eqU s[a] 39).trans g4
  have GP := mkHid gp
  clear g1 g2 g3 g4 gp g46 hl
  have HA1 := mkHid a1
  clear hx a1
  clear hd
  go_enter Tryd.func50, Tryd.ntmps50
  go_wp2_with (first | (go_at_call 63; refine (rSmall_lit G1.out).mono ?_; rintro e w' ⟨rfl, rfl⟩) | (go_at_call 66; refine (rGreat_lit G2.out).mono ?_; rintro e w' ⟨rfl, rfl⟩) | (go_at_call 67; refine (rDigit_lit G3.out).mono ?_; rintro e w' ⟨rfl, rfl⟩) | (go_at_call 70; refine (rPunct_lit GP.out).mono ?_; rintro e w' ⟨rfl, rfl⟩) | (go_at_call 64; fail))
  have cS := rShort_yes s a (a + 1) 6 (w.alloc (.cells #[.int .i64 0, .string ⟨#[]⟩, .int .i64 0, .int .i64 0] 55)) hs2 (by omega) (by omega) (by omega)
  rw [← HA1.out] at cS
  refine cS.mono ?_; rintro e w2 ⟨rfl, hb⟩
  clear cS
  obtain ⟨c0, c1, c2, c3, f0, f1, f2, f3⟩ := r0.below hb
  go_wp2
  rw [HR.out]
  refine bodyPost_ret (v := refV a (.tok 6 [s[a]] 0 1)) (by simp [refV, results, Tryd.results50, go_sem, c0, c1, c2, c3, HX.out]) rfl ⟨rfl, ?_⟩
  exact below_set4 (hb0.then hb) (Nat.le_refl _) _ _ _ _
set_option maxHeartbeats 1600000 in
set_option maxRecDepth 20000 in
theorem rTok_stop2 (s : ByteArray) (a : Nat) (w : World) (hs : s.size ≤ 20000) (ha : a < s.size) (g1 : smallB s[a] = false) (g2 : greatB s[a] = false) (g3 : digitB s[a] = false) (g4 : (s[a] == 39) = false) (gp : punctB s[a] = false) (g46 : (s[a] == 46) = true) (hl : a + 1 < s.size) (gb : blankB s[a + 1] = true) :
    Calls Tryd.prog 50 #[.string s, .int .i64 (a : Int)] w fun e w' => e = .returned (refV a (tokL (s.data.toList.drop a))) ∧ Below w.heap.size w w' := by
  have hd := drop_consB s a ha
  have hs2 : s.size ≤ 1000000 := by omega
  have hb0 := (Below.refl w.heap.size w).new (.cells #[.int .i64 0, .string ⟨#[]⟩, .int .i64 0, .int .i64 0] 55)
  have r0 := Res4.new w (.int .i64 0) (.string ⟨#[]⟩) (.int .i64 0) (.int .i64 0) 55
  have hx : s.extract a (a + 1) = mkB [s[a]] := cut_eq (by rw [Nat.add_sub_cancel_left, hd]; rfl)
  have HX := mkHid hx
  have a1 : (a : Int) + 1 = ((a + 1 : Nat) : Int) := by omega
  have HR : Hid (tokL (s.data.toList.drop a) = .tok 6 [s[a]] 0 1) := by
    have hst : stopL (s.data.toList.drop (a + 1)) = true := by rw [drop_consB s (a + 1) hl]; simp [stopL, gb]
    rw [Hid, hd]; simp only [tokL, g1, g2, g3, g4, gp, g46, hst, Bool.and_self, Bool.false_eq_true, if_false, if_true]
  have h46 : ((s[a].toNat : Int) == 46) = true := (eqU s[a] 46).trans g46
  have e1 : ((a : Int) + 1 == (s.size : Int)) = false := by simp; omega
  have h37 : ((s[a + 1].toNat : Int) == 37) = (s[a + 1] == 37) := eqU s[a + 1] 37
  have hi1 : (a : Int) + 1 < (s.size : Int) := by omega
  have GB := mkHid gb
  have G1 := mkHid g1
  have G2 := mkHid g2
  have G3 := mkHid g3
  have h39 : ((s[a].toNat : Int) == 39) = false := (eqU s[a] 39).trans g4
  have GP := mkHid gp
  clear g1 g2 g3 g4 gp g46 gb
  have HA1 := mkHid a1
  clear hx a1
  clear hd
  go_enter Tryd.func50, Tryd.ntmps50
  go_wp2_with (first | (go_at_call 63; refine (rSmall_lit G1.out).mono ?_; rintro e w' ⟨rfl, rfl⟩) | (go_at_call 66; refine (rGreat_lit G2.out).mono ?_; rintro e w' ⟨rfl, rfl⟩) | (go_at_call 67; refine (rDigit_lit G3.out).mono ?_; rintro e w' ⟨rfl, rfl⟩) | (go_at_call 70; refine (rPunct_lit GP.out).mono ?_; rintro e w' ⟨rfl, rfl⟩) | (go_at_call 62; refine (rBlank_lit GB.out).mono ?_; rintro e w' ⟨rfl, rfl⟩) | (go_at_call 64; fail))
  have cS := rShort_yes s a (a + 1) 6 (w.alloc (.cells #[.int .i64 0, .string ⟨#[]⟩, .int .i64 0, .int .i64 0] 55)) hs2 (by omega) (by omega) (by omega)
  rw [← HA1.out] at cS
  refine cS.mono ?_; rintro e w2 ⟨rfl, hb⟩
  clear cS
  obtain ⟨c0, c1, c2, c3, f0, f1, f2, f3⟩ := r0.below hb
  go_wp2
  rw [HR.out]
  refine bodyPost_ret (v := refV a (.tok 6 [s[a]] 0 1)) (by simp [refV, results, Tryd.results50, go_sem, c0, c1, c2, c3, HX.out]) rfl ⟨rfl, ?_⟩
  exact below_set4 (hb0.then hb) (Nat.le_refl _) _ _ _ _
set_option maxHeartbeats 1600000 in
set_option maxRecDepth 20000 in
theorem rTok_stop3 (s : ByteArray) (a : Nat) (w : World) (hs : s.size ≤ 20000) (ha : a < s.size) (g1 : smallB s[a] = false) (g2 : greatB s[a] = false) (g3 : digitB s[a] = false) (g4 : (s[a] == 39) = false) (gp : punctB s[a] = false) (g46 : (s[a] == 46) = true) (hl : a + 1 < s.size) (gb : blankB s[a + 1] = false) (g37 : (s[a + 1] == 37) = true) :
    Calls Tryd.prog 50 #[.string s, .int .i64 (a : Int)] w fun e w' => e = .returned (refV a (tokL (s.data.toList.drop a))) ∧ Below w.heap.size w w' := by
  have hd := drop_consB s a ha
  have hs2 : s.size ≤ 1000000 := by omega
  have hb0 := (Below.refl w.heap.size w).new (.cells #[.int .i64 0, .string ⟨#[]⟩, .int .i64 0, .int .i64 0] 55)
  have r0 := Res4.new w (.int .i64 0) (.string ⟨#[]⟩) (.int .i64 0) (.int .i64 0) 55
  have hx : s.extract a (a + 1) = mkB [s[a]] := cut_eq (by rw [Nat.add_sub_cancel_left, hd]; rfl)
  have HX := mkHid hx
  have a1 : (a : Int) + 1 = ((a + 1 : Nat) : Int) := by omega
  have HR : Hid (tokL (s.data.toList.drop a) = .tok 6 [s[a]] 0 1) := by
    have hst : stopL (s.data.toList.drop (a + 1)) = true := by rw [drop_consB s (a + 1) hl]; simp [stopL, gb, g37]
    rw [Hid, hd]; simp only [tokL, g1, g2, g3, g4, gp, g46, hst, Bool.and_self, Bool.false_eq_true, if_false, if_true]
  have h46 : ((s[a].toNat : Int) == 46) = true := (eqU s[a] 46).trans g46
  have e1 : ((a : Int) + 1 == (s.size : Int)) = false := by simp; omega
  have h37 : ((s[a + 1].toNat : Int) == 37) = (s[a + 1] == 37) := eqU s[a + 1] 37
  have hi1 : (a : Int) + 1 < (s.size : Int) := by omega
  have GB := mkHid gb
  rw [g37] at h37
  have G1 := mkHid g1
  have G2 := mkHid g2
  have G3 := mkHid g3
  have h39 : ((s[a].toNat : Int) == 39) = false := (eqU s[a] 39).trans g4
  have GP := mkHid gp
  clear g1 g2 g3 g4 gp g46 gb g37
  have HA1 := mkHid a1
  clear hx a1
  clear hd
  go_enter Tryd.func50, Tryd.ntmps50
  go_wp2_with (first | (go_at_call 63; refine (rSmall_lit G1.out).mono ?_; rintro e w' ⟨rfl, rfl⟩) | (go_at_call 66; refine (rGreat_lit G2.out).mono ?_; rintro e w' ⟨rfl, rfl⟩) | (go_at_call 67; refine (rDigit_lit G3.out).mono ?_; rintro e w' ⟨rfl, rfl⟩) | (go_at_call 70; refine (rPunct_lit GP.out).mono ?_; rintro e w' ⟨rfl, rfl⟩) | (go_at_call 62; refine (rBlank_lit GB.out).mono ?_; rintro e w' ⟨rfl, rfl⟩) | (go_at_call 64; fail))
  have cS := rShort_yes s a (a + 1) 6 (w.alloc (.cells #[.int .i64 0, .string ⟨#[]⟩, .int .i64 0, .int .i64 0] 55)) hs2 (by omega) (by omega) (by omega)
  rw [← HA1.out] at cS
  refine cS.mono ?_; rintro e w2 ⟨rfl, hb⟩
  clear cS
  obtain ⟨c0, c1, c2, c3, f0, f1, f2, f3⟩ := r0.below hb
  go_wp2
  rw [HR.out]
  refine bodyPost_ret (v := refV a (.tok 6 [s[a]] 0 1)) (by simp [refV, results, Tryd.results50, go_sem, c0, c1, c2, c3, HX.out]) rfl ⟨rfl, ?_⟩
  exact below_set4 (hb0.then hb) (Nat.le_refl _) _ _ _ _
set_option maxHeartbeats 1600000 in
set_option maxRecDepth 20000 in
theorem rTok_sign1 (s : ByteArray) (a : Nat) (w : World) (hs : s.size ≤ 20000) (ha : a < s.size) (g1 : smallB s[a] = false) (g2 : greatB s[a] = false) (g3 : digitB s[a] = false) (g4 : (s[a] == 39) = false) (gp : punctB s[a] = false) (g46 : (s[a] == 46) = false) (g5 : signB s[a] = true) :
    Calls Tryd.prog 50 #[.string s, .int .i64 (a : Int)] w fun e w' => e = .returned (refV a (tokL (s.data.toList.drop a))) ∧ Below w.heap.size w w' := by
  have hd := drop_consB s a ha
  have hs2 : s.size ≤ 1000000 := by omega
  have hb0 := (Below.refl w.heap.size w).new (.cells #[.int .i64 0, .string ⟨#[]⟩, .int .i64 0, .int .i64 0] 55)
  have r0 := Res4.new w (.int .i64 0) (.string ⟨#[]⟩) (.int .i64 0) (.int .i64 0) 55
  obtain ⟨N, hN⟩ : ∃ N, N = span signB (s.data.toList.drop a) := ⟨_, rfl⟩
  have hNs : a + N ≤ s.size := by
    have h1 := span_le signB (s.data.toList.drop a)
    rw [List.length_drop, size_list, ← hN] at h1; omega
  have hx : s.extract a (a + N) = mkB ((s.data.toList.drop a).takeWhile signB) := by rw [hN]; exact cut_span s a signB
  have ht : tokL (s.data.toList.drop a) = runS 4 signB 12 (s.data.toList.drop a) := by
    rw [hd]; simp only [tokL, g1, g2, g3, g4, gp, g46, g5, Bool.false_and]; rfl
  have HNN := mkHid hN
  have HX := mkHid hx
  have h39 : ((s[a].toNat : Int) == 39) = false := (eqU s[a] 39).trans g4
  have h46 : ((s[a].toNat : Int) == 46) = (s[a] == 46) := eqU s[a] 46
  have GP := mkHid gp
  have G1 := mkHid g1
  have G2 := mkHid g2
  have G3 := mkHid g3
  have G5 := mkHid g5
  rw [g46] at h46
  have aN : (a : Int) ≤ (a : Int) + (N : Int) := by omega
  clear hd
  go_enter Tryd.func50, Tryd.ntmps50
  by_cases hl : 12 < N
  · have HR : Hid (tokL (s.data.toList.drop a) = .err 2) := by rw [Hid, ht, runS, ← hN, if_pos hl]
    clear ht hN hx
    go_wp2_with (first | (go_at_call 63; refine (rSmall_lit G1.out).mono ?_; rintro e w' ⟨rfl, rfl⟩) | (go_at_call 66; refine (rGreat_lit G2.out).mono ?_; rintro e w' ⟨rfl, rfl⟩) | (go_at_call 67; refine (rDigit_lit G3.out).mono ?_; rintro e w' ⟨rfl, rfl⟩) | (go_at_call 70; refine (rPunct_lit GP.out).mono ?_; rintro e w' ⟨rfl, rfl⟩) | (go_at_call 71; refine (rSign_lit G5.out).mono ?_; rintro e w' ⟨rfl, rfl⟩) | (go_at_call 65; refine (rRow3 s a _ hs2 (by omega)).mono ?_; rintro e w1 ⟨rfl, rfl⟩; rw [← HNN.out]) | (go_at_call 64; fail))
    refine (rShort_no s a (a + N) 4 _ hs2 (by omega) hNs (by omega)).mono ?_; rintro e w2 ⟨rfl, hb⟩
    obtain ⟨c0, c1, c2, c3, f0, f1, f2, f3⟩ := r0.below hb
    go_wp2
    rw [HR.out]
    refine bodyPost_ret (v := refV a (.err 2)) (by simp [refV, results, Tryd.results50, go_sem, c0, c1, c2, c3]) rfl ⟨rfl, ?_⟩
    exact below_set4 (hb0.then hb) (Nat.le_refl _) _ _ _ _
  · have HR : Hid (tokL (s.data.toList.drop a) = .tok 4 ((s.data.toList.drop a).takeWhile signB) 0 N) := by rw [Hid, ht, runS, ← hN, if_neg hl]
    clear ht hN hx
    go_wp2_with (first | (go_at_call 63; refine (rSmall_lit G1.out).mono ?_; rintro e w' ⟨rfl, rfl⟩) | (go_at_call 66; refine (rGreat_lit G2.out).mono ?_; rintro e w' ⟨rfl, rfl⟩) | (go_at_call 67; refine (rDigit_lit G3.out).mono ?_; rintro e w' ⟨rfl, rfl⟩) | (go_at_call 70; refine (rPunct_lit GP.out).mono ?_; rintro e w' ⟨rfl, rfl⟩) | (go_at_call 71; refine (rSign_lit G5.out).mono ?_; rintro e w' ⟨rfl, rfl⟩) | (go_at_call 65; refine (rRow3 s a _ hs2 (by omega)).mono ?_; rintro e w1 ⟨rfl, rfl⟩; rw [← HNN.out]) | (go_at_call 64; fail))
    refine (rShort_yes s a (a + N) 4 _ hs2 (by omega) hNs (by omega)).mono ?_; rintro e w2 ⟨rfl, hb⟩
    obtain ⟨c0, c1, c2, c3, f0, f1, f2, f3⟩ := r0.below hb
    go_wp2
    rw [HR.out]
    refine bodyPost_ret (v := refV a (.tok 4 ((s.data.toList.drop a).takeWhile signB) 0 N)) (by simp [refV, results, Tryd.results50, go_sem, c0, c1, c2, c3, HX.out]) rfl ⟨rfl, ?_⟩
    exact below_set4 (hb0.then hb) (Nat.le_refl _) _ _ _ _
set_option maxHeartbeats 1600000 in
set_option maxRecDepth 20000 in
theorem rTok_sign2 (s : ByteArray) (a : Nat) (w : World) (hs : s.size ≤ 20000) (ha : a < s.size) (g1 : smallB s[a] = false) (g2 : greatB s[a] = false) (g3 : digitB s[a] = false) (g4 : (s[a] == 39) = false) (gp : punctB s[a] = false) (g46 : (s[a] == 46) = true) (g5 : signB s[a] = true) (hl1 : a + 1 < s.size) (gb : blankB s[a + 1] = false) (g37 : (s[a + 1] == 37) = false) :
    Calls Tryd.prog 50 #[.string s, .int .i64 (a : Int)] w fun e w' => e = .returned (refV a (tokL (s.data.toList.drop a))) ∧ Below w.heap.size w w' := by
  have hd := drop_consB s a ha
  have hs2 : s.size ≤ 1000000 := by omega
  have hb0 := (Below.refl w.heap.size w).new (.cells #[.int .i64 0, .string ⟨#[]⟩, .int .i64 0, .int .i64 0] 55)
  have r0 := Res4.new w (.int .i64 0) (.string ⟨#[]⟩) (.int .i64 0) (.int .i64 0) 55
  obtain ⟨N, hN⟩ : ∃ N, N = span signB (s.data.toList.drop a) := ⟨_, rfl⟩
  have hNs : a + N ≤ s.size := by
    have h1 := span_le signB (s.data.toList.drop a)
    rw [List.length_drop, size_list, ← hN] at h1; omega
  have hx : s.extract a (a + N) = mkB ((s.data.toList.drop a).takeWhile signB) := by rw [hN]; exact cut_span s a signB
  have ht : tokL (s.data.toList.drop a) = runS 4 signB 12 (s.data.toList.drop a) := by
    have hst : stopL (s.data.toList.drop (a + 1)) = false := by rw [drop_consB s (a + 1) hl1]; simp [stopL, gb, g37]
    rw [hd]; simp only [tokL, g1, g2, g3, g4, gp, g46, hst, g5, Bool.and_false]; rfl
  have HNN := mkHid hN
  have HX := mkHid hx
  have h39 : ((s[a].toNat : Int) == 39) = false := (eqU s[a] 39).trans g4
  have h46 : ((s[a].toNat : Int) == 46) = (s[a] == 46) := eqU s[a] 46
  have GP := mkHid gp
  have G1 := mkHid g1
  have G2 := mkHid g2
  have G3 := mkHid g3
  have G5 := mkHid g5
  rw [g46] at h46
  have e1 : ((a : Int) + 1 == (s.size : Int)) = false := by simp; omega
  have h37 : ((s[a + 1].toNat : Int) == 37) = false := (eqU s[a + 1] 37).trans g37
  have hi1 : (a : Int) + 1 < (s.size : Int) := by omega
  have GB := mkHid gb
  have aN : (a : Int) ≤ (a : Int) + (N : Int) := by omega
  clear hd
  go_enter Tryd.func50, Tryd.ntmps50
  by_cases hl : 12 < N
  · have HR : Hid (tokL (s.data.toList.drop a) = .err 2) := by rw [Hid, ht, runS, ← hN, if_pos hl]
    clear ht hN hx
    go_wp2_with (first | (go_at_call 63; refine (rSmall_lit G1.out).mono ?_; rintro e w' ⟨rfl, rfl⟩) | (go_at_call 66; refine (rGreat_lit G2.out).mono ?_; rintro e w' ⟨rfl, rfl⟩) | (go_at_call 67; refine (rDigit_lit G3.out).mono ?_; rintro e w' ⟨rfl, rfl⟩) | (go_at_call 70; refine (rPunct_lit GP.out).mono ?_; rintro e w' ⟨rfl, rfl⟩) | (go_at_call 71; refine (rSign_lit G5.out).mono ?_; rintro e w' ⟨rfl, rfl⟩) | (go_at_call 62; refine (rBlank_lit GB.out).mono ?_; rintro e w' ⟨rfl, rfl⟩) | (go_at_call 65; refine (rRow3 s a _ hs2 (by omega)).mono ?_; rintro e w1 ⟨rfl, rfl⟩; rw [← HNN.out]) | (go_at_call 64; fail))
    refine (rShort_no s a (a + N) 4 _ hs2 (by omega) hNs (by omega)).mono ?_; rintro e w2 ⟨rfl, hb⟩
    obtain ⟨c0, c1, c2, c3, f0, f1, f2, f3⟩ := r0.below hb
    go_wp2
    rw [HR.out]
    refine bodyPost_ret (v := refV a (.err 2)) (by simp [refV, results, Tryd.results50, go_sem, c0, c1, c2, c3]) rfl ⟨rfl, ?_⟩
    exact below_set4 (hb0.then hb) (Nat.le_refl _) _ _ _ _
  · have HR : Hid (tokL (s.data.toList.drop a) = .tok 4 ((s.data.toList.drop a).takeWhile signB) 0 N) := by rw [Hid, ht, runS, ← hN, if_neg hl]
    clear ht hN hx
    go_wp2_with (first | (go_at_call 63; refine (rSmall_lit G1.out).mono ?_; rintro e w' ⟨rfl, rfl⟩) | (go_at_call 66; refine (rGreat_lit G2.out).mono ?_; rintro e w' ⟨rfl, rfl⟩) | (go_at_call 67; refine (rDigit_lit G3.out).mono ?_; rintro e w' ⟨rfl, rfl⟩) | (go_at_call 70; refine (rPunct_lit GP.out).mono ?_; rintro e w' ⟨rfl, rfl⟩) | (go_at_call 71; refine (rSign_lit G5.out).mono ?_; rintro e w' ⟨rfl, rfl⟩) | (go_at_call 62; refine (rBlank_lit GB.out).mono ?_; rintro e w' ⟨rfl, rfl⟩) | (go_at_call 65; refine (rRow3 s a _ hs2 (by omega)).mono ?_; rintro e w1 ⟨rfl, rfl⟩; rw [← HNN.out]) | (go_at_call 64; fail))
    refine (rShort_yes s a (a + N) 4 _ hs2 (by omega) hNs (by omega)).mono ?_; rintro e w2 ⟨rfl, hb⟩
    obtain ⟨c0, c1, c2, c3, f0, f1, f2, f3⟩ := r0.below hb
    go_wp2
    rw [HR.out]
    refine bodyPost_ret (v := refV a (.tok 4 ((s.data.toList.drop a).takeWhile signB) 0 N)) (by simp [refV, results, Tryd.results50, go_sem, c0, c1, c2, c3, HX.out]) rfl ⟨rfl, ?_⟩
    exact below_set4 (hb0.then hb) (Nat.le_refl _) _ _ _ _
set_option maxHeartbeats 1600000 in
set_option maxRecDepth 20000 in
theorem rTok_bad (s : ByteArray) (a : Nat) (w : World) (hs : s.size ≤ 20000) (ha : a < s.size) (g1 : smallB s[a] = false) (g2 : greatB s[a] = false) (g3 : digitB s[a] = false) (g4 : (s[a] == 39) = false) (gp : punctB s[a] = false) (g46 : (s[a] == 46) = false) (g5 : signB s[a] = false) :
    Calls Tryd.prog 50 #[.string s, .int .i64 (a : Int)] w fun e w' => e = .returned (refV a (tokL (s.data.toList.drop a))) ∧ Below w.heap.size w w' := by
  have hd := drop_consB s a ha
  have hs2 : s.size ≤ 1000000 := by omega
  have hb0 := (Below.refl w.heap.size w).new (.cells #[.int .i64 0, .string ⟨#[]⟩, .int .i64 0, .int .i64 0] 55)
  have r0 := Res4.new w (.int .i64 0) (.string ⟨#[]⟩) (.int .i64 0) (.int .i64 0) 55
  have HR : Hid (tokL (s.data.toList.drop a) = .err 40) := by rw [Hid, hd]; simp only [tokL, g1, g2, g3, g4, gp, g46, g5, Bool.false_and, Bool.false_eq_true, if_false]
  have h39 : ((s[a].toNat : Int) == 39) = false := (eqU s[a] 39).trans g4
  have h46 : ((s[a].toNat : Int) == 46) = (s[a] == 46) := eqU s[a] 46
  have GP := mkHid gp
  have G1 := mkHid g1
  have G2 := mkHid g2
  have G3 := mkHid g3
  have G5 := mkHid g5
  rw [g46] at h46
  clear g1 g2 g3 g4 gp g46 g5
  clear hd
  go_enter Tryd.func50, Tryd.ntmps50
  go_wp2_with (first | (go_at_call 63; refine (rSmall_lit G1.out).mono ?_; rintro e w' ⟨rfl, rfl⟩) | (go_at_call 66; refine (rGreat_lit G2.out).mono ?_; rintro e w' ⟨rfl, rfl⟩) | (go_at_call 67; refine (rDigit_lit G3.out).mono ?_; rintro e w' ⟨rfl, rfl⟩) | (go_at_call 70; refine (rPunct_lit GP.out).mono ?_; rintro e w' ⟨rfl, rfl⟩) | (go_at_call 71; refine (rSign_lit G5.out).mono ?_; rintro e w' ⟨rfl, rfl⟩))
  rw [HR.out]
  refine bodyPost_ret (v := refV a (.err 40)) (by simp [refV, results, Tryd.results50, go_sem]) rfl ⟨rfl, ?_⟩
  exact hb0
theorem rToken (s : ByteArray) (a : Nat) (w : World) (hs : s.size ≤ 20000) (ha : a < s.size) :
    Calls Tryd.prog 50 #[.string s, .int .i64 (a : Int)] w fun e w' => e = .returned (refV a (tokL (s.data.toList.drop a))) ∧ Below w.heap.size w w' := by
  cases g1 : smallB s[a] with
  | true => exact rTok_name s a w hs ha g1
  | false =>
  cases g2 : greatB s[a] with
  | true => exact rTok_var s a w hs ha g1 g2
  | false =>
  cases g3 : digitB s[a] with
  | true => exact rTok_num s a w hs ha g1 g2 g3
  | false =>
  cases g4 : (s[a] == 39) with
  | true => exact rTok_quo s a w hs ha (by simpa using g4)
  | false =>
  cases gp : punctB s[a] with
  | true => exact rTok_punct s a w hs ha g1 g2 g3 g4 gp
  | false =>
  cases g46 : (s[a] == 46) with
  | true =>
    have g5 : signB s[a] = true := by
      have : s[a] = 46 := by simpa using g46
      rw [this]; decide
    by_cases hl : a + 1 = s.size
    · exact rTok_stop1 s a w hs ha g1 g2 g3 g4 gp g46 hl
    · have hl1 : a + 1 < s.size := by omega
      cases gb : blankB s[a + 1] with
      | true => exact rTok_stop2 s a w hs ha g1 g2 g3 g4 gp g46 hl1 gb
      | false =>
        cases g37 : (s[a + 1] == 37) with
        | true => exact rTok_stop3 s a w hs ha g1 g2 g3 g4 gp g46 hl1 gb g37
        | false => exact rTok_sign2 s a w hs ha g1 g2 g3 g4 gp g46 g5 hl1 gb g37
  | false =>
  cases g5 : signB s[a] with
  | true => exact rTok_sign1 s a w hs ha g1 g2 g3 g4 gp g46 g5
  | false => exact rTok_bad s a w hs ha g1 g2 g3 g4 gp g46 g5
end Go.Proofs.YtabjghmfjoefpaaDoor
namespace Go.Proofs.YtabjghmfjoefpaaDoor
open Go.RowKit

theorem tokL_fit {s : ByteArray} {a : Nat} {k : Int} {t : List UInt8} {n : Int} {len : Nat} (h : tokL (s.data.toList.drop a) = .tok k t n len) (hs : s.size ≤ 20000) (ha : a < s.size) : (Tok.mk k (mkB t) n a).fit := by
  have hd := drop_consB s a ha
  rw [hd] at h
  have hi := tokL_is h
  have hl : (s[a] :: s.data.toList.drop (a + 1)).length ≤ 20000 := by rw [← hd, List.length_drop, size_list]; omega
  clear hd h
  generalize s[a] = c at hi hl
  generalize s.data.toList.drop (a + 1) = r at hi hl
  have htl : t.length ≤ 20000 ∧ 0 ≤ n ∧ n ≤ 2147483647 ∧ 1 ≤ k ∧ k ≤ 6 := by
    have hx : ∀ q : UInt8 → Bool, ∀ z : List UInt8, z.length ≤ 20000 → (z.takeWhile q).length ≤ 20000 := fun q z hz => Nat.le_trans (span_le q z) hz
    cases hi with
    | name h1 h2 => exact ⟨hx _ _ hl, by omega, by omega, by omega, by omega⟩
    | var h1 h2 => exact ⟨hx _ _ hl, by omega, by omega, by omega, by omega⟩
    | num h1 h2 => exact ⟨hx _ _ hl, by omega, by omega, by omega, by omega⟩
    | quo h1 => exact ⟨hx _ _ (by simp only [List.length_cons] at hl; omega), by omega, by omega, by omega, by omega⟩
    | punct h1 => exact ⟨by simp, by omega, by omega, by omega, by omega⟩
    | stop h1 => exact ⟨by simp, by omega, by omega, by omega, by omega⟩
    | sign h1 h2 h3 => exact ⟨hx _ _ hl, by omega, by omega, by omega, by omega⟩
  have := mkB_le htl.1
  exact ⟨by dsimp only; omega, by dsimp only; omega, by dsimp only; omega, by dsimp only; omega, by simp only; omega, by simp only; omega, by simp only; omega⟩
def RefOut (w' : World) (e : Ending) : Res → Prop
  | .ok ts => ∃ a cap, e = .returned (.tuple #[.slice a ts.length cap, .int .i64 0, .int .i64 0]) ∧ Row w' a cap ts
  | .error (p, er) => e = .returned (.tuple #[.slice none 0 0, .int .i64 (p : Int), .int .i64 er])
set_option maxHeartbeats 3200000 in
set_option maxRecDepth 100000 in
theorem rLex_small (s : ByteArray) (w : World) (hs : s.size ≤ 20000) :
    Calls Tryd.prog 29 #[.string s] w fun e w' => RefOut w' e (lexW false s.data.toList 0) ∧ Below w.heap.size w w' := by
  have hs2 : s.size ≤ 1000000 := by omega
  generalize hL : lexW false s.data.toList 0 = L
  obtain ⟨k0, hk0⟩ : ∃ k0, k0 = 0 + skipL false (s.data.toList.drop 0) := ⟨_, rfl⟩
  have hsk := skip_lex s.data.toList false 0
  have hst := skip_stop s.data.toList false
  have hle := skip_le s.data.toList false
  rw [size_list] at hle
  rw [List.drop_zero] at hk0
  rw [hL] at hsk
  rw [← hk0] at hsk
  have hk0' : skipL false s.data.toList = k0 := by omega
  rw [hk0'] at hsk hst hle
  have HL0 : Hid (L = appR [] (lexW false (s.data.toList.drop k0) k0)) := by rw [Hid, hsk]; cases lexW false (s.data.toList.drop k0) k0 <;> rfl
  have HST0 := mkHid hst
  have HK0 : Hid (0 + skipL false (s.data.toList.drop 0) = k0) := by rw [Hid, List.drop_zero, hk0'] ; omega
  have hacc0 := AccInv.made (α := Tok) (T := 55) (B := w.heap.size) w (Nat.le_refl _) rfl
  have hb0 := (Below.refl w.heap.size w).new (.cells #[] 55)
  clear hL hsk hst hk0 hk0'
  go_enter Tryd.func29, Tryd.ntmps29
  go_wp2_with fail
  have cP := rPass s 0 (w.alloc (.cells #[] 55)) hs2 (Nat.zero_le _)
  rw [HK0.out] at cP
  refine cP.mono ?_; rintro e w1 ⟨rfl, rfl⟩
  clear cP
  go_wp2
  go_loopw [5, 6] (fun out at_ wr => ∃ (k : Nat) (acc : List Tok), k ≤ s.size ∧ at_ = .int .i64 k ∧ acc.length ≤ k ∧ AccInv w.heap.size 55 acc out wr ∧ Below w.heap.size w wr ∧ Hid (L = appR acc (lexW false (s.data.toList.drop k) k)) ∧ Hid (∀ c r, s.data.toList.drop k = c :: r → blankB c = false ∧ (c == 37) = false)) (fun out at_ wr => s.size - (intOf at_).toNat)
  case atStart => exact ⟨k0, [], hle, rfl, Nat.zero_le _, hacc0, hb0, HL0, HST0⟩
  case round =>
    clear hacc0 hb0 HL0 HST0
    obtain ⟨k, acc, hk, rfl, hkl, hacc, hbl, HL, HS⟩ := hrel
    by_cases hlt : k < s.size
    · have hd := drop_consB s k hlt
      obtain ⟨g1, g2⟩ := HS.out _ _ hd
      have hl := HL.out
      rw [hd] at hl
      have cT := rToken s k wr hs hlt
      cases ht : tokL (s.data.toList.drop k) with
      | pass n => exact absurd ht (tokL_pass _ _)
      | err er =>
        rw [ht] at cT
        simp only [refV] at cT
        have her : er = 2 ∨ er = 40 ∨ er = 41 := tokL_err ht (by rw [hd]; simp)
        have t1 : (er == 0) = false := by simp; omega
        have t2 : (er != 0) = true := by simp; omega
        have HE : Hid (L = .error (k, er)) := by
          rw [Hid, hl, lexW_err g1 g2 (by rw [← hd]; exact ht)]; rfl
        clear hd hl ht her HL HS g1 g2
        go_wp2_with fail
        refine cT.mono ?_; rintro e w2 ⟨rfl, hb2⟩
        clear cT
        go_wp2
        go_ret3
        rw [HE.out]
        exact ⟨rfl, (hbl.trans (hb2.mono hbl.size)).new _⟩
      | tok kk tt nn len =>
        rw [ht] at cT
        simp only [refV] at cT
        have hlen := tokL_len ht
        rw [List.length_drop, size_list] at hlen
        have hfit := tokL_fit ht hs hlt
        obtain ⟨k', hk'⟩ : ∃ k', k' = k + len + skipL false (s.data.toList.drop (k + len)) := ⟨_, rfl⟩
        have hsk := skip_lex (s.data.toList.drop (k + len)) false (k + len)
        have hst := skip_stop (s.data.toList.drop (k + len)) false
        have hle' := skip_le (s.data.toList.drop (k + len)) false
        rw [List.length_drop, size_list] at hle'
        rw [List.drop_drop, ← hk'] at hsk
        have HST' : Hid (∀ c r, s.data.toList.drop k' = c :: r → blankB c = false ∧ (c == 37) = false) := by
          intro c r h
          exact hst c r (by rw [List.drop_drop, ← hk']; exact h)
        have HLn : Hid (L = appR (acc ++ [⟨kk, mkB tt, nn, k⟩]) (lexW false (s.data.toList.drop k') k')) := by
          rw [Hid, hl, lexW_tok g1 g2 (by rw [← hd]; exact ht), appR_conR, ← hd, List.drop_drop, hsk]
        have HFIT := mkHid hfit
        have HK' := mkHid hk'
        have hkk : k + len ≤ k' := by omega
        have hks : k' ≤ s.size := by omega
        clear hd hl ht HL HS g1 g2 hsk hst hfit hk' hle'
        go_wp2_with fail
        refine cT.mono ?_; rintro e w2 ⟨rfl, hb2⟩
        clear cT
        have hb2' := hbl.trans (hb2.mono hbl.size)
        have haccn := (hacc.below hb2).below ((Below.refl _ _).new (.cells #[.int .i64 kk, .string (mkB tt), .int .i64 nn, .int .i64 k] 55))
        have hbn := hb2'.new (.cells #[.int .i64 kk, .string (mkB tt), .int .i64 nn, .int .i64 k] 55)
        go_wp2_with (at_builtin; refine wpList_acc (α := Tok) rfl _ _ 51 rfl w.heap.size 55 40 _ Tryd.underlying51 Tryd.infoTok rfl (by decide) _ acc haccn (by rfl) _ #[.int .i64 kk, .string (mkB tt), .int .i64 nn, .int .i64 k] ⟨kk, mkB tt, nn, k⟩ ⟨rfl, HFIT.out⟩ (by first | rfl | (simp; rfl)) (by omega) hbn.size ?_; intro v5 w5 hacc5 hb5; go_wp2_with fail)
        have cP := rPass s (k + len) w5 hs2 (by omega)
        rw [← HK'.out] at cP
        have hcast : ((k + len : Nat) : Int) = (k : Int) + (len : Int) := by omega
        rw [hcast] at cP
        clear hcast
        refine cP.mono ?_; rintro e w6 ⟨rfl, rfl⟩
        clear cP
        go_wp2
        go_roundw
        case rel => exact ⟨k', acc ++ [⟨kk, mkB tt, nn, k⟩], hks, rfl, by simp; omega, hacc5, hbn.trans hb5, HLn, HST'⟩
        case measure => simp [intOf]; omega
    · have HE : Hid (L = .ok acc) := by
        rw [Hid, HL.out, List.drop_of_length_le (by simp; omega), lexW_nil]; simp [appR]
      obtain ⟨a5, cap5, rfl, hrow⟩ := hacc.row
      clear hacc HL HS
      go_wp2
      go_ret3
      rw [HE.out]
      exact ⟨⟨a5, cap5, rfl, hrow⟩, hbl⟩
set_option maxRecDepth 100000 in
theorem rLex_any (s : ByteArray) (w : World) (hs : s.size ≤ 1000000) :
    Calls Tryd.prog 29 #[.string s] w fun e w' => RefOut w' e (lexL s.data.toList) ∧ Below w.heap.size w w' := by
  by_cases h : s.size ≤ 20000
  · rw [lexL_eq h]; exact rLex_small s w h
  · have HL := mkHid (lexL_big (by omega) : lexL s.data.toList = .error (0, 2))
    have h' : 20000 < s.size := by omega
    go_enter Tryd.func29, Tryd.ntmps29
    go_wp2
    go_ret3
    rw [HL.out]
    exact ⟨rfl, Below.refl _ _⟩
end Go.Proofs.YtabjghmfjoefpaaDoor
