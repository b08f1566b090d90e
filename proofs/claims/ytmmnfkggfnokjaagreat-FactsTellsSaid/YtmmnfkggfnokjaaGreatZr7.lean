import Derived.Test.YtmmnfkggfnokjaaGreatZr6
import Derived.RangeFuncNested
import Derived.RangeFuncBound
import Derived.RangeFuncCalls
import Derived.RangeFuncLeaves
import Derived.RangeFuncBox
import Derived.Shelf.Abstract
import Derived.Shelf.RegionOpen
import Derived.WalkKit
import Derived.OwnWalkIn
import Derived.TacticsInMore
import Derived.LoopNIn
import Derived.LoopIn
import Derived.Maps.AppendAt
import Derived.Test.YtmmnfkggfnokjaaGreatRows
import Derived.Deep.RegionHeld3
import Derived.WalkMore
import Derived.WalkSmall
import Derived.Deep.LoopGhost
import Derived.Laws.Rows
import Derived.OrdersHeld
import Derived.OrdersIn
import Derived.Deep.RegionHeld
namespace Go.Proofs.YtmmnfkggfnokjaaGreat
open Go.RowKit

/-! ### what the laws have in common -/
/-- the head's word -/
def Head12 : Prop := ∀ w : World, Calls Tryz.prog 5 #[] w fun e w' => e = .returned (.bool true) ∧ Below w.heap.size w w'
section
variable {w : World} {a a' : Option Addr} {c c' : Nat} {l : List (List Cel)} {t : List Cel}
theorem addK {m : List (List Cel)} {E : Int} (hr : Row w a c l) (ht : Row w a' c' t) (hF : Hid (FR l)) (hm : Hid (addF l t = m)) (hE : Hid (addE l t = E)) :
    Calls Tryz.prog 11 #[.slice a l.length c, .slice a' t.length c'] w fun e w' => ∃ a2 c2, e = .returned (.tuple #[.slice a2 m.length c2, .int .i64 E]) ∧ Row w' a2 c2 m ∧ Below w.heap.size w w' := by
  have h := addF_any a c l a' c' t w hr ht hF.out
  rw [hm.out, hE.out] at h
  exact h
theorem dropK {m : List (List Cel)} {E : Int} (hr : Row w a c l) (ht : Row w a' c' t) (hF : Hid (FR l)) (hm : Hid (dropF l t = m)) (hE : Hid (dropE l t = E)) :
    Calls Tryz.prog 13 #[.slice a l.length c, .slice a' t.length c'] w fun e w' => ∃ a2 c2, e = .returned (.tuple #[.slice a2 m.length c2, .int .i64 E]) ∧ Row w' a2 c2 m ∧ Below w.heap.size w w' := by
  have h := dropF_any a c l a' c' t w hr ht hF.out
  rw [hm.out, hE.out] at h
  exact h
theorem hasK {b : Bool} (hr : Row w a c l) (ht : Row w a' c' t) (hF : Hid (FR l)) (hb : Hid (decide (t ∈ l) = b)) :
    Calls Tryz.prog 20 #[.slice a l.length c, .slice a' t.length c'] w fun e w' => e = .returned (.bool b) ∧ Below w.heap.size w w' := by
  have h := hasF_any a c l a' c' t w hr ht hF.out
  rw [hb.out] at h
  exact h
theorem refhasK {b : Bool} (hr : Row w a c l) (ht : Row w a' c' t) (hb : Hid (decide (t ∈ l) = b)) :
    Calls Tryz.prog 21 #[.slice a l.length c, .slice a' t.length c'] w fun e w' => e = .returned (.bool b) ∧ Below w.heap.size w w' := by
  have h := refhasF_any a c l a' c' t w hr ht
  rw [hb.out] at h
  exact h
theorem rightK {b : Bool} (hr : Row w a c l) (hb : Hid (frightB l = b)) :
    Calls Tryz.prog 8 #[.slice a l.length c] w fun e w' => e = .returned (.bool b) ∧ Below w.heap.size w w' := by
  have h := fright_any a c w l hr
  rw [hb.out] at h
  exact h
theorem refrightK {b : Bool} (hr : Row w a c l) (hb : Hid (frightB l = b)) :
    Calls Tryz.prog 9 #[.slice a l.length c] w fun e w' => e = .returned (.bool b) ∧ Below w.heap.size w w' := by
  have h := refrightF_any a c w l hr
  rw [hb.out] at h
  exact h
theorem sameK {m : List (List Cel)} {b : Bool} (hr : Row w a c l) (ht : Row w a' c' m) (hb : Hid (decide (l = m) = b)) :
    Calls Tryz.prog 19 #[.slice a l.length c, .slice a' m.length c'] w fun e w' => e = .returned (.bool b) ∧ Below w.heap.size w w' := by
  have h := refsame12_any a c a' c' w l m hr ht
  rw [hb.out] at h
  exact h
theorem findK {m : List (List Cel)} (hr : Row w a c l) (ht : Row w a' c' t) (hF : Hid (FR l)) (rt : Hid (rightB t = true)) (hm : Hid (l.filter (matchB t) = m)) :
    Calls Tryz.prog 22 #[.slice a l.length c, .slice a' t.length c'] w fun e w' => ∃ a2 c2, e = .returned (.slice a2 m.length c2) ∧ Row w' a2 c2 m ∧ Below w.heap.size w w' := by
  have h := findF_any a c l a' c' t w hr ht hF.out rt.out
  rw [hm.out] at h
  exact h
theorem diffK {m x y : List (List Cel)} (hr : Row w a c l) (ht : Row w a' c' m) (hF : Hid (FR l)) (hG : Hid (FR m)) (hx : Hid (lessF m l = x)) (hy : Hid (lessF l m = y)) :
    Calls Tryz.prog 17 #[.slice a l.length c, .slice a' m.length c'] w fun e w' => ∃ a2 c2 a3 c3, e = .returned (.tuple #[.slice a2 x.length c2, .slice a3 y.length c3]) ∧ Row w' a2 c2 x ∧ Row w' a3 c3 y ∧ Below w.heap.size w w' := by
  have h := diffF_any a c l a' c' m w hr ht hF.out hG.out
  rw [hx.out, hy.out] at h
  exact h
theorem groundK {b : Bool} (ht : Row w a' c' t) (hl : t.length ≤ 1000000) (hb : Hid (groundB t = b)) :
    Calls Tryz.prog 32 #[.slice a' t.length c'] w fun e w' => e = .returned (.bool b) ∧ Below w.heap.size w w' := refground_litF rfl ht hl hb.out
theorem rightCK {b : Bool} (ht : Row w a' c' t) (hb : Hid (rightB t = b)) :
    Calls Tryz.prog 31 #[.slice a' t.length c'] w fun e w' => e = .returned (.bool b) ∧ Below w.heap.size w w' := refright_litF rfl ht hb.out
end
theorem FR.rightB {l : List (List Cel)} (h : FR l) : frightB l = true := fright_iff.2 h
/-- a row of cells copied -/
theorem copy_row {w1 : World} {B : Nat} {ys : List Cel} {v : Value} (h : AccInv B 42 ([] ++ ys) v w1) : ∃ a c, v = .slice a ys.length c ∧ Row w1 a c ys := by
  rw [List.nil_append] at h
  exact h.row
theorem Row.takeF {α : Type} [Rep α] {w : World} {a : Option Addr} {cap : Nat} {xs : List α} (h : Row w a cap xs) (k : Nat) : Row w a cap (xs.take k) :=
  ⟨by rw [List.length_take]; have := h.le; omega, h.max, h.nil, fun i x hi => h.at_ i x (by
    by_cases hk : i < k
    · rwa [List.getElem?_take_of_lt hk] at hi
    · rw [List.getElem?_take, if_neg hk] at hi; cases hi)⟩
end Go.Proofs.YtmmnfkggfnokjaaGreat
namespace Go.Proofs.YtmmnfkggfnokjaaGreat
open Go.RowKit
attribute [local go_sem] Oper.semAt_some

/-! ### the iterators over the arguments' places -/
/-- the place behind the first j arguments of what stands at i -/
def argP (l : List Cel) (i j : Nat) : Nat := (afterI l (i + 1) j).toNat
def argsL (l : List Cel) (i : Nat) : List Nat := match l[i]? with
  | none => []
  | some c => (List.range (ar c)).map (argP l i)
end Go.Proofs.YtmmnfkggfnokjaaGreat

namespace Go.Proofs.YtmmnfkggfnokjaaGreat
open Go.RowKit
attribute [local go_sem] Oper.semAt_some

/-- what a round of a loop over places keeps -/
structure KpF (n₀ : Nat) (us : List Nat) (B1 B2 : Nat) (W W' : World) : Prop where
  os : W'.os = W.os
  tape : W'.tape = W.tape
  output : W'.output = W.output
  size : W.heap.size ≤ W'.heap.size
  block : ∀ k, k < n₀ → k ∉ us → W'.heap[k]? = W.heap[k]?
  b1 : W'.heap[B1]? = W.heap[B1]?
  b2 : W'.heap[B2]? = W.heap[B2]?
section
variable {n₀ B1 B2 : Nat} {us : List Nat} {A W W' : World}
theorem KpF.refl (n₀ : Nat) (us : List Nat) (B1 B2 : Nat) (W : World) : KpF n₀ us B1 B2 W W := ⟨rfl, rfl, rfl, Nat.le_refl _, fun _ _ _ => rfl, rfl, rfl⟩
theorem KpF.trans (h : KpF n₀ us B1 B2 A W) (k : KpF n₀ us B1 B2 W W') : KpF n₀ us B1 B2 A W' :=
  ⟨k.os.trans h.os, k.tape.trans h.tape, k.output.trans h.output, Nat.le_trans h.size k.size, fun i hi hn => (k.block i hi hn).trans (h.block i hi hn), k.b1.trans h.b1, k.b2.trans h.b2⟩
theorem KpF.of (h : Below W.heap.size W W') (hn : n₀ ≤ W.heap.size) (h1 : B1 < W.heap.size) (h2 : B2 < W.heap.size) : KpF n₀ us B1 B2 W W' :=
  ⟨h.os, h.tape, h.output, h.size, fun k hk _ => h.block k (by omega), h.block B1 h1, h.block B2 h2⟩
theorem KpF.fr {w : World} (h : Fr us w A) (k : KpF w.heap.size us B1 B2 A W) : Fr us w W :=
  ⟨k.os.trans h.os, k.tape.trans h.tape, k.output.trans h.output, Nat.le_trans h.size k.size, fun i hi hn => (k.block i hi hn).trans (h.block i hi hn)⟩
end
set_option maxHeartbeats 400000 in
theorem uarguments_in (F : Fence) (n : Nat) (hF : F.fn 86) (hro : F.round = none) (w : World) (c : Cel) :
    CallsIn F n Tryz.prog 86 #[.agg #[.int .i64 c.k, .string c.s, .int .i64 c.n]] w fun e w' => e = .returned (.int .i64 (arI c)) ∧ w' = w.alloc (.cells #[.int .i64 c.k, .string c.s, .int .i64 c.n] 42) := by
  by_cases h : c.k = 3
  · have t1 : (c.k != 3) = false := by simp [h]
    have HE : Hid (c.n = arI c) := by unfold arI; rw [if_pos h]; rfl
    clear h
    refine callsIn_of_wp Tryz.func86 rfl hF ?_ hro
    simp only [Tryz.ntmps86, List.size_toArray, List.length_cons, List.length_nil, Nat.reduceAdd, Nat.reduceSub, Array.replicate_succ, Array.replicate_zero, List.push_toArray, List.append_toArray, List.nil_append, List.cons_append]
    gi_wp2
    go_ret
    exact ⟨ret_int HE.out, rfl⟩
  · have t1 : (c.k != 3) = true := by simp [h]
    have HE : Hid (0 = arI c) := by unfold arI; rw [if_neg h]; rfl
    clear h
    refine callsIn_of_wp Tryz.func86 rfl hF ?_ hro
    simp only [Tryz.ntmps86, List.size_toArray, List.length_cons, List.length_nil, Nat.reduceAdd, Nat.reduceSub, Array.replicate_succ, Array.replicate_zero, List.push_toArray, List.append_toArray, List.nil_append, List.cons_append]
    gi_wp2
    go_ret
    exact ⟨ret_int HE.out, rfl⟩

abbrev Place (n : Nat) := { x : Nat // x < n }
def valsP {n : Nat} (l : List (Place n)) : List Nat := l.map Subtype.val
theorem valsP_append {n : Nat} (a b : List (Place n)) : valsP (a ++ b) = valsP a ++ valsP b := by simp [valsP]

end Go.Proofs.YtmmnfkggfnokjaaGreat

namespace Go.Proofs.YtmmnfkggfnokjaaGreat
open Go.RowKit
attribute [local go_sem] Oper.semAt_some

/-! ### a range over an iterator that itself runs a loop over an iterator: the caller's word bears the turn of any block that is no cells and is new -/
section
variable {α : Type} {F : Fence} {n : Nat} {P : Program}
/-- borne: new blocks; the turn of block x; the turn of a block from B on that is no cells -/
def OwnX {β : Type} (B : Nat) (x : Option Nat) (I : β → World → Prop) : Prop :=
  ∀ s W W' row, I s W → W.grownBy W' row → (∀ r, row = some r → x = some r ∨ (B ≤ r ∧ ∃ o : Obj, W.heap[r]? = some o ∧ o.isCells = false)) → I s W'
theorem OwnX.own {β : Type} {B : Nat} {x : Option Nat} {I : β → World → Prop} (h : OwnX B x I) : OwnFrom B I := fun s A C row hs hg hr => h s A C row hs hg (fun r e => .inr (hr r e))
theorem OwnX.and {β : Type} {B : Nat} {x : Option Nat} {I J : β → World → Prop} (h : OwnX B x I) (k : OwnX B x J) : OwnX B x (fun s W => I s W ∧ J s W) := fun s A C row hs hg hr => ⟨h s A C row hs.1 hg hr, k s A C row hs.2 hg hr⟩
theorem OwnX.more {β : Type} {B B' : Nat} {x : Option Nat} {I : β → World → Prop} (h : OwnX B x I) (hB : B ≤ B') : OwnX B' x I := fun s A C row hs hg hr => h s A C row hs hg (fun r e => (hr r e).imp id (fun q => ⟨Nat.le_trans hB q.1, q.2⟩))
theorem OwnX.drop {β : Type} {B : Nat} {x : Option Nat} {I : β → World → Prop} (h : OwnX B x I) : OwnX B none I := fun s A C row hs hg hr => h s A C row hs hg (fun r e => .inr ((hr r e).resolve_left (fun q => by cases q)))
theorem OwnX.set {β : Type} {B x : Nat} {I : β → World → Prop} (h : OwnX B (some x) I) {s : β} {W : World} (hs : I s W) (v : Value) : I s (W.setCell ⟨x, 0, none⟩ v) :=
  h s W _ (some x) hs (grownBy_setCell' W x v) (fun r e => by cases e; exact .inl rfl)

/-- the iterator's promise to a caller whose word bears that; y: which block, from the call's heap on, the iterator turns; m: how deep its rounds are; T: at what it is called -/
def SeqOwn (F : Fence) (n m : Nat) (y : Option Nat) (P : Program) (g : Nat) (lb : Array Value) (encs : α → Array Value) (Kp : World → World → Prop) (T : List α → α → World → Prop) (S Sp : List α → Prop) (w : World) : Prop :=
  ∀ (l : Nat) (J Jx : List α → World → Prop) (W : World), Below w.heap.size w W → W.heap.size = w.heap.size + 2 → OwnX W.heap.size (y.map (W.heap.size + ·)) J → OwnX W.heap.size (y.map (W.heap.size + ·)) Jx →
    (∀ pre x W1, J pre W1 → T pre x W1 → YieldAt F m P l (encs x) W1 fun e W' =>
      (e = .returned (.bool true) ∧ J (pre ++ [x]) W' ∧ Kp W1 W') ∨ (e = .returned (.bool false) ∧ Jx (pre ++ [x]) W' ∧ Kp W1 W')) →
    J [] W →
    CallsIn F n P g (#[.func (.yield l) #[] #[]] ++ lb) W fun e W' => (∃ v, e = .returned v) ∧ ((∃ xs, S xs ∧ J xs W') ∨ (∃ pre, Sp pre ∧ Jx pre W'))

theorem abides_of_own {β : Type} {B : Nat} {J : β → World → Prop} (h : OwnFrom B J) : AbidesFrom B J := fun s A C row hs hg hr =>
  h s A C row hs hg (fun r e => by
    obtain ⟨h1, o, h2, h3⟩ := hr r e
    exact ⟨h1, o, h2, by cases o <;> simp_all [Obj.isWalk, Obj.isCells]⟩)

/-- the record of a loop -/
abbrev recAt (fn : FuncId) (tmps : Array Value) (ps : Array Tmp) (assign body : Code) (D : Nat) (st : LoopState) (pe : Option Code) : Loop :=
  { state := st, pending := pe, fn := fn, tmps := tmps, params := ps, assign := assign, body := body, defers := D }

variable {fn : FuncId} {tmps : Array Value} {ps : Array Tmp} {assign body : Code}
/-- between two rounds: the record in a state, the block for deferred calls beside it -/
structure Held (fn : FuncId) (tmps : Array Value) (ps : Array Tmp) (assign body : Code) (D : Nat) (st : LoopState) (pe : Option Code) (W : World) : Prop where
  lp : W.heap[D + 1]? = some (.loop (recAt fn tmps ps assign body D st pe))
  df : W.heap[D]? = some (.deferred (some []))
theorem Held.put {D : Nat} {st st' : LoopState} {pe pe' : Option Code} {W : World} (h : Held fn tmps ps assign body D st pe W) :
    Held fn tmps ps assign body D st' pe' (W.putObj (D + 1) (.loop (recAt fn tmps ps assign body D st' pe'))) :=
  ⟨World.putObj_heap_same (Array.getElem?_eq_some_iff.1 h.lp).1, (World.putObj_heap_other (by omega)).trans h.df⟩
/-- the loop's two blocks lie as they lay -/
def Two (D : Nat) (W W' : World) : Prop := W'.heap[D]? = W.heap[D]? ∧ W'.heap[D + 1]? = W.heap[D + 1]?
theorem Held.keeps {D : Nat} {st : LoopState} {pe : Option Code} {W W' : World} (h : Held fn tmps ps assign body D st pe W) (k : Two D W W') : Held fn tmps ps assign body D st pe W' :=
  ⟨k.2.trans h.lp, k.1.trans h.df⟩
/-- how the body of a round may be left -/
def postX (D : Nat) (Kp : World → World → Prop) (I : List α → World → Prop) (Ix : Code → List α → World → Prop) (xs : List α) (W : World) : Exit → Act → World → Prop
  | .normal, _, W' => Two D W W' ∧ Kp W W' ∧ I xs W'
  | .ret, _, W' => Two D W W' ∧ Kp W W' ∧ Ix .ret xs W'
  | .exit id, _, W' => Two D W W' ∧ Kp W W' ∧ Ix (.exit id) xs W'
  | .goto t, _, W' => Two D W W' ∧ Kp W W' ∧ Ix (.goto t) xs W'
  | .panic _, _, _ => False
  | .outgrown, _, _ => False
theorem Held.own {D B : Nat} (hB : D + 2 ≤ B) {x : Option Nat} (hx : ∀ r, x = some r → D + 2 ≤ r) {β : Type} (st : LoopState) (pe : β → Option Code) : OwnX B x (fun (s : β) W => Held fn tmps ps assign body D st (pe s) W) := fun s A C row hs hg hr => by
  have h1 : row ≠ some (D + 1) := fun e => (hr _ e).elim (fun h => by have := hx _ h; omega) (fun h => by have := h.1; omega)
  have h0 : row ≠ some D := fun e => (hr _ e).elim (fun h => by have := hx _ h; omega) (fun h => by have := h.1; omega)
  exact ⟨(hg.block _ (Array.getElem?_eq_some_iff.1 hs.lp).1 (fun e => h1 e.symm)).trans hs.lp, (hg.block _ (Array.getElem?_eq_some_iff.1 hs.df).1 (fun e => h0 e.symm)).trans hs.df⟩

variable {Kp : World → World → Prop} {I : List α → World → Prop} {Ix : Code → List α → World → Prop}
/-- a round's end, out of the body's word -/
theorem round_end {D : Nat} {xs : List α} {W0 W : World} (hI : OwnFrom D I) (hIx : ∀ c, OwnFrom D (Ix c))
    (hKt : ∀ {A B C : World}, Kp A B → Kp B C → Kp A C) (hKb : ∀ (W : World) (o o' : Loop), W.heap[D + 1]? = some (.loop o) → Kp W (W.putObj (D + 1) (.loop o')))
    (hW : Held fn tmps ps assign body D .busy none W) (hK0 : Kp W0 W) (e : Exit) (a : Act) (W3 : World) (hp : postX D Kp I Ix xs W e a W3) :
    roundPost P (D + 1) (fun e W' => (e = .returned (.bool true) ∧ (I xs W' ∧ Held fn tmps ps assign body D .ready none W') ∧ Kp W0 W') ∨
      (e = .returned (.bool false) ∧ (∃ c, Ix c xs W' ∧ Held fn tmps ps assign body D .done (some c) W') ∧ Kp W0 W')) e a W3 := by
  have no : ∀ c, Two D W W3 → Kp W W3 → Ix c xs W3 → ∃ v w', (Instr.endRound (D + 1) (some c)).run P W3 = .ok v w' ∧
      ((Ending.returned v = .returned (.bool true) ∧ (I xs w' ∧ Held fn tmps ps assign body D .ready none w') ∧ Kp W0 w') ∨
      (Ending.returned v = .returned (.bool false) ∧ (∃ c, Ix c xs w' ∧ Held fn tmps ps assign body D .done (some c) w') ∧ Kp W0 w')) := fun c hk hkp hi => by
    have hH := hW.keeps hk
    exact ⟨_, _, run_endRound (some c) hH.lp, .inr ⟨rfl, ⟨c, (hIx c).putObj _ hi (by omega) hH.lp rfl, hH.put⟩, hKt hK0 (hKt hkp (hKb _ _ _ hH.lp))⟩⟩
  cases e with
  | normal =>
    obtain ⟨hk, hkp, hi⟩ := hp
    have hH := hW.keeps hk
    exact ⟨_, _, run_endRound none hH.lp, .inl ⟨rfl, ⟨hI.putObj _ hi (by omega) hH.lp rfl, hH.put⟩, hKt hK0 (hKt hkp (hKb _ _ _ hH.lp))⟩⟩
  | ret => exact no _ hp.1 hp.2.1 hp.2.2
  | exit id => exact no _ hp.1 hp.2.1 hp.2.2
  | goto t => exact no _ hp.1 hp.2.1 hp.2.2
  | panic ch => exact hp.elim
  | outgrown => exact hp.elim

theorem range_own {g : Operand} {Q : Exit → Act → World → Prop} {a : Act} {w : World}
    (hro : F.round = none) (h1 : 1 ≤ n) {gf : Nat} {lb : Array Value} (hg : a.eval g = .func (.func gf) #[] lb) (hFg : F.fn gf) (eg : ∀ args w, (callFunc gf args).run P w = .ok (.enter gf args) w)
    {encs : α → Array Value} {S Sp : List α → Prop} {m : Nat} {y : Option Nat} {T : List α → α → World → Prop} (hseq : SeqOwn F (n - 1) m y P gf lb encs Kp T S Sp w)
    (hKt : ∀ {A B C : World}, Kp A B → Kp B C → Kp A C) (hKb : ∀ (W : World) (o o' : Loop), W.heap[w.heap.size + 1]? = some (.loop o) → Kp W (W.putObj (w.heap.size + 1) (.loop o'))) (hps : ∀ x, (encs x).size = ps.size)
    (hI : OwnX w.heap.size (y.map (w.heap.size + 2 + ·)) I) (hIx : ∀ c, OwnX w.heap.size (y.map (w.heap.size + 2 + ·)) (Ix c)) (h0 : I [] w) (a₁ : α → Act)
    (hassign : ∀ (l : Nat) (x : α) (W : World) (K : Act → World → Prop), K (a₁ x) W →
      assign.wpIn (F.inRound l) m P (Exit.then K (fun _ _ _ => False)) { tmps := (ps.zip (encs x)).foldl (fun t (p, v) => t.setIfInBounds p v) a.tmps, defers := [] } W)
    (hbody : ∀ (l : Nat) (pre : List α) (x : α) (W : World), w.heap.size + 2 ≤ W.heap.size → I pre W → (∃ W', T pre x W' ∧ W'.heap.size = W.heap.size) → body.wpIn (F.inRound l) m P (postX w.heap.size Kp I Ix (pre ++ [x]) W) (a₁ x) W)
    (hdone : ∀ (D : Nat) (xs : List α) (W : World), w.heap.size ≤ D → S xs → I xs W → W.heap[D]? = some (.deferred (some [])) → Q .normal { a with defers := { target := .collected D, args := #[] } :: a.defers } W)
    (hstop : ∀ (D : Nat) (c : Code) (pre : List α) (W : World), w.heap.size ≤ D → Sp pre → Ix c pre W → W.heap[D]? = some (.deferred (some [])) → c.wpIn F n P Q { a with defers := { target := .collected D, args := #[] } :: a.defers } W) :
    (Code.rangeFunc g ps assign body).wpIn F n P Q a w := by
  refine wpIn_rangeFunc (fun fn hfn => ?_)
  rw [hro]
  have hH1 : Held fn a.tmps ps assign body w.heap.size .ready none ((w.alloc (.deferred (some []))).alloc (.loop (recAt fn a.tmps ps assign body w.heap.size .ready none))) :=
    ⟨by have := World.alloc_heap_new (w.alloc (.deferred (some []))) (.loop (recAt fn a.tmps ps assign body w.heap.size .ready none)); rwa [World.size_alloc] at this,
     (Below.heap_alloc _ _ _ (by simp)).trans (World.alloc_heap_new w _)⟩
  have hI1 := hI.own.alloc (.loop (recAt fn a.tmps ps assign body w.heap.size .ready none)) (hI.own.alloc (.deferred (some [])) h0)
  have hb1 : Below w.heap.size w ((w.alloc (.deferred (some []))).alloc (.loop (recAt fn a.tmps ps assign body w.heap.size .ready none))) :=
    ((Below.refl _ w).alloc (Nat.le_refl _) _).alloc (by simp) _
  have hs1 : ((w.alloc (.deferred (some []))).alloc (.loop (recAt fn a.tmps ps assign body w.heap.size .ready none))).heap.size = w.heap.size + 2 := by simp
  refine ⟨w.heap.size + 1, [{ target := .collected w.heap.size, args := #[] }], (w.alloc (.deferred (some []))).alloc (.loop (recAt fn a.tmps ps assign body w.heap.size .ready none)), { target := .fn (.func gf) lb, args := #[.func (.yield (w.heap.size + 1)) #[] #[]] }, (w.alloc (.deferred (some []))).alloc (.loop (recAt fn a.tmps ps assign body w.heap.size .ready none)), gf, #[.func (.yield (w.heap.size + 1)) #[] #[]] ++ lb, (w.alloc (.deferred (some []))).alloc (.loop (recAt fn a.tmps ps assign body w.heap.size .ready none)), run_enterLoop_outer _ _ _ _ _, ?_, ?_, ?_, fun _ => h1, ?_⟩
  · simp only [resolve, hg]
    simp [go_sem]
  · intro f' hf'
    simp [Target.leads] at hf'
    subst hf'
    exact hFg
  · simp [invoke, go_sem, eg]
  · generalize (w.alloc (.deferred (some []))).alloc (.loop (recAt fn a.tmps ps assign body w.heap.size .ready none)) = W1 at hH1 hI1 hb1 hs1
    have lift : ∀ {β : Type} {J : β → World → Prop}, OwnX w.heap.size (y.map (w.heap.size + 2 + ·)) J → OwnX W1.heap.size (y.map (W1.heap.size + ·)) J := fun h => by rw [hs1]; exact h.more (by omega)
    have hy2 : ∀ r, y.map (W1.heap.size + ·) = some r → w.heap.size + 2 ≤ r := fun r e => by
      cases y with
      | none => cases e
      | some z => cases e; dsimp only; omega
    refine (hseq (w.heap.size + 1) (fun pre W => I pre W ∧ Held fn a.tmps ps assign body w.heap.size .ready none W)
      (fun pre W => ∃ c, Ix c pre W ∧ Held fn a.tmps ps assign body w.heap.size .done (some c) W) W1 hb1 hs1
      ((lift hI).and (Held.own (by omega) hy2 _ _)) (fun s A C row hs hg' hr => ?_) ?_ ⟨hI1, hH1⟩).mono ?_
    · obtain ⟨c, h2, h3⟩ := hs
      exact ⟨c, lift (hIx c) s A C row h2 hg' hr, Held.own (β := Unit) (B := W1.heap.size) (by omega) hy2 _ (fun _ => some c) () A C row h3 hg' hr⟩
    · rintro pre x W ⟨hi, hH⟩ hlen
      refine ⟨fn, _, assign, body, run_yield hH.lp (hps x), roundIn_of_wpIn hfn (hassign _ x W _ ⟨_, run_beginRound hH.lp rfl, ?_⟩)⟩
      exact wpIn_mono (hbody _ pre x _ (by have := (Array.getElem?_eq_some_iff.1 hH.lp).1; simp; omega) (hI.own.putObj _ hi (by omega) hH.lp rfl) ⟨_, hlen, by simp⟩) (round_end hI.own (fun c => (hIx c).own) hKt hKb hH.put (hKb _ _ _ hH.lp))
    · rintro e W2 ⟨⟨v, rfl⟩, (⟨xs, hS, hi, hH⟩ | ⟨pre, hSp, c, hi, hH⟩)⟩
      · exact ⟨none, _, run_endLoop hH.lp (by simp), hdone _ xs _ (Nat.le_refl _) hS (hI.own.putObj _ hi (by omega) hH.lp rfl) ((World.putObj_heap_other (by omega)).trans hH.df)⟩
      · exact ⟨some c, _, run_endLoop hH.lp (by simp), hstop _ c pre _ (Nat.le_refl _) hSp ((hIx c).own.putObj _ hi (by omega) hH.lp rfl) ((World.putObj_heap_other (by omega)).trans hH.df)⟩
end
end Go.Proofs.YtmmnfkggfnokjaaGreat

namespace Go.Proofs.YtmmnfkggfnokjaaGreat
open Go.RowKit
attribute [local go_sem] Oper.semAt_some

theorem OwnX.of {β : Type} {B : Nat} {I : β → World → Prop} (h : OwnFrom B I) : OwnX B none I := fun s A C row hs hg hr => h s A C row hs hg (fun r e => (hr r e).resolve_left (fun q => by cases q))
theorem ownX_fr {β : Type} {B : Nat} {us : List Nat} {w : World} (hB : w.heap.size ≤ B) : OwnX B none (fun (_ : β) W => Fr us w W) := OwnX.of (fun _ A C row hs hg hr =>
  ⟨hg.os.trans hs.os, hg.tape.trans hs.tape, hg.output.trans hs.output, Nat.le_trans hs.size hg.size, fun k hk hn =>
    (hg.block k (Nat.lt_of_lt_of_le hk hs.size) (fun e => by have := (hr k e.symm).1; omega)).trans (hs.block k hk hn)⟩)

/-- what a round keeps: the blocks below a place in the heap, but some -/
structure KpN (N : Nat) (us : List Nat) (W W' : World) : Prop where
  os : W'.os = W.os
  tape : W'.tape = W.tape
  output : W'.output = W.output
  size : W.heap.size ≤ W'.heap.size
  block : ∀ k, k < N → k ∉ us → W'.heap[k]? = W.heap[k]?
section
variable {N : Nat} {us : List Nat} {A W W' : World}
theorem KpN.refl (N : Nat) (us : List Nat) (W : World) : KpN N us W W := ⟨rfl, rfl, rfl, Nat.le_refl _, fun _ _ _ => rfl⟩
theorem KpN.trans (h : KpN N us A W) (k : KpN N us W W') : KpN N us A W' :=
  ⟨k.os.trans h.os, k.tape.trans h.tape, k.output.trans h.output, Nat.le_trans h.size k.size, fun i hi hn => (k.block i hi hn).trans (h.block i hi hn)⟩
theorem KpN.of (h : Below N W W') : KpN N us W W' := ⟨h.os, h.tape, h.output, h.size, fun k hk _ => h.block k hk⟩
theorem KpN.fr {w : World} (h : Fr us w W) (k : KpN N us W W') (hN : w.heap.size ≤ N) : Fr us w W' :=
  ⟨k.os.trans h.os, k.tape.trans h.tape, k.output.trans h.output, Nat.le_trans h.size k.size, fun i hi hn => (k.block i (by omega) hn).trans (h.block i hi hn)⟩
theorem KpN.le {M : Nat} (k : KpN N us W W') (h : M ≤ N) : KpN M us W W' := ⟨k.os, k.tape, k.output, k.size, fun i hi hu => k.block i (by omega) hu⟩
theorem KpN.cell {b o : Nat} {v : Value} (k : KpN N us W W') (h : b < N ∧ b ∉ us) (hc : W.cell? ⟨b, o, none⟩ = some v) : W'.cell? ⟨b, o, none⟩ = some v := (World.cell?_of_block (a := ⟨b, o, none⟩) (k.block _ h.1 h.2)).trans hc
theorem ownX_kpn {β : Type} {B : Nat} (hN : N ≤ W.heap.size) (hB : N ≤ B) : OwnX B none (fun (_ : β) W' => KpN N us W W') := OwnX.of (fun _ A C row hs hg hr =>
  ⟨hg.os.trans hs.os, hg.tape.trans hs.tape, hg.output.trans hs.output, Nat.le_trans hs.size hg.size, fun k hk hn =>
    (hg.block k (by have := hs.size; omega) (fun e => by have := (hr k e.symm).1; omega)).trans (hs.block k hk hn)⟩)
theorem KpN.two {D : Nat} (k : KpN N us W W') (h : D + 2 ≤ N) (hu : D ∉ us ∧ D + 1 ∉ us) : Two D W W' := ⟨k.block _ (by omega) hu.1, k.block _ (by omega) hu.2⟩
theorem KpN.kpf {n₀ B1 B2 : Nat} (k : KpN N us W W') (hn : n₀ ≤ N) (h1 : B1 < N ∧ B1 ∉ us) (h2 : B2 < N ∧ B2 ∉ us) : KpF n₀ us B1 B2 W W' :=
  ⟨k.os, k.tape, k.output, k.size, fun i hi hu => k.block i (by omega) hu, k.block _ h1.1 h1.2, k.block _ h2.1 h2.2⟩
theorem KpN.boxed {B : Nat} {t : TypeId} {v : Value} (k : KpN N us W W') (h : B < N ∧ B ∉ us) (hb : Boxed W B t v) : Boxed W' B t v := (k.block _ h.1 h.2).trans hb
end

end Go.Proofs.YtmmnfkggfnokjaaGreat

namespace Go.Proofs.YtmmnfkggfnokjaaGreat
open Go.RowKit
attribute [local go_sem] Oper.semAt_some

/-! ### a loop in whose rounds a range over a function stands: each round pushes a mark; at the return all of them are shut -/
section
variable {F : Fence} {n : Nat} {P : Program}
def marksOf (Ds : List Nat) : List Deferred := Ds.map fun D => { target := .collected D, args := #[] }
def shutAll : List Nat → World → World
  | [], w => w
  | D :: Ds, w => shutAll Ds (w.putObj D (.deferred none))
theorem shutAll_heap : ∀ (Ds : List Nat) (w : World) (k : Nat), k ∉ Ds → (shutAll Ds w).heap[k]? = w.heap[k]?
  | [], _, _, _ => rfl
  | D :: Ds, w, k, h => (shutAll_heap Ds _ k (fun e => h (List.mem_cons_of_mem _ e))).trans (World.putObj_heap_other (fun e => h (by rw [e]; exact List.mem_cons_self)))
theorem shutAll_size : ∀ (Ds : List Nat) (w : World), (shutAll Ds w).heap.size = w.heap.size
  | [], _ => rfl
  | _ :: Ds, w => (shutAll_size Ds _).trans (by simp)
theorem shutAll_rest : ∀ (Ds : List Nat) (w : World), (shutAll Ds w).os = w.os ∧ (shutAll Ds w).tape = w.tape ∧ (shutAll Ds w).output = w.output
  | [], _ => ⟨rfl, rfl, rfl⟩
  | D :: Ds, w => shutAll_rest Ds (w.putObj D (.deferred none))
theorem shutAll_kpn {Ds : List Nat} {w : World} {us : List Nat} {N : Nat} (h : ∀ D ∈ Ds, N ≤ D ∨ D ∈ us) : KpN N us w (shutAll Ds w) :=
  ⟨(shutAll_rest Ds w).1, (shutAll_rest Ds w).2.1, (shutAll_rest Ds w).2.2, Nat.le_of_eq (shutAll_size Ds w).symm, fun k hk hn => shutAll_heap Ds w k (fun e => by rcases h k e with q | q; omega; exact hn q)⟩
/-- at the return: the marks one after another -/
theorem leaves_marks {fn : Func} {tmps : Array Value} {R : Ending → World → Prop} : ∀ (Ds : List Nat) (w : World), Ds.Nodup → (∀ D ∈ Ds, w.heap[D]? = some (.deferred (some []))) →
    LeavesIn F n P fn tmps R [] .returning (shutAll Ds w) → LeavesInM F n P fn tmps R (marksOf Ds) .returning w
  | [], _, _, _, h => h
  | D :: Ds, w, hn, hD, h => by
    obtain ⟨h1, h2⟩ := List.nodup_cons.1 hn
    refine ⟨by simp, .inl ⟨D, _, rfl, run_takeDeferred (hD D List.mem_cons_self), leaves_marks Ds _ h2 (fun E hE => ?_) h⟩⟩
    exact (World.putObj_heap_other (fun e => h1 (by rw [← e]; exact hE))).trans (hD E (List.mem_cons_of_mem _ hE))
end
end Go.Proofs.YtmmnfkggfnokjaaGreat
namespace Go.Proofs.YtmmnfkggfnokjaaGreat
end Go.Proofs.YtmmnfkggfnokjaaGreat
namespace Go.Proofs.YtmmnfkggfnokjaaGreat
end Go.Proofs.YtmmnfkggfnokjaaGreat
namespace Go.Proofs.YtmmnfkggfnokjaaGreat
open Go.RowKit Go.Shelf Go.Lib

theorem own_grown (w : World) (e n size : Nat) (z : Value) (hz : z.cells.size = size) (hn : n ≤ 1000000) :
    (w.drew.alloc (.cells (([] : List Value).toArray ++ Builtin.zeroCells z.cells (0 + n - 0) ++ Builtin.zeroCells z.cells (grownCap w (0 + n) 0 e - (0 + n))) e)).ownsRow w.heap.size e size (.slice (some ⟨w.heap.size, 0, none⟩) 0 (grownCap w (0 + n) 0 e)) 0 [] := by
  have h1 := grownCap_ge w (0 + n) 0 e
  have h2 := grownCap_le_maxLen w (0 + n) 0 e (by unfold maxLen; omega)
  refine ⟨by simp, .inr ⟨w.heap.size, _, _, rfl, Nat.le_refl _, World.alloc_heap_new w.drew _, Nat.zero_le _, h2, ?_, by simp⟩⟩
  simp only [Builtin.zeroCells, Array.size_append, Array.size_map, Array.size_range, hz, List.size_toArray, List.length_nil, Nat.zero_add, Nat.sub_zero]
  rw [Nat.zero_add] at h1
  rw [← Nat.add_mul, Nat.add_sub_cancel' h1]
theorem cel_crows {w : World} {vs : List Value} {xs : List Cel} (h : CRows w vs xs) : vs = flat xs := by
  induction h with
  | nil => rfl
  | cons hc _ ih =>
    obtain ⟨rfl, _⟩ := hc
    rw [ih]; rfl
theorem AccInv.base {α : Type} [RepC α] {B B' e : Nat} {acc : List α} {v : Value} {w : World} (h : AccInv B e acc v w) (hB : B' ≤ B) : AccInv B' e acc v w := by
  obtain ⟨vs, ho, hc⟩ := h.ex
  exact ⟨vs, own_mono ho hB, hc⟩
theorem AccInv.newRow {B e : Nat} {acc : List Cel} {v : Value} {w : World} (h : AccInv B e acc v w) : ∃ a cap, v = .slice a acc.length cap ∧ NewRow B w a cap acc := by
  obtain ⟨vs, ho, hc⟩ := h.ex
  obtain ⟨a, cap, e1, hr⟩ := h.row
  have h1 : vs = flat acc := cel_crows hc
  subst h1
  exact own_new ho hr.fit
/-- how many stand in the first rows -/
def totL {α : Type} (l : List (List α)) (k : Nat) : Nat := (l.take k).flatten.length
/-- all that stands in rows, one behind the other -/
def sizeAll {α : Type} (l : List (List α)) : Nat := l.flatten.length
theorem flat_take {α : Type} {l : List (List α)} {k : Nat} (hk : k < l.length) : (l.take (k + 1)).flatten = (l.take k).flatten ++ l[k] := by
  rw [List.take_succ_eq_append_getElem hk, List.flatten_append]; simp
theorem flat_take_len {α : Type} (l : List (List α)) (k : Nat) : (l.take k).flatten.length ≤ l.flatten.length := by
  conv => rhs; rw [← List.take_append_drop k l, List.flatten_append, List.length_append]
  omega

end Go.Proofs.YtmmnfkggfnokjaaGreat
namespace Go.Proofs.YtmmnfkggfnokjaaGreat
open Go.RowKit

theorem Tryz.info55 : (Tryz.prog.info? 3).map (fun i => (i.zero, i.size, i.bytes)) = some (some (.int .i64 0), 1, 8) := by kernel_rfl
/-- make of a slice of numbers, as a run -/
theorem run_ints (n : Nat) (hn : n ≤ 1000000) (w : World) : (Instr.makeSlice 63 (.int .i64 n) (.int .i64 n)).run Tryz.prog w = .ok (.slice (some ⟨w.heap.size, 0, none⟩) n n) (w.alloc (.cells (Array.replicate n (Value.int .i64 0)) 3)) := by
  obtain ⟨i, hi, hz0, hz1, hz2⟩ := info_parts Tryz.infoInt
  have hrun := run_make (P := Tryz.prog) w 63 3 i _ Tryz.underlying63 hi hz0 .i64 .i64 n n (by omega) (Int.le_refl _) (by rw [hz2]; omega) (by omega)
  rw [hz1, Nat.mul_one, Int.toNat_natCast, made_ints] at hrun
  exact hrun

theorem RowU.made2 {w : World} {n u : Nat} (h : w.heap.size = u) : RowU (w.alloc (.cells (Array.replicate n (Value.int .i64 0)) 3)) u (List.replicate n 0) := by
  subst h; exact RowU.made w n
theorem map_made2 {w : World} {m : Nat} (h : w.heap.size = m) : MapV Tryz.prog 3 (w.alloc (.map #[] 0)) m 0 (fun _ => none) := by
  subst h; exact MapV.made Tryz.prog 3 w
theorem box_new {w : World} {o : Obj} {C : Nat} (h : w.heap.size = C) : (w.alloc o).heap[C]? = some o := by
  subst h; exact heap_alloc_new w o

theorem MapV.run_update {P : Program} {k e t : TypeId} {w : World} {b n : Nat} {f : Int → Option Value} (h : MapV P k w b n f) (hk : P.underlying k = some (.int .i64)) (ht : P.underlying t = some (.map k e)) (hn : n < 9223372036854775807) (i : Int) (hi : (Lit.int .i64 i).wf = true) (z : Value) :
    ∃ w', (Instr.mapUpdate t (.map (some b)) (.int .i64 i) z).run P w = .ok () w' ∧ MapV P k w' b (n + 1) (fun j => if j = i then some z else f j) ∧ w.grownBy w' (some b) := by
  obtain ⟨D, h, hf⟩ := h.ex
  obtain ⟨w', hrun, h1, h2⟩ := h.update (Go.Maps.int_keyed hk) ht (by unfold maxLen; omega) (Go.Maps.keyOf_int_mk hk hi) (show heldElem z = some (.held z, []) from rfl)
  exact ⟨w', hrun, ⟨_, h1, MapV.put_at h.isMap hf i z⟩, h2⟩

/-! ### where a variable first stands -/
def isV (v : Int) (c : Cel) : Bool := decide (c.k = 1) && decide (c.n = v)
def firstO (l : List Cel) (v : Int) : Option Nat := l.findIdx? (isV v)
def firstV (l : List Cel) (v : Int) : Option Value := (firstO l v).map fun i => Value.int .i64 (i : Int)
def upAt (l : List Cel) (k : Nat) : Nat := match l[k]? with
  | none => k
  | some c => if c.k = 1 then (firstO (l.take k) c.n).getD k else k
def upL (l : List Cel) : List Int := (List.range l.length).map fun k => (upAt l k : Int)
def upK (l : List Cel) (k : Nat) : List Int := (upL l).take k ++ List.replicate (l.length - k) 0
theorem upL_length (l : List Cel) : (upL l).length = l.length := by simp [upL]
theorem upK_length {l : List Cel} {k : Nat} (hk : k ≤ l.length) : (upK l k).length = l.length := by
  unfold upK; rw [List.length_append, List.length_take, upL_length, List.length_replicate]; omega
theorem upK_zero (l : List Cel) : upK l 0 = List.replicate l.length 0 := by simp [upK]
theorem upK_all {l : List Cel} {k : Nat} (h : l.length ≤ k) : upK l k = upL l := by
  unfold upK; rw [List.take_of_length_le (by rw [upL_length]; exact h), show l.length - k = 0 by omega]; simp
theorem upK_set {l : List Cel} {k : Nat} (hk : k < l.length) {v : Int} (hv : v = upAt l k) : (upK l k).set k v = upK l (k + 1) := by
  subst hv
  unfold upK
  have h1 : k < (upL l).length := by rw [upL_length]; exact hk
  have h2 : (upL l)[k] = (upAt l k : Int) := by simp [upL]
  rw [List.set_append_right _ _ (by simp; omega), List.take_succ_eq_append_getElem h1, h2]
  have h3 : k - ((upL l).take k).length = 0 := by rw [List.length_take]; omega
  rw [h3, show l.length - k = (l.length - (k + 1)) + 1 by omega, List.replicate_succ, List.set_cons_zero, List.append_assoc]
  rfl
theorem first_lt {l : List Cel} {v : Int} {i : Nat} (h : firstO l v = some i) : i < l.length := by
  unfold firstO at h
  exact (List.findIdx?_eq_some_iff_getElem.1 h).1
theorem first_take {l : List Cel} {k : Nat} (hk : k < l.length) (v : Int) : firstO (l.take (k + 1)) v = match firstO (l.take k) v with
    | some i => some i
    | none => if isV v l[k] then some k else none := by
  unfold firstO
  rw [List.take_succ_eq_append_getElem hk, List.findIdx?_append]
  cases h : (l.take k).findIdx? (isV v) with
  | some i => rfl
  | none =>
    simp only [Option.none_or]
    rw [List.length_take, Nat.min_eq_left (Nat.le_of_lt hk)]
    by_cases h2 : isV v l[k] = true
    · simp [List.findIdx?_cons, h2]
    · simp [List.findIdx?_cons, h2]
theorem Fr.ofGrown {u m : Nat} {w w' : World} (h : w.grownBy w' (some m)) : Fr [u, m] w w' :=
  ⟨h.os, h.tape, h.output, h.size, fun k hk hn => h.block k hk (fun e => hn (by cases e; simp))⟩
theorem firstV_same {l : List Cel} {k : Nat} (hk : k < l.length) (h : ∀ v, isV v l[k] = true → (firstO (l.take k) v).isSome) : firstV (l.take (k + 1)) = firstV (l.take k) := by
  funext v
  unfold firstV
  rw [first_take hk]
  cases hf : firstO (l.take k) v with
  | some i => rfl
  | none =>
    simp only
    rw [if_neg]
    intro h2
    have := h v h2
    rw [hf] at this; cases this
theorem firstV_new {l : List Cel} {k : Nat} (hk : k < l.length) (h1 : l[k].k = 1) (hf : firstO (l.take k) l[k].n = none) : firstV (l.take (k + 1)) = fun j => if j = l[k].n then some (.int .i64 (k : Int)) else firstV (l.take k) j := by
  funext v
  unfold firstV
  rw [first_take hk]
  by_cases e : v = l[k].n
  · subst e
    rw [hf, if_pos rfl]
    simp [isV, h1]
  · rw [if_neg e]
    cases hz : firstO (l.take k) v with
    | some i => rfl
    | none =>
      simp only
      rw [if_neg]
      simp [isV]
      intro _ e2
      exact e e2.symm
theorem upAt_other {l : List Cel} {k : Nat} (hk : k < l.length) (h : ¬ l[k].k = 1) : upAt l k = k := by
  unfold upAt; rw [List.getElem?_eq_getElem hk]; simp [h]
theorem upAt_var {l : List Cel} {k : Nat} (hk : k < l.length) (h : l[k].k = 1) : upAt l k = (firstO (l.take k) l[k].n).getD k := by
  unfold upAt; rw [List.getElem?_eq_getElem hk]; simp [h]

end Go.Proofs.YtmmnfkggfnokjaaGreat

namespace Go.Proofs.YtmmnfkggfnokjaaGreat
open Go.RowKit

/-! ### the classes' own reckoning, on rows of numbers: r: of each place the one that stands for its class -/
def uniR (r : List Nat) (x y : Nat) : List Nat := r.map fun z => if z = x then y else z
/-- one pair of places: the classes behind it, and what is to do behind it; nothing: a clash -/
def joinStep (l : List Cel) (r : List Nat) (p q : Nat) : Option (List Nat × List (Nat × Nat)) :=
  let x := r.getD p 0
  let y := r.getD q 0
  match l[x]?, l[y]? with
  | some c, some d =>
    if x = y then some (r, [])
    else if yieldsB c d then some (uniR r x y, [])
    else if yieldsB d c then some (uniR r y x, [])
    else if c = d then some (uniR r x y, ((argsL l x).zip (argsL l y)).reverse)
    else none
  | _, _ => none
/-- all pairs that are to do, the last one first -/
def joinL (l : List Cel) : Nat → List Nat → List (Nat × Nat) → Option (List Nat)
  | _, r, [] => some r
  | 0, _, _ => none
  | f + 1, r, (p, q) :: t => match joinStep l r p q with
    | none => none
    | some (r', u) => joinL l f r' (u ++ t)
/-- the sizes of the classes' terms; nothing: one is within itself -/
def measureL (l : List Cel) (r : List Nat) : Nat → List Int → Nat → Option (List Int)
  | 0, _, _ => none
  | f + 1, s, p =>
    let x := r.getD p 0
    if s.getD x 0 = 0 then
      match (argsL l x).foldl (fun (o : Option (List Int × Int)) q => o.bind fun (s', n) => (measureL l r f s' q).map fun s2 => (s2, n + s2.getD (r.getD q 0) 0)) (some (s.set x (-1), 1)) with
      | none => none
      | some (s', n) => some (s'.set x (min n 201))
    else if s.getD x 0 = -1 then none else some s
/-- the term of a place's class -/
def layL (l : List Cel) (r : List Nat) : Nat → Nat → List Cel
  | 0, _ => []
  | f + 1, p => match l[r.getD p 0]? with
    | none => []
    | some c => c :: (argsL l (r.getD p 0)).flatMap (layL l r f)
/-- what is told of two right terms: none: they can't be made alike; some none: too long -/
def mguL (a b : List Cel) : Option (Option (List Bnd)) :=
  let l := a ++ b
  let n := l.length
  match joinL l (7 * n + 1) ((List.range n).map (upAt l)) [(0, a.length)] with
  | none => none
  | some r => match measureL l r (n + 1) (List.replicate n 0) 0 with
    | none => none
    | some s =>
      let vs := riseI (varsL a ++ varsL b)
      let at_ := fun v => r.getD ((firstO l v).getD 0) 0
      if vs.any (fun v => decide (200 < s.getD (at_ v) 0)) then some none
      else some (some (bindL (fun v => layL l r (n + 1) (at_ v)) vs))
end Go.Proofs.YtmmnfkggfnokjaaGreat

namespace Go.Proofs.YtmmnfkggfnokjaaGreat
open Go.RowKit

/-! ### the forest, when one class goes to another -/
section
variable {n : Nat} {U : List Int} {r d : Nat → Nat}
theorem Roots.union (h : Roots n U r d) {x y : Nat} (hx : x < n) (hy : y < n) (hrx : r x = x) (hry : r y = y) (hne : x ≠ y) :
    Roots n (U.set x (y : Int)) (fun z => if r z = x then y else r z) (fun z => if r z = x then d z + d y + 1 else d z) := by
  have hxl : x < U.length := by rw [h.len]; exact hx
  have hyx : r y ≠ x := by rw [hry]; exact fun e => hne e.symm
  refine ⟨by rw [List.length_set]; exact h.len, fun z hz => ?_, fun z hz => ?_, fun z hz => ?_⟩
  · by_cases e : x = z
    · subst e
      refine ⟨y, by rw [List.getElem?_set_self hxl], hy, ?_, fun _ => ?_, fun e => absurd e.symm hne⟩
      · simp only [hrx, if_true, if_neg hyx, hry]
        split <;> rfl
      · simp only [hrx, if_true, if_neg hyx]; omega
    · obtain ⟨q, e1, hq1, hq2, hq3, hq4⟩ := h.up z hz
      refine ⟨q, by rw [List.getElem?_set_ne e]; exact e1, hq1, by simp only [hq2], fun hqz => ?_, fun hqz => ?_⟩
      · have := hq3 hqz
        simp only [hq2]
        split <;> omega
      · have hrz := hq4 hqz
        have : r z ≠ x := by rw [hrz]; exact fun e' => e e'.symm
        simp only [if_neg this]; exact hrz
  · split
    · exact hy
    · exact h.lt z hz
  · split
    · rw [List.getElem?_set_ne hne]
      have := h.top y hy
      rwa [hry] at this
    · rename_i hz2
      rw [List.getElem?_set_ne (fun e => hz2 e.symm)]
      exact h.top z hz
end
/-- the place that stands for a class stands for itself -/
theorem Roots.idem {n : Nat} {U : List Int} {r d : Nat → Nat} (h : Roots n U r d) {z : Nat} (hz : z < n) : r (r z) = r z := by
  obtain ⟨q, e1, _, _, _, hq4⟩ := h.up (r z) (h.lt z hz)
  rw [h.top z hz] at e1
  injection e1 with e1
  exact hq4 (by omega)

/-! ### how long joining lasts -/
/-- how many places stand for their classes -/
def tops (r : List Nat) : Nat := ((List.range r.length).filter fun k => r.getD k 0 = k).length
theorem uniR_length (r : List Nat) (x y : Nat) : (uniR r x y).length = r.length := by simp [uniR]
theorem uniR_get (r : List Nat) (x y : Nat) {k : Nat} (hk : k < r.length) : (uniR r x y).getD k 0 = if r.getD k 0 = x then y else r.getD k 0 := by
  simp [uniR, List.getD_eq_getElem?_getD, List.getElem?_map, List.getElem?_eq_getElem hk]
theorem tops_uni {r : List Nat} {x y : Nat} (hx : x < r.length) (hrx : r.getD x 0 = x) (hry : r.getD y 0 = y) (hne : x ≠ y) : tops (uniR r x y) + 1 ≤ tops r := by
  unfold tops
  rw [uniR_length]
  have h1 : ∀ k ∈ List.range r.length, ((uniR r x y).getD k 0 = k) → (r.getD k 0 = k ∧ k ≠ x) := by
    intro k hk e
    rw [uniR_get r x y (List.mem_range.1 hk)] at e
    by_cases h : r.getD k 0 = x
    · rw [if_pos h] at e
      subst e
      rw [hry] at h
      exact absurd h.symm hne
    · rw [if_neg h] at e
      exact ⟨e, fun e' => h (by rw [e', hrx])⟩
  have h2 : ((List.range r.length).filter fun k => (uniR r x y).getD k 0 = k).length ≤ (((List.range r.length).filter fun k => r.getD k 0 = k).filter fun k => k ≠ x).length := by
    rw [List.filter_filter, ← List.countP_eq_length_filter, ← List.countP_eq_length_filter]
    refine List.countP_mono_left (fun k hk e => ?_)
    have := h1 k hk (by simpa using e)
    simp only [Bool.and_eq_true, decide_eq_true_eq]
    exact ⟨this.2, this.1⟩
  have h3 : (((List.range r.length).filter fun k => r.getD k 0 = k).filter fun k => k ≠ x).length < ((List.range r.length).filter fun k => r.getD k 0 = k).length := by
    rw [List.length_filter_lt_length_iff_exists]
    exact ⟨x, List.mem_filter.2 ⟨List.mem_range.2 hx, by simpa using hrx⟩, by simp⟩
  omega
end Go.Proofs.YtmmnfkggfnokjaaGreat

namespace Go.Proofs.YtmmnfkggfnokjaaGreat
open Go.RowKit

/-- rows of classes, and what is to do -/
structure JoinOk (l : List Cel) (r : List Nat) (t : List (Nat × Nat)) : Prop where
  len : r.length = l.length
  top : ∀ k, k < l.length → r.getD k 0 < l.length ∧ r.getD (r.getD k 0) 0 = r.getD k 0
  todo : ∀ p ∈ t, p.1 < l.length ∧ p.2 < l.length
theorem args_lt {l : List Cel} (hG : Good l) {i q : Nat} (h : q ∈ argsL l i) : q < l.length := by
  unfold argsL at h
  cases hi : l[i]? with
  | none => rw [hi] at h; cases h
  | some c =>
    rw [hi] at h
    obtain ⟨hlt, rfl⟩ := List.getElem?_eq_some_iff.1 hi
    obtain ⟨j, hj, rfl⟩ := List.mem_map.1 h
    have hj := List.mem_range.1 hj
    obtain ⟨g1, g2, g3⟩ := good_after hG hlt (j := j) (by omega)
    have := g3 hj
    unfold argP
    omega
theorem args_len {l : List Cel} (hG : Good l) (i : Nat) : (argsL l i).length ≤ 6 := by
  unfold argsL
  cases hi : l[i]? with
  | none => simp
  | some c =>
    obtain ⟨hlt, rfl⟩ := List.getElem?_eq_some_iff.1 hi
    obtain ⟨hc, _⟩ := good_cell hG hlt
    have := ar_le _ hc
    simpa using this
theorem JoinOk.uni {l : List Cel} {r : List Nat} {t : List (Nat × Nat)} (h : JoinOk l r t) {x y : Nat} (hy : y < l.length) (hry : r.getD y 0 = y) (hne : x ≠ y) : JoinOk l (uniR r x y) t := by
  refine ⟨(uniR_length r x y).trans h.len, fun k hk => ?_, h.todo⟩
  obtain ⟨h1, h2⟩ := h.top k hk
  rw [uniR_get r x y (by rw [h.len]; exact hk)]
  split
  · refine ⟨hy, ?_⟩
    rw [uniR_get r x y (by rw [h.len]; exact hy), hry, if_neg (fun e => hne e.symm)]
  · rename_i hz
    refine ⟨h1, ?_⟩
    rw [uniR_get r x y (by rw [h.len]; exact h1), h2, if_neg hz]
theorem join_step {l : List Cel} (hG : Good l) {r r' : List Nat} {p q : Nat} {t u : List (Nat × Nat)} (h : JoinOk l r ((p, q) :: t)) (hs : joinStep l r p q = some (r', u)) :
    JoinOk l r' (u ++ t) ∧ 7 * tops r' + u.length ≤ 7 * tops r := by
  obtain ⟨hp, hq⟩ := h.todo (p, q) List.mem_cons_self
  obtain ⟨x1, x2⟩ := h.top p hp
  obtain ⟨y1, y2⟩ := h.top q hq
  have ht : JoinOk l r t := ⟨h.len, h.top, fun z hz => h.todo z (List.mem_cons_of_mem _ hz)⟩
  unfold joinStep at hs
  simp only [List.getElem?_eq_getElem x1, List.getElem?_eq_getElem y1] at hs
  split at hs
  · cases hs; exact ⟨ht, by simp⟩
  · rename_i hne
    have u1 := tops_uni (by rw [h.len]; exact x1) x2 y2 hne
    have u2 := tops_uni (by rw [h.len]; exact y1) y2 x2 (fun e => hne e.symm)
    split at hs
    · cases hs; exact ⟨ht.uni y1 y2 hne, by rw [List.length_nil]; omega⟩
    · split at hs
      · cases hs; exact ⟨ht.uni x1 x2 (fun e => hne e.symm), by rw [List.length_nil]; omega⟩
      · split at hs
        · cases hs
          have k1 := ht.uni (x := r.getD p 0) y1 y2 hne
          refine ⟨⟨k1.len, k1.top, fun z hz => ?_⟩, ?_⟩
          · rcases List.mem_append.1 hz with hz | hz
            · have hz := List.of_mem_zip (List.mem_reverse.1 hz)
              exact ⟨args_lt hG hz.1, args_lt hG hz.2⟩
            · exact ht.todo z hz
          · have := args_len hG (r.getD p 0)
            rw [List.length_reverse, List.length_zip]
            omega
        · cases hs
/-- as many steps as are wanted, or more: the same answer -/
theorem join_fuel {l : List Cel} (hG : Good l) : ∀ (f g : Nat) (r : List Nat) (t : List (Nat × Nat)), JoinOk l r t → 7 * tops r + t.length ≤ f → 7 * tops r + t.length ≤ g → joinL l f r t = joinL l g r t := by
  intro f
  induction f with
  | zero =>
    intro g r t h hf hg
    have : t = [] := List.eq_nil_of_length_eq_zero (by omega)
    subst this
    cases g <;> rfl
  | succ f ih =>
    intro g r t h hf hg
    cases t with
    | nil => cases g <;> rfl
    | cons pq t =>
      obtain ⟨p, q⟩ := pq
      rw [List.length_cons] at hf hg
      cases g with
      | zero => omega
      | succ g =>
        unfold joinL
        cases hs : joinStep l r p q with
        | none => rfl
        | some o =>
          obtain ⟨r', u⟩ := o
          obtain ⟨k1, k2⟩ := join_step hG h hs
          exact ih g r' (u ++ t) k1 (by rw [List.length_append]; omega) (by rw [List.length_append]; omega)
theorem Roots.congr {n : Nat} {U : List Int} {r r' d : Nat → Nat} (h : Roots n U r d) (e : ∀ k, k < n → r' k = r k) : Roots n U r' d := by
  refine ⟨h.len, fun x hx => ?_, fun x hx => by rw [e x hx]; exact h.lt x hx, fun x hx => by rw [e x hx]; exact h.top x hx⟩
  obtain ⟨y, h1, h2, h3, h4, h5⟩ := h.up x hx
  exact ⟨y, h1, h2, by rw [e x hx, e y h2]; exact h3, h4, fun q => by rw [e x hx]; exact h5 q⟩
/-- the forest and the row of classes, when one class goes to another -/
theorem Roots.uni {l : List Cel} {U : List Int} {r : List Nat} {d : Nat → Nat} {t : List (Nat × Nat)} (h : Roots l.length U (fun k => r.getD k 0) d) (hj : JoinOk l r t) {x y : Nat} (hx : x < l.length) (hy : y < l.length) (hrx : r.getD x 0 = x) (hry : r.getD y 0 = y) (hne : x ≠ y) :
    ∃ d', Roots l.length (U.set x (y : Int)) (fun k => (uniR r x y).getD k 0) d' :=
  ⟨_, (h.union hx hy hrx hry hne).congr (fun k hk => uniR_get r x y (by rw [hj.len]; exact hk))⟩
/-- a scope whose labels no jump goes back to, at the wide fence -/
theorem wpIn_scope_wide {n : Nat} {P : Program} {c : Code} {Q : Exit → Act → World → Prop} {a : Act} {w : World} (h : c.wpIn Fence.wide n P (Exit.noGoto Q) a w) : (Code.scope c).wpIn Fence.wide n P Q a w :=
  wpIn_wide.2 (wp_scope_straight (wpIn_wide.1 h))
end Go.Proofs.YtmmnfkggfnokjaaGreat

namespace Go.Proofs.YtmmnfkggfnokjaaGreat
open Go.RowKit

/-! ### the forest as laid has it -/
theorem upAt_le {l : List Cel} {k : Nat} (hk : k < l.length) : upAt l k ≤ k ∧ upAt l (upAt l k) = upAt l k := by
  by_cases h : l[k].k = 1
  · cases hf : firstO (l.take k) l[k].n with
    | none =>
      have e : upAt l k = k := by rw [upAt_var hk h, hf]; rfl
      rw [e]; exact ⟨Nat.le_refl _, e⟩
    | some i =>
      have e : upAt l k = i := by rw [upAt_var hk h, hf]; rfl
      have hi := first_lt hf
      rw [List.length_take] at hi
      unfold firstO at hf
      obtain ⟨h1, h2, h3⟩ := List.findIdx?_eq_some_iff_getElem.1 hf
      have hil : i < l.length := by omega
      rw [List.getElem_take] at h2
      simp [isV] at h2
      rw [e]
      refine ⟨by omega, ?_⟩
      rw [upAt_var hil h2.1, h2.2]
      cases hg : firstO (l.take i) l[k].n with
      | none => rfl
      | some j =>
        exfalso
        have hj := first_lt hg
        rw [List.length_take] at hj
        unfold firstO at hg
        obtain ⟨g1, g2, _⟩ := List.findIdx?_eq_some_iff_getElem.1 hg
        have := h3 j (by omega)
        rw [List.getElem_take] at g2 this
        exact this g2
  · have e : upAt l k = k := by unfold upAt; rw [List.getElem?_eq_getElem hk]; simp [h]
    rw [e]; exact ⟨Nat.le_refl _, e⟩
def ups (l : List Cel) : List Nat := (List.range l.length).map (upAt l)
theorem ups_get {l : List Cel} {k : Nat} (hk : k < l.length) : (ups l).getD k 0 = upAt l k := by
  simp [ups, List.getD_eq_getElem?_getD, List.getElem?_map, List.getElem?_range hk]
theorem upL_get {l : List Cel} {k : Nat} (hk : k < l.length) : (upL l)[k]? = some (upAt l k : Int) := by
  simp [upL, List.getElem?_map, List.getElem?_range hk]
theorem laid_ok (l : List Cel) (t : List (Nat × Nat)) (ht : ∀ p ∈ t, p.1 < l.length ∧ p.2 < l.length) : JoinOk l (ups l) t := by
  refine ⟨by simp [ups], fun k hk => ?_, ht⟩
  obtain ⟨h1, h2⟩ := upAt_le hk
  rw [ups_get hk, ups_get (by omega), h2]
  exact ⟨by omega, rfl⟩
theorem laid_roots (l : List Cel) : Roots l.length (upL l) (fun k => (ups l).getD k 0) (fun k => if upAt l k = k then 0 else 1) := by
  refine ⟨upL_length l, fun x hx => ?_, fun x hx => ?_, fun x hx => ?_⟩
  · obtain ⟨h1, h2⟩ := upAt_le hx
    refine ⟨upAt l x, upL_get hx, by omega, ?_, fun hne => ?_, fun e => ?_⟩
    · rw [ups_get hx, ups_get (by omega), h2]
    · rw [if_pos h2, if_neg hne]; omega
    · rw [ups_get hx, e]
  · rw [ups_get hx]
    have := (upAt_le hx).1
    omega
  · obtain ⟨h1, h2⟩ := upAt_le hx
    rw [ups_get hx, upL_get (by omega), h2]
end Go.Proofs.YtmmnfkggfnokjaaGreat

namespace Go.Proofs.YtmmnfkggfnokjaaGreat
open Go.RowKit

/-! ### the row of pairs that are to do -/
def flatP (t : List (Nat × Nat)) : List Value := t.flatMap fun p => [.int .i64 p.1, .int .i64 p.2]
theorem flatP_len (t : List (Nat × Nat)) : (flatP t).length = t.length * 2 := by
  induction t with
  | nil => rfl
  | cons p t ih => unfold flatP at ih ⊢; rw [List.flatMap_cons, List.length_append, ih, List.length_cons]; simp; omega
theorem flatP_snoc (t : List (Nat × Nat)) (p : Nat × Nat) : flatP (t ++ [p]) = flatP t ++ [.int .i64 p.1, .int .i64 p.2] := by simp [flatP]
section
variable {W W' : World} {B g cap : Nat} {t : List (Nat × Nat)} {p : Nat × Nat}
end
end Go.Proofs.YtmmnfkggfnokjaaGreat

namespace Go.Proofs.YtmmnfkggfnokjaaGreat
open Go.RowKit

section
variable {w W W' : World} {u : Nat} {l : List Cel} {r r' : List Nat} {t : List (Nat × Nat)} {U U' : List Int} {d d' : Nat → Nat} {g cap : Nat} {Ds : List Nat}
end
/-! ### the loop over the pairs of arguments -/
def ofPre {n : Nat} (pre : List (Place n × Place n)) : List (Nat × Nat) := pre.map fun e => (e.1.1, e.2.1)
/-- without more blocks, which are newer -/
theorem veil_more {us vs : List Nat} {w W : World} {u : Nat} (hf : Fr [u] w W) (hu : u ∈ us) (h : ∀ k ∈ vs, k ∈ us ∨ w.heap.size ≤ k) : Keeps (veil us w) (veil vs W) := by
  intro b o v hc
  obtain ⟨hb, hc'⟩ := veil_cell hc
  have hl := cell_lt hc'
  exact veil_of (fun e => (h b e).elim hb (fun q => by omega)) ((World.cell?_of_block (a := ⟨b, o, none⟩) (hf.block b hl (by simp; rintro rfl; exact hb hu))).trans hc')

/-- what joining tells -/
def JoinPost (w : World) (u : Nat) (l : List Cel) (o : Option (List Nat)) (e : Ending) (w' : World) : Prop := Fr [u] w w' ∧ match o with
  | none => e = .returned (.bool false)
  | some r' => e = .returned (.bool true) ∧ JoinOk l r' [] ∧ ∃ U' d', RowU w' u U' ∧ Roots l.length U' (fun k => r'.getD k 0) d'
theorem tops_le (r : List Nat) : tops r ≤ r.length := by
  unfold tops
  have h := List.length_filter_le (fun k => decide (r.getD k 0 = k)) (List.range r.length)
  rwa [List.length_range] at h

end Go.Proofs.YtmmnfkggfnokjaaGreat

namespace Go.Proofs.YtmmnfkggfnokjaaGreat
open Go.RowKit
attribute [local go_sem] Oper.semAt_some

end Go.Proofs.YtmmnfkggfnokjaaGreat
namespace Go.Proofs.YtmmnfkggfnokjaaGreat
open Go.RowKit

set_option maxHeartbeats 400000 in
theorem place2_any (a : Option Addr) (cap : Nat) (n : Int) (w : World) (xs : List Bnd) (hx : Row w a cap xs) :
    Calls Tryz.prog 70 #[.slice a xs.length cap, .int .i64 n] w fun e w' => e = .returned (.int .i64 (placeB xs n)) ∧ Below w.heap.size w w' := by
  have hm := hx.max
  have hm2 := hx.le
  go_enter Tryz.func70, Tryz.ntmps70
  go_wp2
  go_loopw [5] (fun i wr => ∃ k : Nat, k ≤ xs.length ∧ i = .int .i64 k ∧ Below w.heap.size w wr ∧ Hid ((xs.take k).all (fun b => !decide (b.v = n)) = true)) (fun i wr => xs.length - (intOf i).toNat)
  case atStart => exact ⟨0, Nat.zero_le _, rfl, Below.refl _ _, by simp [Hid]⟩
  case round =>
    obtain ⟨k, hk, rfl, hbl, HS⟩ := hrel
    by_cases hlt : k < xs.length
    · obtain ⟨b, off, rfl, hb, hat⟩ := hx.cases.resolve_left (fun e => by simp [e] at hlt)
      obtain ⟨a1, cap1, c0, c1, hr1, hv1, hv2⟩ := bnd_at hat hbl hlt
      by_cases he : xs[k].v = n
      · have HE : Hid ((k : Int) = (placeB xs n)) := (find_at HS.out hlt he).symm
        have ht : (xs[k].v == n) = true := by simp [he]
        clear he HS
        go_wp2
        go_ret
        exact ⟨ret_int HE.out, hbl⟩
      · have ht : (xs[k].v == n) = false := by simp [he]
        have HT := mkHid (scan_next HS.out hlt (by simp [he]))
        clear he HS
        go_wp2
        go_round
        case rel => exact ⟨k + 1, by omega, by go_num, hbl, HT⟩
        case measure => simp [intOf]; omega
    · have HE : Hid (-1 = (placeB xs n)) := (find_none HS.out (by omega)).symm
      clear HS
      go_wp2
      go_ret
      exact ⟨ret_int HE.out, hbl⟩

end Go.Proofs.YtmmnfkggfnokjaaGreat
namespace Go.Proofs.YtmmnfkggfnokjaaGreat
open Go.RowKit

theorem fit_int {n : Int} {s : ByteArray} {k : Int} (h0 : -9223372036854775808 ≤ k) (h1 : k ≤ 9223372036854775807) (h2 : -9223372036854775808 ≤ n) (h3 : n ≤ 9223372036854775807) (hs : s.size ≤ 9223372036854775807) : (⟨k, s, n⟩ : Cel).fit := ⟨h0, h1, h2, h3, hs⟩
theorem varC_fit {n : Int} (h2 : -9223372036854775808 ≤ n) (h3 : n ≤ 9223372036854775807) : (varC n).fit := ⟨by show _ ≤ (1 : Int); omega, by show (1 : Int) ≤ _; omega, h2, h3, by show 0 ≤ _; omega⟩

end Go.Proofs.YtmmnfkggfnokjaaGreat
namespace Go.Proofs.YtmmnfkggfnokjaaGreat
open Go.RowKit

end Go.Proofs.YtmmnfkggfnokjaaGreat
namespace Go.Proofs.YtmmnfkggfnokjaaGreat
open Go.RowKit

theorem bnd_ne {xs ys : List Bnd} {k : Nat} (hx : k < xs.length) (hy : k < ys.length) (h : ¬ xs[k] = ys[k]) : ¬ xs = ys := fun e => by subst e; exact h rfl
theorem Bnd.eq_iff (x y : Bnd) : x = y ↔ x.v = y.v ∧ x.t = y.t := by cases x; cases y; simp

end Go.Proofs.YtmmnfkggfnokjaaGreat
namespace Go.Proofs.YtmmnfkggfnokjaaGreat
open Go.RowKit

end Go.Proofs.YtmmnfkggfnokjaaGreat
namespace Go.Proofs.YtmmnfkggfnokjaaGreat
open Go.RowKit

def mayB (s : List Bnd) (t : List Cel) : Bool := decide (t.length ≤ 300) && fewB s && rightS s && rightB t

/-- of one term: no variable of it is bound -/
def freeB (s : List Bnd) (t : List Cel) : Bool := t.all fun c => !(c.k == 1 && (look s c.n).isSome)
theorem idem_eq (s : List Bnd) : idemB s = s.all fun b => freeB s b.t := rfl
theorem place_nonneg {s : List Bnd} {n : Int} : (0 ≤ placeB s n) ↔ (look s n).isSome = true := by
  rcases place_look s n with ⟨h1, h2, _⟩ | ⟨i, h, h1, _, h2⟩
  · rw [h1, h2]; simp
  · rw [h1, h2]; simp

end Go.Proofs.YtmmnfkggfnokjaaGreat
namespace Go.Proofs.YtmmnfkggfnokjaaGreat
open Go.RowKit

def putC (f : Int → Option (List Cel)) (c : Cel) : List Cel := if c.k = 1 then (f c.n).getD [c] else [c]
def putL (f : Int → Option (List Cel)) (t : List Cel) : List Cel := t.flatMap (putC f)
theorem putL_snoc (f : Int → Option (List Cel)) (t : List Cel) (k : Nat) (hk : k < t.length) : putL f (t.take (k + 1)) = putL f (t.take k) ++ putC f t[k] := by
  unfold putL; rw [List.take_succ_eq_append_getElem hk, List.flatMap_append]; simp
theorem putL_append (f : Int → Option (List Cel)) (t u : List Cel) : putL f (t ++ u) = putL f t ++ putL f u := by
  unfold putL; rw [List.flatMap_append]
theorem look_mem {s : List Bnd} {n : Int} {t : List Cel} (h : look s n = some t) : ∃ b ∈ s, b.v = n ∧ b.t = t := by
  unfold look at h
  cases hf : s.find? (fun b => decide (b.v = n)) with
  | none => rw [hf] at h; simp at h
  | some b =>
    rw [hf] at h
    simp at h
    exact ⟨b, List.mem_of_find?_eq_some hf, by simpa using List.find?_some hf, h⟩
theorem putC_le {s : List Bnd} (h : ∀ b ∈ s, b.t.length ≤ 1000) (c : Cel) : (putC (look s) c).length ≤ 1000 := by
  unfold putC
  split
  · cases hl : look s c.n with
    | none => simp
    | some t =>
      obtain ⟨b, hb, _, rfl⟩ := look_mem hl
      simpa using h b hb
  · simp
theorem putL_le {s : List Bnd} (h : ∀ b ∈ s, b.t.length ≤ 1000) (t : List Cel) : (putL (look s) t).length ≤ 1000 * t.length := by
  induction t with
  | nil => simp [putL]
  | cons c t ih =>
    have := putC_le h c
    unfold putL at ih ⊢
    simp only [List.flatMap_cons, List.length_append, List.length_cons]; omega

set_option maxHeartbeats 1600000 in
theorem refput_any (a : Option Addr) (cap : Nat) (a' : Option Addr) (cap' : Nat) (w : World) (xs : List Bnd) (ys : List Cel) (hx : Row w a cap xs) (hy : Row w a' cap' ys) (hT : ∀ b ∈ xs, b.t.length ≤ 1000) (hl : ys.length ≤ 10000) :
    Calls Tryz.prog 49 #[.slice a xs.length cap, .slice a' ys.length cap'] w fun e w' => ∃ a2 cap2, e = .returned (.slice a2 (putL (look xs) ys).length cap2) ∧ NewRow w.heap.size w' a2 cap2 (putL (look xs) ys) ∧ Below w.heap.size w w' := by
  have hm := hy.max
  have hm2 := hy.le
  have hm0 := World.ownsRow_made (base := w.heap.size) (e := 42) (size := 3) w #[] 0 (Nat.le_refl _) (by unfold maxLen; omega) rfl
  have hb0 := (Below.refl w.heap.size w).new (.cells #[] 42)
  have HT := mkHid hT
  clear hT
  go_enter Tryz.func49, Tryz.ntmps49
  go_wp2_with fail
  go_loopw [5, 6, 7] (fun v i at_ wr => ∃ k : Nat, k ≤ ys.length ∧ i = .int .i64 k ∧ wr.ownsRow w.heap.size 42 3 v (putL (look xs) (ys.take k)).length (flat (putL (look xs) (ys.take k))) ∧ (∀ c ∈ putL (look xs) (ys.take k), c.fit) ∧ Below w.heap.size w wr) (fun v i at_ wr => ys.length - (intOf i).toNat)
  case atStart => exact ⟨0, Nat.zero_le _, rfl, by simpa [putL, flat] using hm0, by simp [putL], hb0⟩
  case round =>
    obtain ⟨k, hk, rfl, hown, hfit, hbl⟩ := hrel
    have HF := mkHid hfit
    clear hfit
    by_cases hlt : k < ys.length
    · obtain ⟨b, off, rfl, hb, hat⟩ := hy.cases.resolve_left (fun e => by simp [e] at hlt)
      obtain ⟨c0, c1, c2, hf⟩ := cel_at hat hbl hlt
      have HS := mkHid (putL_snoc (look xs) ys k hlt)
      have hle := putL_le HT.out (ys.take k)
      have hlk : (ys.take k).length ≤ k := List.length_take_le _ _
      by_cases h1 : ys[k].k = 1
      · have t1 : (ys[k].k == 1) = true := by simp [h1]
        rcases place_look xs ys[k].n with ⟨hp, hlk2, _⟩ | ⟨i, hi, hp, _, hlk2⟩
        · have HP := mkHid hp
          have HC : Hid (putC (look xs) ys[k] = [ys[k]]) := by rw [Hid]; unfold putC; rw [if_pos h1, hlk2]; rfl
          clear h1 hp hlk2
          go_wp2_with (first
            | (go_at_call 70; refine (place2_any _ cap _ _ xs (hx.below hbl)).mono ?_; rintro e w2 ⟨rfl, hb2⟩; rw [HP.out]; have d0 := keep c0 hb2; have d1 := keep c1 hb2; have d2 := keep c2 hb2; have hown1 := own_below hown hb2; have hbl1 := hbl.then hb2; clear c0 c1 c2)
            | (at_builtin; refine wpList_app rfl _ _ 23 rfl w.heap.size 42 3 32 _ Tryz.underlying23 Tryz.infoCell rfl (by decide) (by decide) _ (putL (look xs) (ys.take k)).length _ rfl (hown1.alloc _) (some ⟨_, 0, none⟩) 1 1 [.int .i64 ys[k].k, .string ys[k].s, .int .i64 ys[k].n] rfl (src_new _ #[.int .i64 ys[k].k, .string ys[k].s, .int .i64 ys[k].n] _ 3 rfl (by simp [Value.oneCell'])) (by omega) (Nat.le_trans hbl1.size (by simp)) ?_; intro v' w3 hown3 _ hb3))
          go_round
          case rel => exact ⟨k + 1, by omega, by go_num, by rw [HS.out, HC.out, flat_append, List.length_append]; exact hown3, by rw [HS.out, HC.out]; intro c hc; rcases List.mem_append.1 hc with hc | hc; exact HF.out c hc; (simp at hc; subst hc; exact hf), (hbl1.new _).trans hb3⟩
          case measure => simp [intOf]; omega
        · have HP := mkHid hp
          have HC : Hid (putC (look xs) ys[k] = xs[i].t) := by rw [Hid]; unfold putC; rw [if_pos h1, hlk2]; rfl
          obtain ⟨b', off', rfl, hb', hat'⟩ := hx.cases.resolve_left (fun e => by simp [e] at hi)
          have hTi := HT.out xs[i] (List.getElem_mem hi)
          clear h1 hp hlk2
          go_wp2_with (first
            | (go_at_call 70; refine (place2_any _ cap _ _ xs (hx.below hbl)).mono ?_; rintro e w2 ⟨rfl, hb2⟩; rw [HP.out]; obtain ⟨a1, cap1, d0, d1, hr1, _, _⟩ := bnd_at hat' (hbl.then hb2) hi; have hown1 := own_below hown hb2; have hbl1 := hbl.then hb2; clear c0 c1 c2)
            | (at_builtin; refine wpList_app rfl _ _ 23 rfl w.heap.size 42 3 32 _ Tryz.underlying23 Tryz.infoCell rfl (by decide) (by decide) _ (putL (look xs) (ys.take k)).length _ rfl hown1 a1 xs[i].t.length cap1 (flat xs[i].t) rfl hr1.src (by omega) hbl1.size ?_; intro v' w3 hown3 _ hb3))
          go_round
          case rel => exact ⟨k + 1, by omega, by go_num, by rw [HS.out, HC.out, flat_append, List.length_append]; exact hown3, by rw [HS.out, HC.out]; intro c hc; rcases List.mem_append.1 hc with hc | hc; exact HF.out c hc; exact hr1.fit c hc, hbl1.trans hb3⟩
          case measure => simp [intOf]; omega
      · have t1 : (ys[k].k == 1) = false := by simp [h1]
        have HC : Hid (putC (look xs) ys[k] = [ys[k]]) := by rw [Hid]; unfold putC; rw [if_neg h1]
        clear h1
        go_wp2_with (at_builtin; refine wpList_app rfl _ _ 23 rfl w.heap.size 42 3 32 _ Tryz.underlying23 Tryz.infoCell rfl (by decide) (by decide) _ (putL (look xs) (ys.take k)).length _ rfl (hown.alloc _) (some ⟨_, 0, none⟩) 1 1 [.int .i64 ys[k].k, .string ys[k].s, .int .i64 ys[k].n] rfl (src_new _ #[.int .i64 ys[k].k, .string ys[k].s, .int .i64 ys[k].n] _ 3 rfl (by simp [Value.oneCell'])) (by omega) (Nat.le_trans hbl.size (by simp)) ?_; intro v' w3 hown3 _ hb3)
        go_round
        case rel => exact ⟨k + 1, by omega, by go_num, by rw [HS.out, HC.out, flat_append, List.length_append]; exact hown3, by rw [HS.out, HC.out]; intro c hc; rcases List.mem_append.1 hc with hc | hc; exact HF.out c hc; (simp at hc; subst hc; exact hf), (hbl.new _).trans hb3⟩
        case measure => simp [intOf]; omega
    · have HL : Hid (ys.take k = ys) := List.take_of_length_le (by omega)
      obtain ⟨a2, cap2, rfl, hrow⟩ := own_new hown HF.out
      rw [HL.out] at hrow ⊢
      clear hown HF
      go_wp2
      go_ret
      exact ⟨a2, cap2, rfl, hrow, hbl⟩
end Go.Proofs.YtmmnfkggfnokjaaGreat
namespace Go.Proofs.YtmmnfkggfnokjaaGreat
open Go.RowKit

/-! ### the variables of what is put in -/
theorem varsGo_src (xs : List Cel) : ∀ (acc : List Int) (n : Int), n ∈ varsGo acc xs → n ∈ acc ∨ ∃ c ∈ xs, c.k = 1 ∧ c.n = n := by
  induction xs with
  | nil => intro acc n h; exact .inl h
  | cons c l ih =>
    intro acc n h
    rcases ih _ n h with h | ⟨d, hd, h1, h2⟩
    · split at h
      · rename_i hc
        rcases List.mem_append.1 h with h | h
        · exact .inl h
        · simp at h; exact .inr ⟨c, by simp, hc.1, h.symm⟩
      · exact .inl h
    · exact .inr ⟨d, by simp [hd], h1, h2⟩
theorem varsL_iff {xs : List Cel} {n : Int} : n ∈ varsL xs ↔ ∃ c ∈ xs, c.k = 1 ∧ c.n = n :=
  ⟨fun h => (varsGo_src xs [] n h).resolve_left (by simp), fun ⟨_, hc, h1, h2⟩ => h2 ▸ mem_varsL hc h1⟩
theorem varsL_le (xs : List Cel) : (varsL xs).length ≤ xs.length := by
  have := varsGo_length xs []
  simpa [varsL] using this
end Go.Proofs.YtmmnfkggfnokjaaGreat

namespace Go.Proofs.YtmmnfkggfnokjaaGreat

/-! ### what joining keeps: plain words alone -/
theorem good_ok {l : List Cel} (hG : Good l) {i : Nat} (hi : i < l.length) : cellOk l[i] = true := (good_cell hG hi).1
theorem yields_var {c d : Cel} (h : yieldsB c d = true) : c.k = 1 := by
  unfold yieldsB at h; simp at h; exact h.1
theorem var_eq {c d : Cel} (hc : cellOk c = true) (hd : cellOk d = true) (h1 : c.k = 1) (h2 : d.k = 1) (h3 : c.n = d.n) : c = d := by
  have e1 : c.s.toList = [] := by unfold cellOk at hc; simp [h1] at hc; exact hc.1.1
  have e2 : d.s.toList = [] := by unfold cellOk at hd; simp [h2] at hd; exact hd.1.1
  rw [ByteArray.toList_eq] at e1 e2
  cases c with
  | mk k s n =>
    cases d with
    | mk k' s' n' =>
      cases s; cases s'
      simp at e1 e2 h1 h2 h3
      simp [e1, e2, h1, h2, h3]
/-- neither yields and they are not the same: neither is a variable -/
theorem yields_none {c d : Cel} (hc : cellOk c = true) (hd : cellOk d = true) (h1 : yieldsB c d = false) (h2 : yieldsB d c = false) (hne : c ≠ d) : c.k ≠ 1 ∧ d.k ≠ 1 := by
  unfold yieldsB at h1 h2
  by_cases e1 : c.k = 1
  · by_cases e2 : d.k = 1
    · simp [e1, e2] at h1 h2
      exact absurd (var_eq hc hd e1 e2 (by omega)) hne
    · simp [e1, e2] at h1
  · by_cases e2 : d.k = 1
    · simp [e1, e2] at h2
    · exact ⟨e1, e2⟩
theorem mem_zip_of {α : Type} (V : Nat → α) : ∀ (xs ys : List Nat), xs.map V = ys.map V → ∀ p ∈ xs.zip ys, V p.1 = V p.2
  | [], _, _, p, hp => by simp at hp
  | _ :: _, [], h, _, _ => by simp at h
  | x :: xs, y :: ys, h, p, hp => by
    simp only [List.map_cons, List.cons.injEq] at h
    rw [List.zip_cons_cons] at hp
    rcases List.mem_cons.1 hp with rfl | hp
    · exact h.1
    · exact mem_zip_of V xs ys h.2 p hp
theorem zip_map_of {α : Type} (V : Nat → α) : ∀ (xs ys : List Nat), xs.length = ys.length → (∀ p ∈ xs.zip ys, V p.1 = V p.2) → xs.map V = ys.map V
  | [], [], _, _ => rfl
  | [], _ :: _, h, _ => by simp at h
  | _ :: _, [], h, _ => by simp at h
  | x :: xs, y :: ys, h, hp => by
    simp only [List.map_cons, List.cons.injEq]
    refine ⟨hp (x, y) (by simp), zip_map_of V xs ys (by simpa using h) fun p h' => hp p ?_⟩
    rw [List.zip_cons_cons]; exact List.mem_cons_of_mem _ h'
theorem args_length (l : List Cel) {x : Nat} (hx : x < l.length) : (argsL l x).length = ar l[x] := by
  unfold argsL; rw [List.getElem?_eq_getElem hx]; simp

/-! ### most general: whatever values fit the terms, and make the pairs alike, the classes keep them -/
structure ValOk {α : Type} (l : List Cel) (V : Nat → α) : Prop where
  cong : ∀ x y (hx : x < l.length) (hy : y < l.length), V x = V y → l[x].k ≠ 1 → l[y].k ≠ 1 → l[x] = l[y] ∧ (argsL l x).map V = (argsL l y).map V
theorem uni_val {α : Type} {l : List Cel} {V : Nat → α} {r : List Nat} (hr : ∀ z, z < l.length → V (r.getD z 0) = V z) (hl : r.length = l.length) {x y : Nat} (hxy : V x = V y) :
    ∀ z, z < l.length → V ((uniR r x y).getD z 0) = V z := by
  intro z hz
  rw [uniR_get r x y (by rw [hl]; exact hz)]
  split
  · next e => rw [← hxy, ← e]; exact hr z hz
  · exact hr z hz
theorem step_val {α : Type} {l : List Cel} (hG : Good l) {V : Nat → α} (hV : ValOk l V) {r : List Nat} {p q : Nat} {t : List (Nat × Nat)} (h : JoinOk l r ((p, q) :: t))
    (hr : ∀ z, z < l.length → V (r.getD z 0) = V z) (hpq : V p = V q) :
    ∃ r' u, joinStep l r p q = some (r', u) ∧ (∀ z, z < l.length → V (r'.getD z 0) = V z) ∧ ∀ ab ∈ u, V ab.1 = V ab.2 := by
  obtain ⟨hp, hq⟩ := h.todo (p, q) List.mem_cons_self
  obtain ⟨x1, x2⟩ := h.top p hp
  obtain ⟨y1, y2⟩ := h.top q hq
  have hxy : V (r.getD p 0) = V (r.getD q 0) := by rw [hr p hp, hr q hq]; exact hpq
  unfold joinStep
  simp only [List.getElem?_eq_getElem x1, List.getElem?_eq_getElem y1]
  split
  · exact ⟨r, [], rfl, hr, fun _ h => by cases h⟩
  · split
    · exact ⟨_, [], rfl, uni_val hr h.len hxy, fun _ h => by cases h⟩
    · next n1 =>
      split
      · exact ⟨_, [], rfl, uni_val hr h.len hxy.symm, fun _ h => by cases h⟩
      · next n2 =>
        split
        · next e =>
          refine ⟨_, _, rfl, uni_val hr h.len hxy, fun ab hab => ?_⟩
          have hab := List.mem_reverse.1 hab
          by_cases hk : l[r.getD p 0].k = 1
          · have h0 : argsL l (r.getD p 0) = [] := by
              apply List.eq_nil_of_length_eq_zero
              rw [args_length l x1]; unfold ar; rw [if_neg (by omega)]
            rw [h0] at hab; simp at hab
          · exact mem_zip_of V _ _ (hV.cong _ _ x1 y1 hxy hk (by rw [← e]; exact hk)).2 ab hab
        · next e =>
          exfalso
          obtain ⟨k1, k2⟩ := yields_none (good_ok hG x1) (good_ok hG y1) (by simpa using n1) (by simpa using n2) e
          exact e (hV.cong _ _ x1 y1 hxy k1 k2).1
/-- values that fit and that make all pairs alike: joining ends well, and the classes keep them -/
theorem join_val {α : Type} {l : List Cel} (hG : Good l) {V : Nat → α} (hV : ValOk l V) : ∀ (f : Nat) (r : List Nat) (t : List (Nat × Nat)), JoinOk l r t → 7 * tops r + t.length ≤ f →
    (∀ z, z < l.length → V (r.getD z 0) = V z) → (∀ ab ∈ t, V ab.1 = V ab.2) →
    ∃ r', joinL l f r t = some r' ∧ (∀ z, z < l.length → V (r'.getD z 0) = V z) := by
  intro f
  induction f with
  | zero =>
    intro r t h hf hr ht
    obtain rfl : t = [] := List.eq_nil_of_length_eq_zero (by omega)
    exact ⟨r, by simp [joinL], hr⟩
  | succ f ih =>
    intro r t h hf hr ht
    cases t with
    | nil => exact ⟨r, by simp [joinL], hr⟩
    | cons pq t =>
      obtain ⟨p, q⟩ := pq
      obtain ⟨r1, u, e, k1, k2⟩ := step_val hG hV h hr (ht (p, q) List.mem_cons_self)
      obtain ⟨j1, j2⟩ := join_step hG h e
      rw [List.length_cons] at hf
      obtain ⟨r', e', k'⟩ := ih r1 (u ++ t) j1 (by rw [List.length_append]; omega) k1 (fun ab hab => by
        rcases List.mem_append.1 hab with h' | h'
        · exact k2 ab h'
        · exact ht ab (List.mem_cons_of_mem _ h'))
      exact ⟨r', by unfold joinL; rw [e]; exact e', k'⟩

/-! ### alike: the classes that joining ends with -/
/-- a class that a variable stands for holds variables alone -/
def VarIn (l : List Cel) (r : List Nat) : Prop := ∀ z (hz : z < l.length) (h : r.getD z 0 < l.length), l[r.getD z 0].k = 1 → l[z].k = 1
/-- what is in one class of r and no variable is the same, and its parts are, by r' -/
def ClosedBy (l : List Cel) (r r' : List Nat) : Prop := ∀ x y (hx : x < l.length) (hy : y < l.length), r.getD x 0 = r.getD y 0 → l[x].k ≠ 1 → l[y].k ≠ 1 →
  l[x] = l[y] ∧ (argsL l x).map (fun z => r'.getD z 0) = (argsL l y).map (fun z => r'.getD z 0)
theorem VarIn.uni {l : List Cel} {r : List Nat} {t : List (Nat × Nat)} (h : VarIn l r) (hj : JoinOk l r t) {x y : Nat} (hx : x < l.length) (hv : ∀ (hy : y < l.length), l[y].k = 1 → l[x].k = 1) : VarIn l (uniR r x y) := by
  intro z hz hlt hk
  have hzl : z < r.length := by rw [hj.len]; exact hz
  have e := uniR_get r x y hzl
  by_cases hzx : r.getD z 0 = x
  · rw [if_pos hzx] at e
    have hy : y < l.length := by rw [← e]; exact hlt
    have : l[y].k = 1 := by simpa only [e] using hk
    have hxk := hv hy this
    exact h z hz (by rw [hzx]; exact hx) (by simpa only [hzx] using hxk)
  · rw [if_neg hzx] at e
    exact h z hz (by rw [← e]; exact hlt) (by simpa only [e] using hk)
theorem uni_same {l : List Cel} {r : List Nat} {t : List (Nat × Nat)} (hj : JoinOk l r t) {x y a b : Nat} (ha : a < l.length) (hb : b < l.length) (h : (uniR r x y).getD a 0 = (uniR r x y).getD b 0) :
    r.getD a 0 = r.getD b 0 ∨ (r.getD a 0 = x ∧ r.getD b 0 = y) ∨ (r.getD a 0 = y ∧ r.getD b 0 = x) := by
  rw [uniR_get r x y (by rw [hj.len]; exact ha), uniR_get r x y (by rw [hj.len]; exact hb)] at h
  split at h <;> split at h <;> omega
theorem uni_mono {l : List Cel} {r : List Nat} {t : List (Nat × Nat)} (hj : JoinOk l r t) (x y : Nat) {a b : Nat} (ha : a < l.length) (hb : b < l.length) (h : r.getD a 0 = r.getD b 0) : (uniR r x y).getD a 0 = (uniR r x y).getD b 0 := by
  rw [uniR_get r x y (by rw [hj.len]; exact ha), uniR_get r x y (by rw [hj.len]; exact hb), h]
/-- the class of a variable goes to another one: nothing else is asked -/
theorem ClosedBy.var {l : List Cel} {r r' : List Nat} {t : List (Nat × Nat)} (h : ClosedBy l r r') (hv : VarIn l r) (hj : JoinOk l r t) {x y : Nat} (hx : x < l.length) (hk : l[x].k = 1) : ClosedBy l (uniR r x y) r' := by
  intro a b ha hb e k1 k2
  rcases uni_same hj ha hb e with e | ⟨e1, _⟩ | ⟨_, e2⟩
  · exact h a b ha hb e k1 k2
  · exact absurd (hv a ha (by rw [e1]; exact hx) (by simpa only [e1] using hk)) k1
  · exact absurd (hv b hb (by rw [e2]; exact hx) (by simpa only [e2] using hk)) k2
/-- two classes of the same cell become one: their parts are to be joined -/
theorem ClosedBy.same {l : List Cel} {r r' : List Nat} {t : List (Nat × Nat)} (h : ClosedBy l r r') (hv : VarIn l r) (hj : JoinOk l r t) {x y : Nat} (hx : x < l.length) (hy : y < l.length) (hrx : r.getD x 0 = x) (hry : r.getD y 0 = y)
    (he : l[x] = l[y]) (hp : ∀ p ∈ (argsL l x).zip (argsL l y), r'.getD p.1 0 = r'.getD p.2 0) : ClosedBy l (uniR r x y) r' := by
  have hargs : (argsL l x).map (fun z => r'.getD z 0) = (argsL l y).map (fun z => r'.getD z 0) :=
    zip_map_of (fun z => r'.getD z 0) _ _ (by rw [args_length l hx, args_length l hy, he]) hp
  have key : ∀ a b (ha : a < l.length) (hb : b < l.length), r.getD a 0 = x → r.getD b 0 = y → l[a].k ≠ 1 → l[b].k ≠ 1 →
      l[a] = l[b] ∧ (argsL l a).map (fun z => r'.getD z 0) = (argsL l b).map (fun z => r'.getD z 0) := by
    intro a b ha hb e1 e2 k1 k2
    have kx : l[x].k ≠ 1 := fun e => k1 (hv a ha (by rw [e1]; exact hx) (by simpa only [e1] using e))
    have ky : l[y].k ≠ 1 := by rw [← he]; exact kx
    obtain ⟨a1, a2⟩ := h a x ha hx (by rw [e1, hrx]) k1 kx
    obtain ⟨b1, b2⟩ := h b y hb hy (by rw [e2, hry]) k2 ky
    exact ⟨by rw [a1, b1, he], by rw [a2, b2, hargs]⟩
  intro a b ha hb e k1 k2
  rcases uni_same hj ha hb e with e | ⟨e1, e2⟩ | ⟨e1, e2⟩
  · exact h a b ha hb e k1 k2
  · exact key a b ha hb e1 e2 k1 k2
  · obtain ⟨c1, c2⟩ := key b a hb ha e2 e1 k2 k1
    exact ⟨c1.symm, c2.symm⟩
/-- what joining ends with -/
structure Joined (l : List Cel) (r r' : List Nat) (t : List (Nat × Nat)) : Prop where
  ok : JoinOk l r' []
  var : VarIn l r'
  closed : ClosedBy l r' r'
  mono : ∀ a b, a < l.length → b < l.length → r.getD a 0 = r.getD b 0 → r'.getD a 0 = r'.getD b 0
  done : ∀ p ∈ t, r'.getD p.1 0 = r'.getD p.2 0
/-- joining's own words, without the parts: the classes grow, and what is to do is done -/
theorem join_grows {l : List Cel} (hG : Good l) : ∀ (f : Nat) (r : List Nat) (t : List (Nat × Nat)) (r' : List Nat), JoinOk l r t → joinL l f r t = some r' →
    (∀ a b, a < l.length → b < l.length → r.getD a 0 = r.getD b 0 → r'.getD a 0 = r'.getD b 0) ∧ ∀ p ∈ t, r'.getD p.1 0 = r'.getD p.2 0 := by
  intro f
  induction f with
  | zero =>
    intro r t r' h e
    cases t with
    | nil => simp only [joinL, Option.some.injEq] at e; subst e; exact ⟨fun _ _ _ _ e => e, fun _ h => by cases h⟩
    | cons pq t => simp [joinL] at e
  | succ f ih =>
    intro r t r' h e
    cases t with
    | nil => simp only [joinL, Option.some.injEq] at e; subst e; exact ⟨fun _ _ _ _ e => e, fun _ h => by cases h⟩
    | cons pq t =>
      obtain ⟨p, q⟩ := pq
      unfold joinL at e
      cases hs : joinStep l r p q with
      | none => rw [hs] at e; cases e
      | some o =>
        obtain ⟨r1, u⟩ := o
        rw [hs] at e
        obtain ⟨j1, _⟩ := join_step hG h hs
        obtain ⟨m1, d1⟩ := ih r1 (u ++ t) r' j1 e
        obtain ⟨hp, hq⟩ := h.todo (p, q) List.mem_cons_self
        obtain ⟨x1, x2⟩ := h.top p hp
        obtain ⟨y1, y2⟩ := h.top q hq
        have step : (∀ a b, a < l.length → b < l.length → r.getD a 0 = r.getD b 0 → r1.getD a 0 = r1.getD b 0) ∧ r1.getD p 0 = r1.getD q 0 := by
          unfold joinStep at hs
          simp only [List.getElem?_eq_getElem x1, List.getElem?_eq_getElem y1] at hs
          have one : ∀ x y : Nat, ((r.getD p 0 = x ∧ r.getD q 0 = y) ∨ (r.getD p 0 = y ∧ r.getD q 0 = x)) → (uniR r x y).getD p 0 = (uniR r x y).getD q 0 := by
            intro x y h'
            rw [uniR_get r x y (by rw [h.len]; exact hp), uniR_get r x y (by rw [h.len]; exact hq)]
            split <;> split <;> omega
          split at hs
          · next e' => cases hs; exact ⟨fun _ _ _ _ e => e, e'⟩
          · split at hs
            · cases hs; exact ⟨fun _ _ ha hb e => uni_mono h _ _ ha hb e, one _ _ (.inl ⟨rfl, rfl⟩)⟩
            · split at hs
              · cases hs; exact ⟨fun _ _ ha hb e => uni_mono h _ _ ha hb e, one _ _ (.inr ⟨rfl, rfl⟩)⟩
              · split at hs
                · cases hs; exact ⟨fun _ _ ha hb e => uni_mono h _ _ ha hb e, one _ _ (.inl ⟨rfl, rfl⟩)⟩
                · cases hs
        refine ⟨fun a b ha hb e => m1 a b ha hb (step.1 a b ha hb e), fun pq hpq => ?_⟩
        rcases List.mem_cons.1 hpq with rfl | hpq
        · exact m1 p q hp hq step.2
        · exact d1 pq (List.mem_append.2 (.inr hpq))
theorem join_closed {l : List Cel} (hG : Good l) : ∀ (f : Nat) (r : List Nat) (t : List (Nat × Nat)) (r' : List Nat), JoinOk l r t → VarIn l r → ClosedBy l r r' → joinL l f r t = some r' → JoinOk l r' [] ∧ VarIn l r' ∧ ClosedBy l r' r' := by
  intro f
  induction f with
  | zero =>
    intro r t r' h hv hc e
    cases t with
    | nil => simp only [joinL, Option.some.injEq] at e; subst e; exact ⟨h, hv, hc⟩
    | cons pq t => simp [joinL] at e
  | succ f ih =>
    intro r t r' h hv hc e
    cases t with
    | nil => simp only [joinL, Option.some.injEq] at e; subst e; exact ⟨h, hv, hc⟩
    | cons pq t =>
      obtain ⟨p, q⟩ := pq
      unfold joinL at e
      cases hs : joinStep l r p q with
      | none => rw [hs] at e; cases e
      | some o =>
        obtain ⟨r1, u⟩ := o
        rw [hs] at e
        obtain ⟨j1, _⟩ := join_step hG h hs
        obtain ⟨_, d1⟩ := join_grows hG f r1 (u ++ t) r' j1 e
        obtain ⟨hp, hq⟩ := h.todo (p, q) List.mem_cons_self
        obtain ⟨x1, x2⟩ := h.top p hp
        obtain ⟨y1, y2⟩ := h.top q hq
        have step : VarIn l r1 ∧ ClosedBy l r1 r' := by
          unfold joinStep at hs
          simp only [List.getElem?_eq_getElem x1, List.getElem?_eq_getElem y1] at hs
          split at hs
          · cases hs; exact ⟨hv, hc⟩
          · split at hs
            · next hy =>
              cases hs
              have hk := yields_var hy
              exact ⟨hv.uni h x1 (fun _ _ => hk), hc.var hv h x1 hk⟩
            · split at hs
              · next hy =>
                cases hs
                have hk := yields_var hy
                exact ⟨hv.uni h y1 (fun _ _ => hk), hc.var hv h y1 hk⟩
              · split at hs
                · next he =>
                  cases hs
                  exact ⟨hv.uni h x1 (fun _ hk => by rw [he]; exact hk), hc.same hv h x1 y1 x2 y2 he fun pq hpq => d1 pq (List.mem_append.2 (.inl (List.mem_reverse.2 hpq)))⟩
                · cases hs
        exact ih r1 (u ++ t) r' j1 step.1 step.2 e
theorem joined {l : List Cel} (hG : Good l) {f : Nat} {r r' : List Nat} {t : List (Nat × Nat)} (h : JoinOk l r t) (hv : VarIn l r) (hc : ∀ r', (∀ a b, a < l.length → b < l.length → r.getD a 0 = r.getD b 0 → r'.getD a 0 = r'.getD b 0) → ClosedBy l r r') (e : joinL l f r t = some r') : Joined l r r' t := by
  obtain ⟨m, d⟩ := join_grows hG f r t r' h e
  obtain ⟨a, b, c⟩ := join_closed hG f r t r' h hv (hc r' m) e
  exact ⟨a, b, c, m, d⟩
/-! ### the least variable stands for a class -/
def VarMin (l : List Cel) (r : List Nat) : Prop := ∀ z (hz : z < l.length) (h : r.getD z 0 < l.length), l[r.getD z 0].k = 1 → l[r.getD z 0].n ≤ l[z].n
theorem VarMin.uni {l : List Cel} {r : List Nat} {t : List (Nat × Nat)} (h : VarMin l r) (hj : JoinOk l r t) {x y : Nat} (hx : x < l.length) (hv : ∀ (hy : y < l.length), l[y].k = 1 → l[x].k = 1 ∧ l[y].n ≤ l[x].n) : VarMin l (uniR r x y) := by
  intro z hz hlt hk
  have e := uniR_get r x y (k := z) (by rw [hj.len]; exact hz)
  by_cases hzx : r.getD z 0 = x
  · rw [if_pos hzx] at e
    have hy : y < l.length := by rw [← e]; exact hlt
    have hky : l[y].k = 1 := by simpa only [e] using hk
    obtain ⟨k1, k2⟩ := hv hy hky
    have h1 := h z hz (by rw [hzx]; exact hx) (by simpa only [hzx] using k1)
    simp only [hzx] at h1
    simp only [e]
    omega
  · rw [if_neg hzx] at e
    have := h z hz (by rw [← e]; exact hlt) (by simpa only [e] using hk)
    simpa only [e] using this
theorem yields_least {c d : Cel} (h : yieldsB c d = true) (hd : d.k = 1) : d.n ≤ c.n := by
  unfold yieldsB at h; simp [hd] at h; omega
theorem join_least {l : List Cel} (hG : Good l) : ∀ (f : Nat) (r : List Nat) (t : List (Nat × Nat)) (r' : List Nat), JoinOk l r t → VarMin l r → joinL l f r t = some r' → VarMin l r' := by
  intro f
  induction f with
  | zero =>
    intro r t r' h hv e
    cases t with
    | nil => simp only [joinL, Option.some.injEq] at e; subst e; exact hv
    | cons pq t => simp [joinL] at e
  | succ f ih =>
    intro r t r' h hv e
    cases t with
    | nil => simp only [joinL, Option.some.injEq] at e; subst e; exact hv
    | cons pq t =>
      obtain ⟨p, q⟩ := pq
      unfold joinL at e
      cases hs : joinStep l r p q with
      | none => rw [hs] at e; cases e
      | some o =>
        obtain ⟨r1, u⟩ := o
        rw [hs] at e
        obtain ⟨j1, _⟩ := join_step hG h hs
        obtain ⟨hp, hq⟩ := h.todo (p, q) List.mem_cons_self
        obtain ⟨x1, x2⟩ := h.top p hp
        obtain ⟨y1, y2⟩ := h.top q hq
        refine ih r1 (u ++ t) r' j1 ?_ e
        unfold joinStep at hs
        simp only [List.getElem?_eq_getElem x1, List.getElem?_eq_getElem y1] at hs
        split at hs
        · cases hs; exact hv
        · split at hs
          · next hy => cases hs; exact hv.uni h x1 fun _ hk => ⟨yields_var hy, yields_least hy hk⟩
          · split at hs
            · next hy => cases hs; exact hv.uni h y1 fun _ hk => ⟨yields_var hy, yields_least hy hk⟩
            · split at hs
              · next he => cases hs; exact hv.uni h x1 fun _ hk => ⟨by rw [he]; exact hk, by rw [he]; exact Int.le_refl _⟩
              · cases hs
end Go.Proofs.YtmmnfkggfnokjaaGreat

namespace Go.Proofs.YtmmnfkggfnokjaaGreat

/-! ### measuring: what ends, and how long it is -/
/-- what a class is laid out to ends within so many steps -/
def EndsIn (l : List Cel) (r : List Nat) : Nat → Nat → Prop
  | 0, _ => False
  | h + 1, x => ∀ q ∈ argsL l x, EndsIn l r h (r.getD q 0)
theorem EndsIn.succ {l : List Cel} {r : List Nat} : ∀ {h x : Nat}, EndsIn l r h x → EndsIn l r (h + 1) x
  | 0, _, h => h.elim
  | _ + 1, _, h => fun q hq => EndsIn.succ (h q hq)
theorem EndsIn.mono {l : List Cel} {r : List Nat} {h k x : Nat} (e : EndsIn l r h x) (hk : h ≤ k) : EndsIn l r k x := by
  induction hk with
  | refl => exact e
  | step _ ih => exact ih.succ
theorem flat_congr {f g : Nat → List Cel} : ∀ {qs : List Nat}, (∀ q ∈ qs, f q = g q) → qs.flatMap f = qs.flatMap g
  | [], _ => rfl
  | q :: qs, h => by
    rw [List.flatMap_cons, List.flatMap_cons, h q List.mem_cons_self, flat_congr fun q' h' => h q' (List.mem_cons_of_mem _ h')]
theorem lay_class {l : List Cel} {r : List Nat} {p q : Nat} (e : r.getD p 0 = r.getD q 0) : ∀ f, layL l r f p = layL l r f q
  | 0 => rfl
  | f + 1 => by simp only [layL, e]
theorem lay_stable {l : List Cel} {r : List Nat} : ∀ (h p : Nat), EndsIn l r h (r.getD p 0) → ∀ f, h ≤ f → layL l r f p = layL l r h p := by
  intro h
  induction h with
  | zero => intro p e; exact e.elim
  | succ h ih =>
    intro p e f hf
    obtain ⟨f, rfl⟩ : ∃ g, f = g + 1 := ⟨f - 1, by omega⟩
    simp only [layL]
    cases l[r.getD p 0]? with
    | none => rfl
    | some c =>
      simp only [List.cons.injEq, true_and]
      exact flat_congr fun q hq => ih q (e q hq) f (by omega)
/-- the term of a place's class -/
def termL (l : List Cel) (r : List Nat) (p : Nat) : List Cel := layL l r (l.length + 1) p
theorem term_class {l : List Cel} {r : List Nat} {p q : Nat} (e : r.getD p 0 = r.getD q 0) : termL l r p = termL l r q := lay_class e _
theorem term_eq {l : List Cel} {r : List Nat} {h p : Nat} (e : EndsIn l r h (r.getD p 0)) (hh : h ≤ l.length) (hp : r.getD p 0 < l.length) :
    termL l r p = l[r.getD p 0] :: (argsL l (r.getD p 0)).flatMap (termL l r) := by
  have e1 := lay_stable h p e
  unfold termL
  conv => lhs; simp only [layL]
  rw [List.getElem?_eq_getElem hp]
  simp only [List.cons.injEq, true_and]
  refine flat_congr fun q hq => ?_
  cases h with
  | zero => exact e.elim
  | succ h =>
    have := lay_stable h q (e q hq)
    rw [this l.length (by omega), this (l.length + 1) (by omega)]
def doneN (s : List Int) : Nat := s.countP (fun v => decide (0 < v))
/-- what is measured -/
structure MOk (l : List Cel) (r : List Nat) (s : List Int) : Prop where
  len : s.length = l.length
  low : ∀ x, -1 ≤ s.getD x 0
  ends : ∀ x, x < l.length → 0 < s.getD x 0 → EndsIn l r (doneN s) x ∧ s.getD x 0 = min ((termL l r x).length : Int) 201
  parts : ∀ x, x < l.length → 0 < s.getD x 0 → ∀ q ∈ argsL l x, 0 < s.getD (r.getD q 0) 0
theorem getD_set {s : List Int} {x : Nat} (hx : x < s.length) (v : Int) (y : Nat) : (s.set x v).getD y 0 = if y = x then v else s.getD y 0 := by
  simp only [List.getD_eq_getElem?_getD, List.getElem?_set]
  by_cases e : x = y
  · subst e; simp [hx]
  · rw [if_neg e, if_neg (fun h => e h.symm)]
theorem done_set {s : List Int} {x : Nat} (hx : x < s.length) (h : s.getD x 0 ≤ 0) (v : Int) : doneN (s.set x v) = doneN s + if 0 < v then 1 else 0 := by
  have h' : s[x] ≤ 0 := by simpa [List.getD_eq_getElem?_getD, List.getElem?_eq_getElem hx] using h
  unfold doneN
  rw [List.countP_set hx]
  have : decide (0 < s[x]) = false := by simp; omega
  simp [this]
theorem MOk.begin {l : List Cel} {r : List Nat} {s : List Int} (hs : MOk l r s) {x : Nat} (hx : x < l.length) (h0 : s.getD x 0 = 0) : MOk l r (s.set x (-1)) := by
  have hxs : x < s.length := by rw [hs.len]; exact hx
  have hn : ∀ y, 0 < (s.set x (-1)).getD y 0 ↔ 0 < s.getD y 0 := by
    intro y
    rw [getD_set hxs]
    split
    · next e => rw [e, h0]; omega
    · exact Iff.rfl
  refine ⟨by rw [List.length_set]; exact hs.len, fun y => ?_, fun y hy hpos => ?_, fun y hy hpos q hq => ?_⟩
  · rw [getD_set hxs]; split
    · omega
    · exact hs.low y
  · have hpos' := (hn y).1 hpos
    have hne : y ≠ x := fun e => by rw [e, h0] at hpos'; omega
    rw [done_set hxs (by omega), getD_set hxs, if_neg hne]
    simpa using hs.ends y hy hpos'
  · exact (hn _).2 (hs.parts y hy ((hn y).1 hpos) q hq)
theorem done_le (s : List Int) : doneN s ≤ s.length := List.countP_le_length
theorem sum_nonneg (a : Nat → Int) (ha : ∀ q, 0 ≤ a q) : ∀ qs : List Nat, 0 ≤ (qs.map a).sum
  | [] => by simp
  | q :: qs => by have := ha q; have := sum_nonneg a ha qs; simp only [List.map_cons, List.sum_cons]; omega
theorem sum_min (a : Nat → Int) (ha : ∀ q, 0 ≤ a q) : ∀ (qs : List Nat) (k : Int), 0 ≤ k → min (k + (qs.map fun q => min (a q) 201).sum) 201 = min (k + (qs.map a).sum) 201
  | [], _, _ => by simp
  | q :: qs, k, hk => by
    have h1 := ha q
    have h2 := sum_nonneg a ha qs
    have h3 := sum_min a ha qs (k + min (a q) 201) (by omega)
    simp only [List.map_cons, List.sum_cons]
    rw [← Int.add_assoc, h3]
    omega
theorem length_flat (T : Nat → List Cel) : ∀ qs : List Nat, ((qs.flatMap T).length : Int) = (qs.map fun q => ((T q).length : Int)).sum
  | [] => by simp
  | q :: qs => by rw [List.flatMap_cons, List.length_append, List.map_cons, List.sum_cons, ← length_flat T qs]; omega
/-- what one measuring keeps -/
structure Msd (l : List Cel) (r : List Nat) (s s2 : List Int) : Prop where
  ok : MOk l r s2
  keep : ∀ x, s.getD x 0 ≠ 0 → s2.getD x 0 = s.getD x 0
  prog : ∀ x, s2.getD x 0 = -1 → s.getD x 0 = -1
theorem Msd.refl {l : List Cel} {r : List Nat} {s : List Int} (h : MOk l r s) : Msd l r s s := ⟨h, fun _ _ => rfl, fun _ e => e⟩
theorem Msd.trans {l : List Cel} {r : List Nat} {a b c : List Int} (h : Msd l r a b) (k : Msd l r b c) : Msd l r a c :=
  ⟨k.ok, fun x hx => by have := h.keep x hx; rw [k.keep x (by rw [this]; exact hx), this], fun x hx => h.prog x (k.prog x hx)⟩
abbrev foldM (l : List Cel) (r : List Nat) (f : Nat) (qs : List Nat) (o : Option (List Int × Int)) : Option (List Int × Int) :=
  qs.foldl (fun (o : Option (List Int × Int)) q => o.bind fun (s', n) => (measureL l r f s' q).map fun s2 => (s2, n + s2.getD (r.getD q 0) 0)) o
theorem foldM_none (l : List Cel) (r : List Nat) (f : Nat) : ∀ qs : List Nat, foldM l r f qs none = none
  | [] => rfl
  | _ :: qs => foldM_none l r f qs
theorem measure_ok {l : List Cel} (hG : Good l) {r : List Nat} (hj : JoinOk l r []) : ∀ (f : Nat) (s : List Int) (p : Nat) (s2 : List Int), p < l.length → MOk l r s → measureL l r f s p = some s2 →
    Msd l r s s2 ∧ 0 < s2.getD (r.getD p 0) 0 := by
  intro f
  induction f with
  | zero => intro s p s2 _ _ e; simp [measureL] at e
  | succ f ih =>
    intro s p s2 hp hs e
    obtain ⟨x1, x2⟩ := hj.top p hp
    have hxs : r.getD p 0 < s.length := by rw [hs.len]; exact x1
    -- all parts, one after the other
    have fold : ∀ (qs : List Nat), (∀ q ∈ qs, q < l.length) → ∀ (s0 : List Int) (n0 : Int) (s' : List Int) (n : Int), MOk l r s0 → foldM l r f qs (some (s0, n0)) = some (s', n) →
        Msd l r s0 s' ∧ (∀ q ∈ qs, 0 < s'.getD (r.getD q 0) 0) ∧ n = n0 + (qs.map fun q => s'.getD (r.getD q 0) 0).sum := by
      intro qs
      induction qs with
      | nil =>
        intro _ s0 n0 s' n h0 e
        simp only [foldM, List.foldl_nil, Option.some.injEq, Prod.mk.injEq] at e
        obtain ⟨rfl, rfl⟩ := e
        exact ⟨Msd.refl h0, fun _ h => absurd h (by simp), by simp⟩
      | cons q qs ihq =>
        intro hqs s0 n0 s' n h0 e
        rw [foldM, List.foldl_cons] at e
        simp only [Option.bind_some] at e
        cases e1 : measureL l r f s0 q with
        | none => rw [e1] at e; simp only [Option.map_none] at e; exact absurd ((foldM_none l r f qs).symm.trans e) (by simp)
        | some s1 =>
          rw [e1] at e
          simp only [Option.map_some] at e
          obtain ⟨m1, m2⟩ := ih s0 q s1 (hqs q List.mem_cons_self) h0 e1
          obtain ⟨k1, k2, k3⟩ := ihq (fun q' h => hqs q' (List.mem_cons_of_mem _ h)) s1 _ s' n m1.ok e
          have kq := k1.keep (r.getD q 0) (by omega)
          refine ⟨m1.trans k1, fun q' hq' => ?_, ?_⟩
          · rcases List.mem_cons.1 hq' with rfl | hq'
            · rw [kq]; exact m2
            · exact k2 q' hq'
          · rw [k3, List.map_cons, List.sum_cons, kq]; omega
    unfold measureL at e
    simp only at e
    split at e
    · next h0 =>
      have hs0 : MOk l r (s.set (r.getD p 0) (-1)) := hs.begin x1 h0
      split at e
      · cases e
      · next s' n e1 =>
        simp only [Option.some.injEq] at e
        subst e
        obtain ⟨k1, k2, k3⟩ := fold _ (fun q hq => args_lt hG hq) _ _ _ _ hs0 e1
        have hxs' : r.getD p 0 < s'.length := by rw [k1.ok.len]; exact x1
        have hx' : s'.getD (r.getD p 0) 0 = -1 := by
          rw [k1.keep _ (by rw [getD_set hxs, if_pos rfl]; omega), getD_set hxs, if_pos rfl]
        have hend : EndsIn l r (doneN s' + 1) (r.getD p 0) := fun q hq => (k1.ok.ends _ (hj.top q (args_lt hG hq)).1 (k2 q hq)).1
        have hsum : ((argsL l (r.getD p 0)).map fun q => s'.getD (r.getD q 0) 0).sum = ((argsL l (r.getD p 0)).map fun q => min ((termL l r q).length : Int) 201).sum := by
          congr 1
          refine List.map_congr_left fun q hq => ?_
          rw [(k1.ok.ends _ (hj.top q (args_lt hG hq)).1 (k2 q hq)).2, term_class (hj.top q (args_lt hG hq)).2]
        have hn : min n 201 = min ((termL l r (r.getD p 0)).length : Int) 201 := by
          have hlen : doneN s' + 1 ≤ l.length := by
            have h1 := done_set hxs' (by omega) 1
            have h2 := done_le (s'.set (r.getD p 0) 1)
            rw [List.length_set, k1.ok.len] at h2
            rw [if_pos (by omega)] at h1
            omega
          rw [term_class x2, term_eq hend hlen x1, k3, hsum, List.length_cons]
          have := sum_min (fun q => ((termL l r q).length : Int)) (fun q => by omega) (argsL l (r.getD p 0)) 1 (by omega)
          rw [this, ← length_flat]
          omega
        have hn1 : 1 ≤ n := by
          have := sum_nonneg (fun q => min ((termL l r q).length : Int) 201) (fun q => by omega) (argsL l (r.getD p 0))
          rw [k3, hsum]; omega
        have hd := done_set hxs' (by omega) (min n 201)
        rw [if_pos (by omega)] at hd
        refine ⟨⟨⟨by rw [List.length_set]; exact k1.ok.len, fun y => ?_, fun y hy hpos => ?_, fun y hy hpos q hq => ?_⟩, fun y hy => ?_, fun y hy => ?_⟩, ?_⟩
        · rw [getD_set hxs']; split
          · omega
          · exact k1.ok.low y
        · rw [getD_set hxs'] at hpos ⊢
          rw [hd]
          by_cases hyx : y = r.getD p 0
          · subst hyx
            rw [if_pos rfl]
            exact ⟨hend, hn⟩
          · rw [if_neg hyx] at hpos ⊢
            obtain ⟨a, b⟩ := k1.ok.ends y hy hpos
            exact ⟨a.succ, b⟩
        · rw [getD_set hxs'] at hpos ⊢
          split
          · omega
          · by_cases hyx : y = r.getD p 0
            · exact k2 q (by rw [← hyx]; exact hq)
            · rw [if_neg hyx] at hpos
              exact k1.ok.parts y hy hpos q hq
        · have hyx : y ≠ r.getD p 0 := fun e => hy (by rw [e]; exact h0)
          rw [getD_set hxs', if_neg hyx, k1.keep y (by rw [getD_set hxs, if_neg hyx]; exact hy), getD_set hxs, if_neg hyx]
        · rw [getD_set hxs'] at hy
          split at hy
          · omega
          · next hyx =>
            have := k1.prog y hy
            rwa [getD_set hxs, if_neg hyx] at this
        · rw [getD_set hxs', if_pos rfl]; omega
    · next h0 =>
      split at e
      · cases e
      · next h1 =>
        simp only [Option.some.injEq] at e
        subst e
        have := hs.low (r.getD p 0)
        exact ⟨Msd.refl hs, by omega⟩
/-- what is measured from nothing -/
theorem measured {l : List Cel} (hG : Good l) {r : List Nat} (hj : JoinOk l r []) {f : Nat} {p : Nat} {s : List Int} (hp : p < l.length) (e : measureL l r f (List.replicate l.length 0) p = some s) :
    MOk l r s ∧ 0 < s.getD (r.getD p 0) 0 := by
  have h0 : ∀ x, (List.replicate l.length (0 : Int)).getD x 0 = 0 := fun x => by
    simp only [List.getD_eq_getElem?_getD, List.getElem?_replicate]; split <;> rfl
  obtain ⟨a, b⟩ := measure_ok hG hj f _ p s hp ⟨by simp, fun x => by rw [h0]; omega, fun x _ h => by rw [h0] at h; omega, fun x _ h => by rw [h0] at h; omega⟩ e
  exact ⟨a.ok, b⟩
end Go.Proofs.YtmmnfkggfnokjaaGreat

namespace Go.Proofs.YtmmnfkggfnokjaaGreat
open Go.RowKit
attribute [local go_sem] Oper.semAt_some

theorem Cls.size_at {w : World} {C u s m : Nat} {l : List Cel} {E : List Int} {us : List Nat} (h : Cls (veil us w) C u s m l E) :
    ∃ cap, l.length ≤ cap ∧ cap ≤ 9223372036854775807 ∧ w.cell? ⟨C, 4, none⟩ = some (.slice (some ⟨s, 0, none⟩) l.length cap) :=
  let ⟨cap, h1, h2, h3⟩ := h.size; ⟨cap, h1, h2, (veil_cell h3).2⟩
def zeroN (s : List Int) : Nat := s.countP (fun v => decide (v = 0))
theorem zero_set {s : List Int} {x : Nat} (hx : x < s.length) (h : s.getD x 0 = 0) : zeroN (s.set x (-1)) + 1 = zeroN s := by
  have h0 : s[x] = 0 := by simpa [List.getD_eq_getElem?_getD, List.getElem?_eq_getElem hx] using h
  have h1 : 0 < zeroN s := List.countP_pos_iff.2 ⟨s[x], List.getElem_mem hx, by simp [h0]⟩
  unfold zeroN at h1 ⊢
  rw [List.countP_set hx]
  simp [h0]
  omega
theorem zero_le : ∀ {s s2 : List Int}, s2.length = s.length → (∀ x : Nat, s.getD x 0 ≠ 0 → s2.getD x 0 = s.getD x 0) → zeroN s2 ≤ zeroN s
  | [], [], _, _ => Nat.le_refl _
  | a :: s, b :: s2, hl, h => by
    have ih := zero_le (s := s) (s2 := s2) (by simpa using hl) (fun x hx => h (x + 1) hx)
    have h0 := h 0
    simp only [List.getD_cons_zero] at h0
    unfold zeroN at ih ⊢
    rw [List.countP_cons, List.countP_cons]
    by_cases ha : a = 0
    · simp only [ha]; split <;> simp <;> omega
    · rw [h0 ha]; omega
/-- no size is too great -/
theorem MOk.up {l : List Cel} {r : List Nat} {s : List Int} (h : MOk l r s) {x : Nat} (hx : x < l.length) : s.getD x 0 ≤ 201 := by
  by_cases h0 : 0 < s.getD x 0
  · rw [(h.ends x hx h0).2]; omega
  · omega
/-- what measuring tells -/
def MPost (w : World) (u s : Nat) (l : List Cel) (r : List Nat) (d : Nat → Nat) (o : Option (List Int)) (e : Ending) (w' : World) : Prop :=
  Fr [u, s] w w' ∧ (∃ U', RowU w' u U' ∧ Roots l.length U' (fun k => r.getD k 0) d) ∧ match o with
  | none => e = .returned (.bool false)
  | some S' => e = .returned (.bool true) ∧ RowU w' s S'
theorem getD_row {S : List Int} {x : Nat} (hx : x < S.length) : S[x] = S.getD x 0 := by simp [List.getD_eq_getElem?_getD, List.getElem?_eq_getElem hx]
end Go.Proofs.YtmmnfkggfnokjaaGreat

namespace Go.Proofs.YtmmnfkggfnokjaaGreat
open Go.RowKit
attribute [local go_sem] Oper.semAt_some

theorem veil_more2 {us vs : List Nat} {w W : World} (hf : Fr us w W) (h : ∀ k ∈ vs, k ∈ us ∨ w.heap.size ≤ k) : Keeps (veil us w) (veil vs W) := by
  intro b o v hc
  obtain ⟨hb, hc'⟩ := veil_cell hc
  have hl := cell_lt hc'
  exact veil_of (fun e => (h b e).elim hb (fun q => by omega)) ((World.cell?_of_block (a := ⟨b, o, none⟩) (hf.block b hl hb)).trans hc')
theorem OwnX.low {β : Type} {B N : Nat} {I : β → World → Prop} (hN : N ≤ B) (hsz : ∀ s W, I s W → N ≤ W.heap.size) (h : ∀ s W W', I s W → KpN N [] W W' → I s W') : OwnX B none I := fun s A C row hs hg hr =>
  h s A C hs ⟨hg.os, hg.tape, hg.output, hg.size, fun k hk _ => hg.block k (Nat.lt_of_lt_of_le hk (hsz s A hs)) (fun e => (hr k e.symm).elim (fun q => by cases q) (fun q => by have := q.1; omega))⟩
theorem KpN.wide {N : Nat} {us vs : List Nat} {W W' : World} (k : KpN N us W W') (h : ∀ j ∈ us, j ∈ vs ∨ N ≤ j) : KpN N vs W W' := ⟨k.os, k.tape, k.output, k.size, fun i hi hn => k.block i hi (fun e => (h i e).elim hn (fun q => by omega))⟩
theorem Fr.kpn {N : Nat} {us : List Nat} {W W' : World} (h : Fr us W W') (hN : N ≤ W.heap.size) : KpN N us W W' := ⟨h.os, h.tape, h.output, h.size, fun k hk hn => h.block k (by omega) hn⟩
theorem KpN.set {N : Nat} {us : List Nat} (W : World) {g k : Nat} (hg : g ∈ us ∨ N ≤ g) (v : Value) : KpN N us W (W.setCell ⟨g, k, none⟩ v) :=
  ⟨rfl, rfl, rfl, by simp [World.setCell], fun i hi hn => Below.heap_setCell _ ⟨g, k, none⟩ _ i (fun e => hg.elim (fun q => hn (by rw [show i = g from e]; exact q)) (fun q => by have : i = g := e; omega))⟩
/-- the memory in the loop over the parts; WR: at its begin -/
structure MJ (WR : World) (u s B5 : Nat) (l : List Cel) (r : List Nat) (d : Nat → Nat) (S : List Int) (nn : Int) (W : World) : Prop where
  up : ∃ U', RowU W u U' ∧ Roots l.length U' (fun k => r.getD k 0) d
  size : RowU W s S
  box : Boxed W B5 3 (.int .i64 nn)
  kp : KpN WR.heap.size [u, s, B5] WR W
theorem MJ.keep {WR W W' : World} {u s B5 : Nat} {l : List Cel} {r : List Nat} {d : Nat → Nat} {S : List Int} {nn : Int} (h : MJ WR u s B5 l r d S nn W) (hu : u < WR.heap.size) (hs : s < WR.heap.size) (hb : B5 < WR.heap.size) (k : KpN WR.heap.size [] W W') : MJ WR u s B5 l r d S nn W' := by
  obtain ⟨⟨U', h1, h2⟩, h3, h4, h5⟩ := h
  exact ⟨⟨U', (k.block u hu (by simp)).trans h1, h2⟩, (k.block s hs (by simp)).trans h3, (k.block B5 hb (by simp)).trans h4, h5.trans (k.wide (by simp))⟩
def MI (WR : World) (u s B5 : Nat) (l : List Cel) (r : List Nat) (d : Nat → Nat) (f : Nat) (S0 : List Int) (pre : List (Place l.length)) (W : World) : Prop :=
  ∃ S nn, foldM l r (f + 1) (valsP pre) (some (S0, 1)) = some (S, nn) ∧ 1 - 201 * pre.length ≤ nn ∧ nn ≤ 1 + 201 * pre.length ∧ MOk l r S ∧ zeroN S ≤ f ∧ MJ WR u s B5 l r d S nn W
def MX (WR : World) (u s B5 B4 : Nat) (l : List Cel) (r : List Nat) (d : Nat → Nat) (f : Nat) (S0 : List Int) (x : Nat) (c : Code) (pre : List (Place l.length)) (W : World) : Prop :=
  c = .ret ∧ foldM l r (f + 1) (valsP pre) (some (S0, 1)) = none ∧ valsP pre <+: argsL l x ∧ Boxed W B4 4 (.bool false) ∧ (∃ U', RowU W u U' ∧ Roots l.length U' (fun k => r.getD k 0) d) ∧ KpN WR.heap.size [u, s, B5, B4] WR W
theorem MI.own {WR : World} {u s B5 : Nat} {l : List Cel} {r : List Nat} {d : Nat → Nat} {f : Nat} {S0 : List Int} (hu : u < WR.heap.size) (hs : s < WR.heap.size) (hb : B5 < WR.heap.size) : OwnX WR.heap.size none (MI WR u s B5 l r d f S0) :=
  OwnX.low (Nat.le_refl _) (fun _ _ ⟨_, _, _, _, _, _, _, h⟩ => h.kp.size) (fun _ _ _ ⟨S, nn, h1, h2, h3, h4, h5, h⟩ k => ⟨S, nn, h1, h2, h3, h4, h5, h.keep hu hs hb k⟩)
theorem MX.own {WR : World} {u s B5 B4 : Nat} {l : List Cel} {r : List Nat} {d : Nat → Nat} {f : Nat} {S0 : List Int} {x : Nat} (hu : u < WR.heap.size) (hb : B4 < WR.heap.size) (c : Code) : OwnX WR.heap.size none (MX WR u s B5 B4 l r d f S0 x c) :=
  OwnX.low (Nat.le_refl _) (fun _ _ ⟨_, _, _, _, _, h⟩ => h.size) (fun _ _ _ ⟨h0, h1, h2, h3, ⟨U', h4, h5⟩, h6⟩ k => ⟨h0, h1, h2, (k.block B4 hb (by simp)).trans h3, ⟨U', (k.block u hu (by simp)).trans h4, h5⟩, h6.trans (k.wide (by simp))⟩)
theorem foldM_snoc (l : List Cel) (r : List Nat) (f : Nat) (qs : List Nat) (q : Nat) (o : Option (List Int × Int)) : foldM l r f (qs ++ [q]) o = (foldM l r f qs o).bind fun (s', n) => (measureL l r f s' q).map fun s2 => (s2, n + s2.getD (r.getD q 0) 0) := by
  simp [foldM, List.foldl_append]
/-- a result of truth that lies in a cell -/
theorem results_bool {fn : Func} {p : Tmp} (h : fn.results = #[.cell p 4]) (tmps : Array Value) {W : World} {B : Nat} {b : Bool} (hp : tmps.getD p undef = .pointer (some ⟨B, 0, none⟩)) (hb : Boxed W B 4 (.bool b)) : (results fn tmps).run Tryz.prog W = .ok (.bool b) W := by
  have hc := hb.cell
  have hp' : tmps[p]?.getD undef = .pointer (some ⟨B, 0, none⟩) := by simpa using hp
  have hu := Tryz.underlying4
  simp [results, h, hp', asAddr, loadVar, go_sem, hc, hu]
/-- one part more -/
theorem MI.next {WR W W2 W3 : World} {u s B5 : Nat} {l : List Cel} {r : List Nat} {d : Nat → Nat} {f : Nat} {S0 : List Int} {pre : List (Place l.length)} {x : Place l.length} {S S2 : List Int} {nn : Int} {U3 : List Int} (hG : Good l) (hj : JoinOk l r []) (hus : u ≠ s) (hb : B5 < WR.heap.size) (hub : u ≠ B5) (hsb : s ≠ B5) (hsl : s < WR.heap.size)
    (h1 : foldM l r (f + 1) (valsP pre) (some (S0, 1)) = some (S, nn)) (h2 : 1 - 201 * pre.length ≤ nn) (h3 : nn ≤ 1 + 201 * pre.length) (h4 : MOk l r S) (h5 : zeroN S ≤ f) (h : MJ WR u s B5 l r d S nn W)
    (hm : measureL l r (f + 1) S x.1 = some S2) (hF : Fr [u, s] W W2) (hS2 : RowU W2 s S2) (hF3 : Fr [u] W2 W3) (hU3 : RowU W3 u U3) (hR3 : Roots l.length U3 (fun k => r.getD k 0) d) :
    MI WR u s B5 l r d f S0 (pre ++ [x]) (W3.setCell ⟨B5, 0, none⟩ (.int .i64 (nn + S2.getD (r.getD x.1 0) 0))) := by
  obtain ⟨m1, m2⟩ := measure_ok hG hj _ _ _ _ x.2 h4 hm
  have hup := m1.ok.up (hj.top x.1 x.2).1
  have hsz := h.kp.size
  have hl : (pre ++ [x]).length = pre.length + 1 := by simp
  refine ⟨S2, nn + S2.getD (r.getD x.1 0) 0, ?_, ?_, ?_, m1.ok, Nat.le_trans (zero_le (m1.ok.len.trans h4.len.symm) m1.keep) h5, ⟨⟨U3, hU3.setOther (Ne.symm hub) _, hR3⟩, ?_, ?_, ?_⟩⟩
  · rw [valsP_append, show valsP [x] = [x.1] from rfl, foldM_snoc, h1, Option.bind_some]
    simp only [hm, Option.map_some]
  · rw [hl]; omega
  · rw [hl]; omega
  · have hS3 : RowU W3 s S2 := (hF3.block s (by have := hF.size; omega) (by simp; exact fun e => hus e.symm)).trans hS2
    exact hS3.setOther (Ne.symm hsb) _
  · have hb3 : Boxed W3 B5 3 (.int .i64 nn) := (hF3.block B5 (by have := hF.size; omega) (by simp; exact fun e => hub e.symm)).trans ((hF.block B5 (by omega) (by simp; exact ⟨fun e => hub e.symm, fun e => hsb e.symm⟩)).trans h.box)
    exact hb3.set _
  · exact ((h.kp.trans ((hF.kpn hsz).wide (by simp))).trans ((hF3.kpn (by have := hF.size; omega)).wide (by simp))).trans (KpN.set _ (.inl (by simp)) _)
end Go.Proofs.YtmmnfkggfnokjaaGreat

namespace Go.Proofs.YtmmnfkggfnokjaaGreat

/-! ### a region that draws its order, in a round of a loop over an iterator, at the wide fence: as outside -/
section
variable {l n : Nat} {P : Program} {ops : Array Oper} {Q : Exit → Act → World → Prop} {md : Region.Mode}
theorem wpIn_of_wp_round {o : Oper} (hd : ∀ c, o.op ≠ .defer c) {a : Act} {w : World} {K K' : Act → World → Prop} (hK : ∀ a w, K a w → K' a w) (h : o.wp P a w K Q) : o.wpIn (Fence.wide.inRound l) n P a w K' Q := by
  refine ⟨fun _ _ => trivial, ?_⟩
  rw [Oper.semAt_plain _ _ o hd]
  unfold Oper.wp at h
  generalize (execOp a.eval o).run P w = r at h ⊢
  cases r with
  | ok x w' =>
    cases x with
    | enter f args => exact ⟨fun hh => by simp [Fence.wide] at hh, CallsIn.inRound l (callsIn_wide.2 (Calls.mono h fun e w'' he => by cases e <;> first | exact hK _ _ he | exact he))⟩
    | row row args => exact ⟨fun hh => by simp [Fence.wide] at hh, fun c cs _ => let ⟨v, w'', r, s⟩ := h c cs; ⟨v, w'', hK _ _ r, stepsIn_wide.2 s⟩⟩
    | _ => first | exact hK _ _ h | exact h.elim
  | halt x w' => cases x <;> first | exact h | exact h.elim
theorem any_round (hnd : ∀ (i : Nat) (o : Oper), ops[i]? = some o → ∀ c, o.op ≠ .defer c) (hno : ¬ LetsOut Q) : ∀ (fuel : Nat) (listed : Array Bool) (a : Act) (w : World), wpAny P md ops Q fuel listed a w → wpAnyIn (Fence.wide.inRound l) n P md ops Q fuel listed a w
  | 0, _, _, _, h => h
  | fuel + 1, listed, a, w, h => ⟨h.1, fun i hi => by
    have h2 := h.2 i hi
    unfold wpOp at h2
    unfold wpOpIn
    cases ho : ops[i]? with
    | none => rw [ho] at h2; exact any_round hnd hno fuel _ a w h2
    | some o =>
      rw [ho] at h2
      dsimp only at h2 ⊢
      split at h2
      · rename_i hw
        rw [if_pos hw]
        exact wpIn_of_wp_round (hnd i o ho) (fun a' w' h' => any_round hnd hno fuel _ a' w' h') (h2.resolve_right fun h3 => hno h3.2)
      · rename_i hw
        rw [if_neg hw]
        exact ⟨fun _ _ => trivial, any_round hnd hno fuel _ _ w h2⟩⟩
theorem wpIn_region_round {id : Nat} {a : Act} {w : World} (S : World → Prop) (hm : P.follows .mixedOrders = true) (hnd : ∀ (i : Nat) (o : Oper), ops[i]? = some o → ∀ c, o.op ≠ .defer c) (hno : ¬ LetsOut Q) (hS : S w.drew)
    (h : S w.drew → wpAnyH P .any ops Q S ops.size (Array.replicate ops.size false) a w.drew) : (Code.region id ops true).wpIn (Fence.wide.inRound l) n P Q a w :=
  wpIn_region_any hm (any_round hnd hno _ _ _ _ (wpAny_of_held _ _ _ _ (h hS)))
end
end Go.Proofs.YtmmnfkggfnokjaaGreat

namespace Go.Proofs.YtmmnfkggfnokjaaGreat
open Go.RowKit
attribute [local go_sem] Oper.semAt_some

end Go.Proofs.YtmmnfkggfnokjaaGreat

namespace Go.Proofs.YtmmnfkggfnokjaaGreat
open Go.RowKit

/-- what is told of laying out -/
def LayPost (w0 w : World) (u : Nat) (l : List Cel) (r : List Nat) (d : Nat → Nat) (v : Value) (out : List Cel) (e : Ending) (w' : World) : Prop :=
  ∃ v', e = .returned v' ∧ LR w' w0.heap.size v' out ∧ Fr [u] w0 w' ∧ (∃ U', RowU w' u U' ∧ Roots l.length U' (fun k => r.getD k 0) d) ∧ w.heap.size ≤ w'.heap.size ∧
    (∀ k, k < w.heap.size → k ≠ u → v.ownBlock ≠ some k → w'.heap[k]? = w.heap[k]?) ∧ (v'.ownBlock = v.ownBlock ∨ ∃ g, v'.ownBlock = some g ∧ w.heap.size ≤ g)
/-- in the loop over the parts -/
structure LJ (w0 WR : World) (u B4 g0 : Nat) (l : List Cel) (r : List Nat) (d : Nat → Nat) (out : List Cel) (v : Value) (W : World) : Prop where
  row : LR W w0.heap.size v out
  box : Boxed W B4 23 v
  up : ∃ U', RowU W u U' ∧ Roots l.length U' (fun k => r.getD k 0) d
  kp : KpN WR.heap.size [u, B4, g0] WR W
  wh : v.ownBlock = some g0 ∨ ∃ g, v.ownBlock = some g ∧ WR.heap.size + 2 ≤ g
def LI (w0 WR : World) (u B4 g0 : Nat) (l : List Cel) (r : List Nat) (d : Nat → Nat) (h : Nat) (acc : List Cel) (pre : List (Place l.length)) (W : World) : Prop :=
  ∃ v, LJ w0 WR u B4 g0 l r d (acc ++ (valsP pre).flatMap (layL l r h)) v W
theorem LI.own {w0 WR : World} {u B4 g0 : Nat} {l : List Cel} {r : List Nat} {d : Nat → Nat} {h : Nat} {acc : List Cel} (hu : u < WR.heap.size) (hb : B4 < WR.heap.size) (hg : g0 < WR.heap.size) : OwnX WR.heap.size none (LI w0 WR u B4 g0 l r d h acc) := by
  rintro pre W W' row ⟨v, j⟩ hgr hr
  have hr2 : ∀ q, row = some q → WR.heap.size ≤ q ∧ ∃ o : Obj, W.heap[q]? = some o ∧ o.isCells = false := fun q e => (hr q e).resolve_left (fun q => by cases q)
  have hlow : ∀ k, k < WR.heap.size → W'.heap[k]? = W.heap[k]? := fun k hk => hgr.block k (Nat.lt_of_lt_of_le hk j.kp.size) (fun e => by have := (hr2 k e.symm).1; omega)
  have hne : v.ownBlock ≠ row := fun e => by
    rcases j.wh with q | ⟨g, q, _⟩
    · rw [q] at e; have := (hr2 g0 e.symm).1; omega
    · rw [q] at e
      obtain ⟨_, o, h1, h2⟩ := hr2 g e.symm
      obtain ⟨cur, hc⟩ := j.row.cells q
      rw [hc] at h1; cases h1; cases h2
  obtain ⟨U', u1, u2⟩ := j.up
  exact ⟨v, j.row.kept hgr (.inr hne), (hlow B4 hb).trans j.box, ⟨U', (hlow u hu).trans u1, u2⟩, j.kp.trans ⟨hgr.os, hgr.tape, hgr.output, hgr.size, fun k hk _ => hlow k hk⟩, j.wh⟩
/-- one part more -/
theorem LI.next {w0 WR W W2 : World} {u B4 g0 : Nat} {l : List Cel} {r : List Nat} {d : Nat → Nat} {h : Nat} {acc : List Cel} {pre : List (Place l.length)} {x : Place l.length} {v v2 : Value} (hb : B4 < WR.heap.size) (hub : u ≠ B4) (hgb : g0 ≠ B4) (hu0 : u < w0.heap.size) (hw0 : w0.heap.size ≤ WR.heap.size) (hb0 : w0.heap.size ≤ B4) (hsz2 : WR.heap.size + 2 ≤ W.heap.size)
    (j : LJ w0 WR u B4 g0 l r d (acc ++ (valsP pre).flatMap (layL l r h)) v W)
    (h1 : LR W2 w0.heap.size v2 ((acc ++ (valsP pre).flatMap (layL l r h)) ++ layL l r h x.1)) (h2 : Fr [u] w0 W2) (hos : W2.os = W.os ∧ W2.tape = W.tape ∧ W2.output = W.output) (h3 : ∃ U', RowU W2 u U' ∧ Roots l.length U' (fun k => r.getD k 0) d) (h4 : W.heap.size ≤ W2.heap.size)
    (h5 : ∀ k, k < W.heap.size → k ≠ u → v.ownBlock ≠ some k → W2.heap[k]? = W.heap[k]?) (h6 : v2.ownBlock = v.ownBlock ∨ ∃ g, v2.ownBlock = some g ∧ W.heap.size ≤ g) :
    LI w0 WR u B4 g0 l r d h acc (pre ++ [x]) (W2.setCell ⟨B4, 0, none⟩ v2) ∧ (∀ k, k < WR.heap.size → k ∉ [u, B4, g0] → (W2.setCell ⟨B4, 0, none⟩ v2).heap[k]? = W.heap[k]?) ∧ (∀ k, WR.heap.size ≤ k → k < W.heap.size → v.ownBlock ≠ some k → (W2.setCell ⟨B4, 0, none⟩ v2).heap[k]? = W.heap[k]?) := by
  have hsz := j.kp.size
  have hwh : v2.ownBlock = some g0 ∨ ∃ g, v2.ownBlock = some g ∧ WR.heap.size + 2 ≤ g := by
    rcases h6 with q | ⟨g, q, hq⟩
    · rw [q]; exact j.wh
    · exact .inr ⟨g, q, by omega⟩
  have hb2 : ∀ g, v2.ownBlock = some g → g ≠ B4 := fun g e => by
    rcases hwh with q | ⟨g', q, hq⟩
    · rw [e] at q; cases q; exact hgb
    · rw [e] at q; cases q; omega
  have hne : ∀ k, k < WR.heap.size → k ≠ g0 → v.ownBlock ≠ some k := fun k hk hn e => by
    rcases j.wh with q | ⟨g', q, hq⟩
    · rw [e] at q; cases q; exact hn rfl
    · rw [e] at q; cases q; omega
  have hlow : ∀ k, k < WR.heap.size → k ∉ [u, B4, g0] → (W2.setCell ⟨B4, 0, none⟩ v2).heap[k]? = W.heap[k]? := fun k hk hn => by
    simp only [List.mem_cons, List.not_mem_nil, or_false, not_or] at hn
    exact (Below.heap_setCell W2 ⟨B4, 0, none⟩ _ k hn.2.1).trans (h5 k (by omega) hn.1 (hne k hk hn.2.2))
  refine ⟨⟨v2, ?_, ?_, ?_, ?_, hwh⟩, hlow, fun k hk1 hk2 hk3 => (Below.heap_setCell W2 ⟨B4, 0, none⟩ _ k (by show k ≠ B4; omega)).trans (h5 k hk2 (by omega) hk3)⟩
  · rw [valsP_append, List.flatMap_append, ← List.append_assoc, show (valsP [x]).flatMap (layL l r h) = layL l r h x.1 by simp [valsP]]
    exact h1.block (fun g e => Below.heap_setCell W2 ⟨B4, 0, none⟩ _ g (hb2 g e))
  · have hbx : Boxed W2 B4 23 v := (h5 B4 (by omega) (fun e => hub e.symm) (hne B4 hb (fun e => hgb e.symm))).trans j.box
    exact hbx.set _
  · obtain ⟨U', u1, u2⟩ := h3
    exact ⟨U', u1.setOther (fun e => hub e.symm) _, u2⟩
  · exact j.kp.trans ⟨hos.1, hos.2.1, hos.2.2, by simpa [World.setCell] using h4, hlow⟩
theorem flat_pre {l : List Cel} {f : Nat → List Cel} {a b : List Nat} (h : a <+: b) : (a.flatMap f).length ≤ (b.flatMap f).length := by
  obtain ⟨c, rfl⟩ := h
  rw [List.flatMap_append, List.length_append]; omega
end Go.Proofs.YtmmnfkggfnokjaaGreat

namespace Go.Proofs.YtmmnfkggfnokjaaGreat
open Go.RowKit
attribute [local go_sem] Oper.semAt_some

end Go.Proofs.YtmmnfkggfnokjaaGreat

namespace Go.Proofs.YtmmnfkggfnokjaaGreat
open Go.RowKit

theorem Fr.grown {u : Nat} {w w' : World} (h : Fr [u] w w') : w.grownBy w' (some u) := ⟨h.os, h.tape, h.output, h.size, fun k hk hn => h.block k hk (by simp; exact fun e => hn (by rw [e]))⟩
theorem lay_mem {l : List Cel} {r : List Nat} : ∀ (f p : Nat), ∀ c ∈ layL l r f p, c ∈ l
  | 0, _, _, h => by cases h
  | f + 1, p, c, h => by
    unfold layL at h
    cases hc : l[r.getD p 0]? with
    | none => rw [hc] at h; cases h
    | some c0 =>
      rw [hc] at h
      rcases List.mem_cons.1 h with rfl | h
      · exact List.mem_of_getElem? hc
      · obtain ⟨q, _, hq⟩ := List.mem_flatMap.1 h
        exact lay_mem f q c hq
theorem LR.newRow {W : World} {B : Nat} {v : Value} {acc : List Cel} (h : LR W B v acc) (hf : ∀ c ∈ acc, c.fit) : ∃ a cap, v = .slice a acc.length cap ∧ NewRow B W a cap acc :=
  own_newG (α := Cel) h (crows_flat _ hf)
/-- what a variable's place is told to be -/
def TermPost (w : World) (u : Nat) (l : List Cel) (r : List Nat) (d : Nat → Nat) (big : Bool) (out : List Cel) (e : Ending) (w' : World) : Prop :=
  Fr [u] w w' ∧ (∃ U', RowU w' u U' ∧ Roots l.length U' (fun k => r.getD k 0) d) ∧
    if big then e = .returned (.tuple #[.slice none 0 0, .bool false]) else ∃ a cap, e = .returned (.tuple #[.slice a out.length cap, .bool true]) ∧ NewRow w.heap.size w' a cap out

end Go.Proofs.YtmmnfkggfnokjaaGreat

namespace Go.Proofs.YtmmnfkggfnokjaaGreat
open Go.RowKit

theorem below_under {u B : Nat} {w w' : World} (h : Fr [u] w w') (hu : u < B) : Below (under B w).heap.size (under B w) (under B w') := by
  refine ⟨h.os, h.tape, h.output, by rw [under_size, under_size]; exact h.size, fun k hk => ?_⟩
  rw [under_size] at hk
  by_cases hb : B ≤ k
  · rw [under_heap hb, under_heap hb]
    exact h.block k hk (by simp; omega)
  · have e1 := h.size
    unfold under
    rw [Array.getElem?_mapIdx, Array.getElem?_mapIdx, Array.getElem?_eq_getElem hk, Array.getElem?_eq_getElem (by omega : k < w'.heap.size)]
    simp [show k < B by omega]
theorem own_of_under {w : World} {B e size : Nat} {v : Value} {n : Nat} {xs : List Value} (h : (under B w).ownsRow B e size v n xs) : w.ownsRow B e size v n xs := by
  refine ⟨h.1, ?_⟩
  rcases h.2 with h | ⟨g, cap, cur, rfl, hb, hg, rest⟩
  · exact .inl h
  · exact .inr ⟨g, cap, cur, rfl, hb, by rwa [under_heap hb] at hg, rest⟩
theorem hide_under {B : Nat} {w w' : World} {r r' : Option Nat} (h : Keeps (hide r w) (hide r' w')) : Keeps (hide r (under B w)) (hide r' (under B w')) := by
  intro b o v hc
  have h0 : (under B w).cell? ⟨b, o, none⟩ = some v := hide_keeps r _ _ _ _ hc
  obtain ⟨hb, h1⟩ := under_cell h0
  have h2 : (hide r w).cell? ⟨b, o, none⟩ = some v := by
    cases r with
    | none => exact h1
    | some g => exact hide_of_ne (hide_cell hc).1 h1
  have h3 := h _ _ _ h2
  have h4 := hide_keeps r' _ _ _ _ h3
  cases r' with
  | none => exact under_of hb h4
  | some g => exact hide_of_ne (hide_cell h3).1 (under_of hb h4)
/-- append of one element, laid just ahead of it; what lies below B plays no part -/
theorem wpList_accU {α : Type} [RepC α] {P : Program} {w : World} {ops : Array Oper} {rest : List Oper} {o : Oper} {a : Act} {Q : Exit → Act → World → Prop} (hgd : o.guard = none) (s x : Operand) (t : TypeId)
    (ho : o.op = .call { callee := .builtin .append, args := #[s, x], argTypes := #[t, t] })
    (B e bytes : Nat) (z : Value) (ht : P.underlying t = some (.slice e)) (hinfo : (P.info? e).map (fun i => (i.zero, i.size, i.bytes)) = some (some z, Rep.sz α, bytes))
    (hzs : z.cells.size = Rep.sz α) (hby : bytes ≤ 1000)
    (v : Value) (acc : List α) (hacc : AccInv B e acc v (under B w)) (hs : a.eval s = v) (T : Nat) (cs : Array Value) (y : α) (hcs : RepC.C (hide v.ownBlock (under B w)) cs.toList y)
    (hx : a.eval x = .slice (some ⟨w.heap.size, 0, none⟩) 1 1)
    (hmax : acc.length + 1 ≤ 1000000000) (hB : B ≤ w.heap.size)
    (h : ∀ v' w', AccInv B e (acc ++ [y]) v' (under B w') → Below B w w' → wpList P ops Q rest (a.put o.dst v') w') : wpList P ops Q (o :: rest) a (w.alloc (.cells cs T)) := by
  obtain ⟨vs, hown, hc⟩ := hacc.ex
  have hown' := own_of_under hown
  refine wpList_app2 hgd s x t ho B e (Rep.sz α) bytes z ht hinfo hzs RepC.pos hby v acc.length vs hs (hown'.alloc _) ⟨w.heap.size, 0, none⟩ 1 1 cs.toList hx (src_new w cs T (Rep.sz α) (by have := RepC.len hcs; simpa using this) (fun u hu => RepC.one hcs u (by simpa using hu))) hmax (by simp; omega) ?_
  intro v' w' h1 _ h3 h4
  have k1 : Keeps (hide v.ownBlock (under B w)) (hide v.ownBlock (under B (w.alloc (.cells cs T)))) := hide_under (alloc_hide w _ _)
  have k2 := hide_under (B := B) h4
  refine h v' w' ⟨vs ++ cs.toList, by rw [List.length_append]; exact under_own h1, ?_⟩ (((Below.refl B w).alloc hB _).trans h3)
  exact ((hc.keeps k1).keeps k2).snoc (RepC.cmono (RepC.cmono hcs k1) k2)

theorem new_hide {α : Type} [Rep α] {B B2 : Nat} {w : World} {a : Option Addr} {cap : Nat} {xs : List α} {r : Option Nat} (h : NewRow B2 w a cap xs) (hB : B ≤ B2) (hr : ∀ g, r = some g → g < B2) : Row (hide r (under B w)) a cap xs := by
  refine Row.keeps h (fun b o v hc => ?_)
  obtain ⟨h1, h2⟩ := under_cell hc
  have h3 := under_of (B := B) (by omega) h2
  cases r with
  | none => exact h3
  | some g => exact hide_of_ne (by have := hr g rfl; omega) h3
/-- what bindings tell -/
def BPost (w : World) (u : Nat) (o : Option (List Bnd)) (e : Ending) (w' : World) : Prop := Fr [u] w w' ∧ match o with
  | none => e = .returned (.tuple #[.slice none 0 0, .bool false])
  | some L => ∃ a2 cap2, e = .returned (.tuple #[.slice a2 L.length cap2, .bool true]) ∧ Row w' a2 cap2 L
end Go.Proofs.YtmmnfkggfnokjaaGreat

namespace Go.Proofs.YtmmnfkggfnokjaaGreat

/-! ### the terms within a row of terms, and what putting in makes of them -/
/-- each variable's term put in -/
def putF (F : Int → List Cel) (t : List Cel) : List Cel := t.flatMap fun c => if c.k = 1 then F c.n else [c]
theorem putF_append (F : Int → List Cel) (a b : List Cel) : putF F (a ++ b) = putF F a ++ putF F b := by unfold putF; rw [List.flatMap_append]
theorem putF_var (F : Int → List Cel) {c : Cel} (h : c.k = 1) (t : List Cel) : putF F (c :: t) = F c.n ++ putF F t := by unfold putF; rw [List.flatMap_cons, if_pos h]
theorem putF_cell (F : Int → List Cel) {c : Cel} (h : c.k ≠ 1) (t : List Cel) : putF F (c :: t) = c :: putF F t := by unfold putF; rw [List.flatMap_cons, if_neg h]; rfl
theorem putF_flat (F : Int → List Cel) (T : Nat → List Cel) : ∀ qs : List Nat, putF F (qs.flatMap T) = qs.flatMap fun q => putF F (T q)
  | [] => rfl
  | q :: qs => by rw [List.flatMap_cons, List.flatMap_cons, putF_append, putF_flat F T qs]
/-- the term that stands at a place -/
def subL (l : List Cel) (i : Nat) : List Cel := (l.drop i).take ((endI l i).toNat - i)
theorem cut_row (l : List Cel) {a b c : Nat} (h1 : a ≤ b) (h2 : b ≤ c) : (l.drop a).take (c - a) = (l.drop a).take (b - a) ++ (l.drop b).take (c - b) := by
  have e : c - a = (b - a) + (c - b) := by omega
  rw [e, List.take_add, List.drop_drop]
  congr 3
  omega
theorem argP_zero {l : List Cel} {i : Nat} (hi : i < l.length) : argP l i 0 = i + 1 := by
  unfold argP; rw [afterI_zero (by omega)]; omega
theorem argP_le {l : List Cel} (hG : Good l) {i j : Nat} (hi : i < l.length) (hj : j ≤ ar l[i]) : i + 1 ≤ argP l i j ∧ argP l i j ≤ l.length := by
  have := good_after hG hi hj
  unfold argP; omega
theorem argP_next {l : List Cel} (hG : Good l) {i j : Nat} (hi : i < l.length) (hj : j < ar l[i]) : (endI l (argP l i j)).toNat = argP l i (j + 1) ∧ argP l i j ≤ argP l i (j + 1) := by
  have h1 := good_next hG hi hj
  have h2 := good_after hG hi (Nat.le_of_lt hj)
  have h3 := end_range hG (i := argP l i j) (by unfold argP; omega)
  unfold argP at h3 ⊢
  rw [h1] at h3 ⊢
  omega
theorem sub_parts {l : List Cel} (hG : Good l) {i : Nat} (hi : i < l.length) : ∀ m, m ≤ ar l[i] →
    (l.drop (i + 1)).take (argP l i m - (i + 1)) = (List.range m).flatMap fun j => subL l (argP l i j)
  | 0, _ => by rw [argP_zero hi]; simp
  | m + 1, hm => by
    obtain ⟨h1, h2⟩ := argP_next hG hi (j := m) (by omega)
    have h3 := argP_le hG hi (j := m) (by omega)
    rw [cut_row l (b := argP l i m) (by omega) h2, sub_parts hG hi m (by omega), List.range_succ, List.flatMap_append]
    simp only [List.flatMap_cons, List.flatMap_nil, List.append_nil]
    unfold subL
    rw [h1]
theorem sub_eq {l : List Cel} (hG : Good l) {i : Nat} (hi : i < l.length) : subL l i = l[i] :: (argsL l i).flatMap (subL l) := by
  have h1 := good_end hG hi
  have h2 := argP_le hG hi (Nat.le_refl (ar l[i]))
  have e : (endI l i).toNat = argP l i (ar l[i]) := by rw [h1]; rfl
  have hp := sub_parts hG hi (ar l[i]) (Nat.le_refl _)
  unfold subL argsL
  rw [List.getElem?_eq_getElem hi]
  simp only [List.flatMap_map]
  rw [e, List.drop_eq_getElem_cons hi]
  have e2 : argP l i (ar l[i]) - i = (argP l i (ar l[i]) - (i + 1)) + 1 := by omega
  rw [e2, List.take_succ_cons, hp]
  rfl
theorem arg_gt {l : List Cel} (hG : Good l) {i q : Nat} (hi : i < l.length) (h : q ∈ argsL l i) : i < q := by
  unfold argsL at h
  rw [List.getElem?_eq_getElem hi] at h
  obtain ⟨j, hj, rfl⟩ := List.mem_map.1 h
  have := argP_le hG hi (j := j) (by have := List.mem_range.1 hj; omega)
  omega
theorem var_args {l : List Cel} {i : Nat} (hi : i < l.length) (h : l[i].k = 1) : argsL l i = [] := by
  apply List.eq_nil_of_length_eq_zero
  rw [args_length l hi]; unfold ar; rw [if_neg (by omega)]
theorem first_of {l : List Cel} {p : Nat} (hp : p < l.length) (h : l[p].k = 1) : firstO l l[p].n = some (upAt l p) := by
  rw [upAt_var hp h]
  have e : l = l.take p ++ l.drop p := (List.take_append_drop p l).symm
  have hd : (l.drop p).findIdx? (isV l[p].n) = some 0 := by
    rw [List.drop_eq_getElem_cons hp, List.findIdx?_cons]
    simp [isV, h]
  have e2 : ∀ v, firstO l v = ((l.take p).findIdx? (isV v)).or (((l.drop p).findIdx? (isV v)).map (· + (l.take p).length)) := fun v => by
    have h := List.findIdx?_append (xs := l.take p) (ys := l.drop p) (p := isV v)
    rw [← e] at h
    exact h
  rw [e2, hd]
  unfold firstO
  cases (l.take p).findIdx? (isV l[p].n) with
  | none => simp; omega
  | some i => simp

/-! ### joined and measured: the classes' terms are what makes alike -/
/-- what is put in for each variable -/
def ofVar (l : List Cel) (r : List Nat) (v : Int) : List Cel := termL l r ((firstO l v).getD 0)
section
variable {l : List Cel} {r : List Nat} {t : List (Nat × Nat)}
theorem ofVar_at (J : Joined l (ups l) r t) {p : Nat} (hp : p < l.length) (h : l[p].k = 1) : ofVar l r l[p].n = termL l r p := by
  unfold ofVar
  rw [first_of hp h]
  obtain ⟨h1, h2⟩ := upAt_le hp
  refine term_class (J.mono _ _ (by show upAt l p < _; omega) hp ?_)
  show (ups l).getD (upAt l p) 0 = _
  rw [ups_get (by omega), ups_get hp, h2]
/-- a class that no variable stands for: its parts end too, by whatever place of it -/
theorem ends_parts (J : Joined l (ups l) r t) {h p : Nat} (hp : p < l.length) (hk : l[p].k ≠ 1) (e : EndsIn l r (h + 1) (r.getD p 0)) : ∀ q ∈ argsL l p, EndsIn l r h (r.getD q 0) := by
  intro q hq
  obtain ⟨x1, x2⟩ := J.ok.top p hp
  have kx : l[r.getD p 0].k ≠ 1 := fun e => hk (J.var p hp x1 e)
  obtain ⟨_, c2⟩ := J.closed p _ hp x1 x2.symm hk kx
  have : r.getD q 0 ∈ (argsL l (r.getD p 0)).map (fun z => r.getD z 0) := by rw [← c2]; exact List.mem_map.2 ⟨q, hq, rfl⟩
  obtain ⟨q', hq', e'⟩ := List.mem_map.1 this
  have := e q' hq'
  rw [e'] at this
  exact this
theorem class_parts (J : Joined l (ups l) r t) {p : Nat} (hp : p < l.length) (hk : l[p].k ≠ 1) (T : Nat → List Cel) (hT : ∀ a b, r.getD a 0 = r.getD b 0 → T a = T b) :
    l[r.getD p 0]'(J.ok.top p hp).1 = l[p] ∧ (argsL l (r.getD p 0)).flatMap T = (argsL l p).flatMap T := by
  obtain ⟨x1, x2⟩ := J.ok.top p hp
  have kx : l[r.getD p 0].k ≠ 1 := fun e => hk (J.var p hp x1 e)
  obtain ⟨c1, c2⟩ := J.closed p _ hp x1 x2.symm hk kx
  refine ⟨c1.symm, ?_⟩
  have gen : ∀ xs ys : List Nat, xs.map (fun z => r.getD z 0) = ys.map (fun z => r.getD z 0) → xs.flatMap T = ys.flatMap T := by
    intro xs
    induction xs with
    | nil => intro ys h; cases ys with
      | nil => rfl
      | cons y ys => simp at h
    | cons x xs ih => intro ys h; cases ys with
      | nil => simp at h
      | cons y ys =>
        simp only [List.map_cons, List.cons.injEq] at h
        rw [List.flatMap_cons, List.flatMap_cons, hT x y h.1, ih ys h.2]
  exact gen _ _ c2.symm
/-- putting in makes of the term at a place the term of its class -/
theorem put_sub (hG : Good l) (J : Joined l (ups l) r t) : ∀ (k p h : Nat), p < l.length → l.length - p ≤ k → h ≤ l.length → EndsIn l r h (r.getD p 0) → putF (ofVar l r) (subL l p) = termL l r p := by
  intro k
  induction k with
  | zero => intro p h hp hk; omega
  | succ k ih =>
    intro p h hp hk hh e
    rw [sub_eq hG hp]
    by_cases hv : l[p].k = 1
    · rw [var_args hp hv, putF_var _ hv, ofVar_at J hp hv]; simp [putF]
    · obtain ⟨h, rfl⟩ : ∃ g, h = g + 1 := by cases h with
        | zero => exact e.elim
        | succ g => exact ⟨g, rfl⟩
      obtain ⟨c1, c2⟩ := class_parts J hp hv (termL l r) (fun _ _ e => term_class e)
      rw [putF_cell _ hv, putF_flat, term_eq e hh (J.ok.top p hp).1, c1, c2]
      congr 1
      refine flat_congr fun q hq => ih q h (args_lt hG hq) ?_ (by omega) (ends_parts J hp hv e q hq)
      have := arg_gt hG hp hq
      omega
/-- put in twice is as once -/
theorem put_term (J : Joined l (ups l) r t) (hG : Good l) : ∀ (h p : Nat), p < l.length → h ≤ l.length → EndsIn l r h (r.getD p 0) → putF (ofVar l r) (termL l r p) = termL l r p := by
  intro h
  induction h with
  | zero => intro p _ _ e; exact e.elim
  | succ h ih =>
    intro p hp hh e
    obtain ⟨x1, x2⟩ := J.ok.top p hp
    rw [term_eq e hh x1]
    by_cases hv : l[r.getD p 0].k = 1
    · rw [var_args x1 hv, putF_var _ hv, ofVar_at J x1 hv, term_class x2, term_eq e hh x1, var_args x1 hv]; simp [putF]
    · rw [putF_cell _ hv, putF_flat]
      congr 1
      exact flat_congr fun q hq => ih q (args_lt hG hq) (by omega) (e q hq)
/-- whatever makes alike, makes the same of a class's term as of the terms in the class -/
theorem put_most (hG : Good l) (hj : JoinOk l r []) {G : Int → List Cel} (hV : ∀ z, z < l.length → putF G (subL l (r.getD z 0)) = putF G (subL l z)) : ∀ (h p : Nat), p < l.length → h ≤ l.length → EndsIn l r h (r.getD p 0) →
    putF G (termL l r p) = putF G (subL l p) := by
  intro h
  induction h with
  | zero => intro p _ _ e; exact e.elim
  | succ h ih =>
    intro p hp hh e
    obtain ⟨x1, x2⟩ := hj.top p hp
    rw [← hV p hp, term_eq e hh x1, sub_eq hG x1]
    by_cases hv : l[r.getD p 0].k = 1
    · rw [var_args x1 hv]; rfl
    · rw [putF_cell _ hv, putF_cell _ hv, putF_flat, putF_flat]
      congr 1
      exact flat_congr fun q hq => ih q (args_lt hG hq) (by omega) (e q hq)
end
/-- how the classes begin: nothing of two cells is in one class but a variable -/
theorem laid_var (l : List Cel) : VarIn l (ups l) := by
  intro z hz hlt hk
  apply Classical.byContradiction
  intro hn
  have e : upAt l z = z := by unfold upAt; rw [List.getElem?_eq_getElem hz]; simp [hn]
  have e2 := ups_get hz
  rw [e] at e2
  exact hn (by simpa only [e2] using hk)
theorem laid_closed (l : List Cel) (r' : List Nat) : ClosedBy l (ups l) r' := by
  intro x y hx hy e k1 k2
  have e1 : upAt l x = x := by unfold upAt; rw [List.getElem?_eq_getElem hx]; simp [k1]
  have e2 : upAt l y = y := by unfold upAt; rw [List.getElem?_eq_getElem hy]; simp [k2]
  rw [ups_get hx, ups_get hy, e1, e2] at e
  subst e
  exact ⟨rfl, rfl⟩
theorem joined_ups {l : List Cel} (hG : Good l) {f : Nat} {r : List Nat} {t : List (Nat × Nat)} (ht : ∀ p ∈ t, p.1 < l.length ∧ p.2 < l.length) (e : joinL l f (ups l) t = some r) : Joined l (ups l) r t :=
  joined hG (laid_ok l t ht) (laid_var l) (fun r' _ => laid_closed l r') e
theorem laid_least (l : List Cel) : VarMin l (ups l) := by
  intro z hz hlt hk
  have e2 := ups_get hz
  by_cases hz1 : l[z].k = 1
  · have hf := first_of hz hz1
    unfold firstO at hf
    obtain ⟨_, h2, _⟩ := List.findIdx?_eq_some_iff_getElem.1 hf
    simp only [isV, Bool.and_eq_true, decide_eq_true_eq] at h2
    simp only [e2]
    omega
  · exact absurd (laid_var l z hz hlt hk) hz1
/-- ALIKE: joined and measured, putting in makes both terms the same -/
theorem alike_of {l : List Cel} (hG : Good l) {f g : Nat} {r : List Nat} {s : List Int} {p q : Nat} (hp : p < l.length) (hq : q < l.length) (e : joinL l f (ups l) [(p, q)] = some r) (m : measureL l r g (List.replicate l.length 0) p = some s) :
    putF (ofVar l r) (subL l p) = termL l r p ∧ putF (ofVar l r) (subL l q) = termL l r p := by
  have J := joined_ups hG (t := [(p, q)]) (by simp [hp, hq]) e
  obtain ⟨mo, pos⟩ := measured hG J.ok hp m
  have hpq : r.getD p 0 = r.getD q 0 := J.done (p, q) (by simp)
  have he := (mo.ends _ (J.ok.top p hp).1 pos).1
  have hd : doneN s ≤ l.length := by have := done_le s; rw [mo.len] at this; exact this
  refine ⟨put_sub hG J l.length p _ hp (by omega) hd he, ?_⟩
  rw [term_class hpq]
  rw [hpq] at he
  exact put_sub hG J l.length q _ hq (by omega) hd he
end Go.Proofs.YtmmnfkggfnokjaaGreat

namespace Go.Proofs.YtmmnfkggfnokjaaGreat

/-! ### one term, read at the front of a row -/
def IsT (t : List Cel) : Prop := ∀ m rest, sk (m + 1) (t ++ rest) = sk m rest
theorem sk_zero (l : List Cel) : sk 0 l = some l := by cases l <;> rfl
theorem IsT.inj {t u a b : List Cel} (ht : IsT t) (hu : IsT u) (e : t ++ a = u ++ b) : t = u ∧ a = b := by
  have h1 := ht 0 a
  have h2 := hu 0 b
  rw [e, h2, sk_zero, sk_zero] at h1
  injection h1 with h1
  subst h1
  exact ⟨List.append_cancel_right e, rfl⟩
theorem flat_isT (T : Nat → List Cel) : ∀ qs : List Nat, (∀ q ∈ qs, IsT (T q)) → ∀ m rest, sk (qs.length + m) (qs.flatMap T ++ rest) = sk m rest
  | [], _, m, rest => by simp
  | q :: qs, h, m, rest => by
    rw [List.flatMap_cons, List.append_assoc, List.length_cons, show qs.length + 1 + m = qs.length + m + 1 by omega, h q List.mem_cons_self]
    exact flat_isT T qs (fun q' h' => h q' (List.mem_cons_of_mem _ h')) m rest
theorem flat_inj (T : Nat → List Cel) : ∀ xs ys : List Nat, xs.length = ys.length → (∀ q ∈ xs, IsT (T q)) → (∀ q ∈ ys, IsT (T q)) → xs.flatMap T = ys.flatMap T → xs.map T = ys.map T
  | [], [], _, _, _, _ => rfl
  | [], _ :: _, h, _, _, _ => by simp at h
  | _ :: _, [], h, _, _, _ => by simp at h
  | x :: xs, y :: ys, h, hx, hy, e => by
    rw [List.flatMap_cons, List.flatMap_cons] at e
    obtain ⟨e1, e2⟩ := (hx x List.mem_cons_self).inj (hy y List.mem_cons_self) e
    rw [List.map_cons, List.map_cons, e1, flat_inj T xs ys (by simpa using h) (fun q hq => hx q (List.mem_cons_of_mem _ hq)) (fun q hq => hy q (List.mem_cons_of_mem _ hq)) e2]
section
variable {l : List Cel}
theorem put_eq (hG : Good l) (G : Int → List Cel) {z : Nat} (hz : z < l.length) :
    putF G (subL l z) = if l[z].k = 1 then G l[z].n else l[z] :: (argsL l z).flatMap fun q => putF G (subL l q) := by
  rw [sub_eq hG hz]
  split
  · next h => rw [var_args hz h, putF_var _ h]; simp [putF]
  · next h => rw [putF_cell _ h, putF_flat]
theorem put_isT (hG : Good l) {G : Int → List Cel} (hT : ∀ v, IsT (G v)) : ∀ (k z : Nat), z < l.length → l.length - z ≤ k → IsT (putF G (subL l z)) := by
  intro k
  induction k with
  | zero => intro z hz hk; omega
  | succ k ih =>
    intro z hz hk
    rw [put_eq hG G hz]
    split
    · exact hT _
    · next h =>
      intro m rest
      rw [List.cons_append]
      simp only [sk, good_ok hG hz, if_true]
      have := flat_isT (fun q => putF G (subL l q)) (argsL l z) (fun q hq => ih q (args_lt hG hq) (by have := arg_gt hG hz hq; omega)) m rest
      rw [args_length l hz, Nat.add_comm] at this
      exact this
/-- the values of what is put in fit the terms -/
theorem put_fits (hG : Good l) {G : Int → List Cel} (hT : ∀ v, IsT (G v)) : ValOk l fun z => putF G (subL l z) := by
  refine ⟨fun x y hx hy e k1 k2 => ?_⟩
  simp only [put_eq hG G hx, put_eq hG G hy, if_neg k1, if_neg k2, List.cons.injEq] at e
  obtain ⟨e1, e2⟩ := e
  have hlen : (argsL l x).length = (argsL l y).length := by rw [args_length l hx, args_length l hy, e1]
  exact ⟨e1, flat_inj _ _ _ hlen (fun q hq => put_isT hG hT l.length q (args_lt hG hq) (by omega)) (fun q hq => put_isT hG hT l.length q (args_lt hG hq) (by omega)) e2⟩
theorem put_less (hG : Good l) (G : Int → List Cel) {z q : Nat} (hz : z < l.length) (hq : q ∈ argsL l z) : (putF G (subL l q)).length < (putF G (subL l z)).length := by
  have hk : l[z].k ≠ 1 := fun h => by rw [var_args hz h] at hq; cases hq
  rw [put_eq hG G hz, if_neg hk, List.length_cons]
  have : ∀ qs : List Nat, q ∈ qs → (putF G (subL l q)).length ≤ (qs.flatMap fun q => putF G (subL l q)).length := by
    intro qs
    induction qs with
    | nil => intro h; cases h
    | cons x xs ih =>
      intro h
      rw [List.flatMap_cons, List.length_append]
      rcases List.mem_cons.1 h with rfl | h
      · omega
      · have := ih h; omega
  have := this _ hq
  omega
end

/-! ### measuring ends, where lengths fall -/
def progN (s : List Int) : Nat := s.countP (fun v => decide (v = -1))
theorem prog_set {s : List Int} {x : Nat} (hx : x < s.length) (h : s.getD x 0 = 0) : progN (s.set x (-1)) = progN s + 1 := by
  have h' : s[x] = 0 := by simpa [List.getD_eq_getElem?_getD, List.getElem?_eq_getElem hx] using h
  unfold progN
  rw [List.countP_set hx]
  simp [h']
theorem prog_same {s s2 : List Int} (hl : s.length = s2.length) (h : ∀ x, s.getD x 0 = -1 ↔ s2.getD x 0 = -1) : progN s = progN s2 := by
  have e : s.map (fun v => decide (v = -1)) = s2.map (fun v => decide (v = -1)) := by
    apply List.ext_getElem
    · simpa using hl
    · intro i h1 h2
      have a1 : i < s.length := by simpa using h1
      have a2 : i < s2.length := by simpa using h2
      have := h i
      simp only [List.getD_eq_getElem?_getD, List.getElem?_eq_getElem a1, List.getElem?_eq_getElem a2, Option.getD_some] at this
      simp only [List.getElem_map, decide_eq_decide]
      exact this
  have c : ∀ s : List Int, progN s = (s.map (fun v => decide (v = -1))).countP id := fun s => by unfold progN; rw [List.countP_map]; rfl
  rw [c, c, e]
theorem measure_some {l : List Cel} (hG : Good l) {r : List Nat} (hj : JoinOk l r []) {L : Nat → Nat} (hL : ∀ z, z < l.length → L (r.getD z 0) = L z) (hless : ∀ z q, z < l.length → q ∈ argsL l z → L q < L z) :
    ∀ (f : Nat) (s : List Int) (p : Nat), p < l.length → MOk l r s → (∀ y, y < l.length → s.getD y 0 = -1 → L p < L y) → l.length + 1 ≤ f + progN s → ∃ s2, measureL l r f s p = some s2 := by
  intro f
  induction f with
  | zero =>
    intro s p _ hs _ hf
    have : progN s ≤ s.length := List.countP_le_length
    rw [hs.len] at this
    omega
  | succ f ih =>
    intro s p hp hs hpr hf
    obtain ⟨x1, x2⟩ := hj.top p hp
    have hxs : r.getD p 0 < s.length := by rw [hs.len]; exact x1
    unfold measureL
    simp only
    split
    · next h0 =>
      have hs0 : MOk l r (s.set (r.getD p 0) (-1)) := hs.begin x1 h0
      have hp0 : l.length + 1 ≤ f + progN (s.set (r.getD p 0) (-1)) := by rw [prog_set hxs h0]; omega
      have hpr0 : ∀ q ∈ argsL l (r.getD p 0), ∀ y, y < l.length → (s.set (r.getD p 0) (-1)).getD y 0 = -1 → L q < L y := by
        intro q hq y hy e
        have h1 := hless _ q x1 hq
        rw [getD_set hxs] at e
        split at e
        · next e' => rw [e']; exact h1
        · have := hpr y hy e
          rw [hL p hp] at h1
          omega
      have fold : ∀ (qs : List Nat), (∀ q ∈ qs, q ∈ argsL l (r.getD p 0)) → ∀ (s0 : List Int) (n0 : Int), MOk l r s0 → (∀ x, (s.set (r.getD p 0) (-1)).getD x 0 = -1 ↔ s0.getD x 0 = -1) →
          ∃ o, foldM l r f qs (some (s0, n0)) = some o := by
        intro qs
        induction qs with
        | nil => intro _ s0 n0 _ _; exact ⟨_, rfl⟩
        | cons q qs ihq =>
          intro hqs s0 n0 h0 he
          have hq := hqs q List.mem_cons_self
          have hql := args_lt hG hq
          obtain ⟨s1, e1⟩ := ih s0 q hql h0 (fun y hy e => hpr0 q hq y hy ((he y).2 e)) (by rw [← prog_same (by rw [hs0.len, h0.len]) he]; exact hp0)
          obtain ⟨m1, _⟩ := measure_ok hG hj f s0 q s1 hql h0 e1
          rw [foldM, List.foldl_cons]
          simp only [Option.bind_some, e1, Option.map_some]
          exact ihq (fun q' h => hqs q' (List.mem_cons_of_mem _ h)) s1 _ m1.ok fun x => ⟨fun e => by rw [m1.keep x (by rw [(he x).1 e]; omega)]; exact (he x).1 e, fun e => (he x).2 (m1.prog x e)⟩
      obtain ⟨o, e⟩ := fold _ (fun _ h => h) (s.set (r.getD p 0) (-1)) 1 hs0 (fun _ => Iff.rfl)
      obtain ⟨s', n⟩ := o
      unfold foldM at e
      rw [e]
      exact ⟨_, rfl⟩
    · next h0 =>
      split
      · next h1 =>
        exfalso
        have := hpr _ x1 h1
        rw [hL p hp] at this
        omega
      · exact ⟨_, rfl⟩
/-- THE MOST GENERAL: whatever makes two terms the same: then joining and measuring end well, and what they tell, put in first, changes nothing -/
theorem most_of {l : List Cel} (hG : Good l) {G : Int → List Cel} (hT : ∀ v, IsT (G v)) {p q : Nat} (hp : p < l.length) (hq : q < l.length) (e : putF G (subL l p) = putF G (subL l q)) :
    ∃ r s, joinL l (7 * l.length + 1) (ups l) [(p, q)] = some r ∧ measureL l r (l.length + 1) (List.replicate l.length 0) p = some s ∧
      (∀ z, z < l.length → putF G (subL l (r.getD z 0)) = putF G (subL l z)) := by
  have hJ : JoinOk l (ups l) [(p, q)] := laid_ok l _ (by simp [hp, hq])
  have ht : tops (ups l) ≤ l.length := by
    unfold tops
    have h1 := List.length_filter_le (fun k => decide ((ups l).getD k 0 = k)) (List.range (ups l).length)
    rw [List.length_range, hJ.len] at h1
    rw [hJ.len]
    exact h1
  obtain ⟨r, e1, e2⟩ := join_val hG (put_fits hG hT) (7 * l.length + 1) (ups l) [(p, q)] hJ (by rw [List.length_singleton]; omega)
    (fun z hz => by
      rw [ups_get hz]
      by_cases hk : l[z].k = 1
      · obtain ⟨h1, _⟩ := upAt_le hz
        have hu : upAt l z < l.length := by omega
        have hf := first_of hz hk
        unfold firstO at hf
        have hf := List.findIdx?_eq_some_iff_getElem.1 hf
        obtain ⟨_, h2, _⟩ := hf
        simp only [isV, Bool.and_eq_true, decide_eq_true_eq] at h2
        show putF G (subL l (upAt l z)) = putF G (subL l z)
        rw [put_eq hG G hu, put_eq hG G hz, if_pos hk, if_pos h2.1, h2.2]
      · have : upAt l z = z := by unfold upAt; rw [List.getElem?_eq_getElem hz]; simp [hk]
        rw [this])
    (by simp only [List.mem_singleton]; rintro _ rfl; exact e)
  have J := joined_ups hG (t := [(p, q)]) (by simp [hp, hq]) e1
  obtain ⟨s, e3⟩ := measure_some hG J.ok (L := fun z => (putF G (subL l z)).length) (fun z hz => by rw [e2 z hz]) (fun z q hz hq => put_less hG G hz hq) (l.length + 1) (List.replicate l.length 0) p hp
    ⟨by simp, fun x => by simp only [List.getD_eq_getElem?_getD, List.getElem?_replicate]; split <;> simp, fun x _ h => by simp only [List.getD_eq_getElem?_getD, List.getElem?_replicate] at h; split at h <;> simp at h, fun x _ h => by simp only [List.getD_eq_getElem?_getD, List.getElem?_replicate] at h; split at h <;> simp at h⟩
    (fun y _ h => by simp only [List.getD_eq_getElem?_getD, List.getElem?_replicate] at h; split at h <;> simp at h) (by omega)
  exact ⟨r, s, e1, e3, e2⟩
end Go.Proofs.YtmmnfkggfnokjaaGreat
