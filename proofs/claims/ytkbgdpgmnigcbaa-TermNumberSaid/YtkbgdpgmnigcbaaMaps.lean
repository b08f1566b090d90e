import Derived.Test.YtkbgdpgmnigcbaaLib
import Derived.Maps.OwnOps
import Derived.Maps.OwnSet
namespace Go.Proofs.Ytkbgdpgmnigcbaa
open Go.RowKit

/-- block b of w is a map from int to bool of at most n entries; what is not there is the zero value -/
def MapIB (P : Program) (k e : TypeId) (w : World) (b n : Nat) (f : Int → Bool) : Prop :=
  ∃ D : DataW Unit, w.ownsMap P k (plainElem P e) b n D ∧ ∀ i, (Lit.int .i64 i).wf = true → D.atKey (.int .i64 i) (.lit (.bool false)) = .lit (.bool (f i))
theorem MapIB.made (P : Program) (k e : TypeId) (w : World) : MapIB P k e (w.alloc (.map #[] 0)) w.heap.size 0 (fun _ => false) :=
  ⟨.map [], World.ownsMap_made w P k _, fun _ _ => rfl⟩
section
variable {P : Program} {k e t : TypeId} {w w' : World} {b n : Nat} {f : Int → Bool}
theorem MapIB.lt (h : MapIB P k e w b n f) : b < w.heap.size := let ⟨_, h, _⟩ := h; h.lt
theorem MapIB.kept {row : Option Nat} (h : MapIB P k e w b n f) (hg : w.grownBy w' row) (hne : some b ≠ row) : MapIB P k e w' b n f :=
  let ⟨D, h, hf⟩ := h; ⟨D, h.kept hg hne, hf⟩
theorem MapIB.below (h : MapIB P k e w b n f) (hb : Below w.heap.size w w') : MapIB P k e w' b n f :=
  h.kept (row := none) ⟨hb.os, hb.tape, hb.output, hb.size, fun k hk _ => hb.block k hk⟩ (by simp)
theorem MapIB.alloc (h : MapIB P k e w b n f) (o : Obj) : MapIB P k e (w.alloc o) b n f := let ⟨D, h, hf⟩ := h; ⟨D, h.alloc o, hf⟩
theorem MapIB.mono (h : MapIB P k e w b n f) : MapIB P k e w b (n + 1) f := let ⟨D, h, hf⟩ := h; ⟨D, h.mono (Nat.le_succ _), hf⟩
theorem MapIB.run_lookup (h : MapIB P k e w b n f) (hk : P.underlying k = some (.int .i64)) (ht : P.underlying t = some (.map k e)) (he : P.underlying e = some (.bool)) (hz : (zeroValue e).run P w = .ok (.bool false) w)
    {i : Int} (hi : (Lit.int .i64 i).wf = true) : (Instr.lookup t (.map (some b)) (.int .i64 i) false).run P w = .ok (.bool (f i)) w := by
  obtain ⟨D, h, hf⟩ := h
  obtain ⟨v, ps, hrun, hv⟩ := h.lookup (Go.Maps.int_keyed hk) ht hz (z := .bool false) (zd := .lit (.bool false)) (zp := []) (plainElem_bool he false) (Go.Maps.keyOf_int_mk hk hi)
  rw [hf i hi] at hv
  rw [hrun]
  unfold plainElem at hv
  rw [he] at hv
  cases v <;> simp at hv
  rw [hv.1]
theorem MapIB.wp_lookup {o : Oper} {a : Act} {Q : Exit → Act → World → Prop}
    (m x : Operand) (hop : o.op = Op.lookup t m x false)
    (hk : P.underlying k = some (.int .i64)) (ht : P.underlying t = some (.map k e)) (he : P.underlying e = some (.bool)) (hz : (zeroValue e).run P w = .ok (.bool false) w)
    (hm : a.eval m = .map (some b)) (h : MapIB P k e w b n f) (i : Int) (hx : a.eval x = .int .i64 i) (hi : (Lit.int .i64 i).wf = true) {K : Act → World → Prop}
    (hK : K (a.put o.dst (.bool (f i))) w) :
    o.wp P a w K Q := by
  unfold Oper.wp
  simp [execOp, hop, hm, hx, h.run_lookup hk ht he hz hi, Result.andThen]
  exact hK
theorem MapIB.wpl_lookup {ops : Array Oper} {rest : List Oper} {o : Oper} {a : Act} {Q : Exit → Act → World → Prop}
    (hg : o.guard = none) (m x : Operand) (hop : o.op = Op.lookup t m x false)
    (hk : P.underlying k = some (.int .i64)) (ht : P.underlying t = some (.map k e)) (he : P.underlying e = some (.bool)) (hz : (zeroValue e).run P w = .ok (.bool false) w)
    (hm : a.eval m = .map (some b)) (h : MapIB P k e w b n f) (i : Int) (hx : a.eval x = .int .i64 i) (hi : (Lit.int .i64 i).wf = true)
    (hK : wpList P ops Q rest (a.put o.dst (.bool (f i))) w) :
    wpList P ops Q (o :: rest) a w := by
  refine wpList_plain hg fun K' hK' => ?_
  unfold Oper.wp
  simp [execOp, hop, hm, hx, h.run_lookup hk ht he hz hi, Result.andThen]
  exact hK' _ _ hK
theorem MapIB.put_at {D : DataW Unit} (hD : Go.Maps.IsMap D) (hf : ∀ i, (Lit.int .i64 i).wf = true → D.atKey (.int .i64 i) (.lit (.bool false)) = .lit (.bool (f i))) (i : Int) (x : Bool) :
    ∀ j, (Lit.int .i64 j).wf = true → (D.put (.int .i64 i) (.lit (.bool x))).atKey (.int .i64 j) (.lit (.bool false)) = .lit (.bool (if j = i then x else f j)) := by
  intro j hj
  by_cases e : j = i
  · subst e; rw [if_pos rfl]; exact Go.Maps.atKey_put_same hD (by simp [WideAt.IsKeyLit]) _ _
  · rw [if_neg e, ← hf j hj]; exact Go.Maps.atKey_put_other (by simp; exact e) _ _
theorem MapIB.wpl_update {ops : Array Oper} {rest : List Oper} {o : Oper} {a : Act} {Q : Exit → Act → World → Prop}
    (hg : o.guard = none) (m x y : Operand) (hop : o.op = Op.mapUpdate t m x y)
    (hk : P.underlying k = some (.int .i64)) (ht : P.underlying t = some (.map k e)) (he : P.underlying e = some (.bool))
    (hm : a.eval m = .map (some b)) (h : MapIB P k e w b n f) (hn : n < 9223372036854775807) (i : Int) (hx : a.eval x = .int .i64 i) (hi : (Lit.int .i64 i).wf = true) (z : Bool) (hy : a.eval y = .bool z)
    (hK : ∀ w', MapIB P k e w' b (n + 1) (fun j => if j = i then z else f j) → w.grownBy w' (some b) → wpList P ops Q rest (a.put o.dst undef) w') :
    wpList P ops Q (o :: rest) a w := by
  obtain ⟨D, h, hf⟩ := h
  refine wpList_mapUpdate_own w hg m x y t hop k e (Go.Maps.int_keyed hk) ht _ b n D hm h (by unfold maxLen; omega) _ _ _ hx hy (Go.Maps.keyOf_int_mk hk hi) (.lit (.bool z)) [] (plainElem_bool he z) ?_
  intro w' h' hg'
  exact hK w' ⟨_, h', MapIB.put_at h.isMap hf i z⟩ hg'
end

/-- block b of w is a map from int to int of at most n entries; what is not there is the zero value -/
def MapII (P : Program) (k e : TypeId) (w : World) (b n : Nat) (f : Int → Int) : Prop :=
  ∃ D : DataW Unit, w.ownsMap P k (plainElem P e) b n D ∧ ∀ i, (Lit.int .i64 i).wf = true → D.atKey (.int .i64 i) (.lit (.int .i64 0)) = .lit (.int .i64 (f i))
theorem MapII.made (P : Program) (k e : TypeId) (w : World) : MapII P k e (w.alloc (.map #[] 0)) w.heap.size 0 (fun _ => 0) :=
  ⟨.map [], World.ownsMap_made w P k _, fun _ _ => rfl⟩
section
variable {P : Program} {k e t : TypeId} {w w' : World} {b n : Nat} {f : Int → Int}
theorem MapII.lt (h : MapII P k e w b n f) : b < w.heap.size := let ⟨_, h, _⟩ := h; h.lt
theorem MapII.kept {row : Option Nat} (h : MapII P k e w b n f) (hg : w.grownBy w' row) (hne : some b ≠ row) : MapII P k e w' b n f :=
  let ⟨D, h, hf⟩ := h; ⟨D, h.kept hg hne, hf⟩
theorem MapII.below (h : MapII P k e w b n f) (hb : Below w.heap.size w w') : MapII P k e w' b n f :=
  h.kept (row := none) ⟨hb.os, hb.tape, hb.output, hb.size, fun k hk _ => hb.block k hk⟩ (by simp)
theorem MapII.alloc (h : MapII P k e w b n f) (o : Obj) : MapII P k e (w.alloc o) b n f := let ⟨D, h, hf⟩ := h; ⟨D, h.alloc o, hf⟩
theorem MapII.mono (h : MapII P k e w b n f) : MapII P k e w b (n + 1) f := let ⟨D, h, hf⟩ := h; ⟨D, h.mono (Nat.le_succ _), hf⟩
theorem MapII.run_lookup (h : MapII P k e w b n f) (hk : P.underlying k = some (.int .i64)) (ht : P.underlying t = some (.map k e)) (he : P.underlying e = some (.int .i64)) (hz : (zeroValue e).run P w = .ok (.int .i64 0) w)
    {i : Int} (hi : (Lit.int .i64 i).wf = true) : (Instr.lookup t (.map (some b)) (.int .i64 i) false).run P w = .ok (.int .i64 (f i)) w := by
  obtain ⟨D, h, hf⟩ := h
  obtain ⟨v, ps, hrun, hv⟩ := h.lookup (Go.Maps.int_keyed hk) ht hz (z := .int .i64 0) (zd := .lit (.int .i64 0)) (zp := []) (plainElem_int he rfl) (Go.Maps.keyOf_int_mk hk hi)
  rw [hf i hi] at hv
  rw [hrun]
  obtain ⟨c, rfl, hc, _⟩ := plainElem_int_inv he hv
  simp at hc
  rw [hc.1]
theorem MapII.wp_lookup {o : Oper} {a : Act} {Q : Exit → Act → World → Prop}
    (m x : Operand) (hop : o.op = Op.lookup t m x false)
    (hk : P.underlying k = some (.int .i64)) (ht : P.underlying t = some (.map k e)) (he : P.underlying e = some (.int .i64)) (hz : (zeroValue e).run P w = .ok (.int .i64 0) w)
    (hm : a.eval m = .map (some b)) (h : MapII P k e w b n f) (i : Int) (hx : a.eval x = .int .i64 i) (hi : (Lit.int .i64 i).wf = true) {K : Act → World → Prop}
    (hK : K (a.put o.dst (.int .i64 (f i))) w) :
    o.wp P a w K Q := by
  unfold Oper.wp
  simp [execOp, hop, hm, hx, h.run_lookup hk ht he hz hi, Result.andThen]
  exact hK
theorem MapII.wpl_lookup {ops : Array Oper} {rest : List Oper} {o : Oper} {a : Act} {Q : Exit → Act → World → Prop}
    (hg : o.guard = none) (m x : Operand) (hop : o.op = Op.lookup t m x false)
    (hk : P.underlying k = some (.int .i64)) (ht : P.underlying t = some (.map k e)) (he : P.underlying e = some (.int .i64)) (hz : (zeroValue e).run P w = .ok (.int .i64 0) w)
    (hm : a.eval m = .map (some b)) (h : MapII P k e w b n f) (i : Int) (hx : a.eval x = .int .i64 i) (hi : (Lit.int .i64 i).wf = true)
    (hK : wpList P ops Q rest (a.put o.dst (.int .i64 (f i))) w) :
    wpList P ops Q (o :: rest) a w := by
  refine wpList_plain hg fun K' hK' => ?_
  unfold Oper.wp
  simp [execOp, hop, hm, hx, h.run_lookup hk ht he hz hi, Result.andThen]
  exact hK' _ _ hK
theorem MapII.put_at {D : DataW Unit} (hD : Go.Maps.IsMap D) (hf : ∀ i, (Lit.int .i64 i).wf = true → D.atKey (.int .i64 i) (.lit (.int .i64 0)) = .lit (.int .i64 (f i))) (i : Int) (x : Int) :
    ∀ j, (Lit.int .i64 j).wf = true → (D.put (.int .i64 i) (.lit (.int .i64 x))).atKey (.int .i64 j) (.lit (.int .i64 0)) = .lit (.int .i64 (if j = i then x else f j)) := by
  intro j hj
  by_cases e : j = i
  · subst e; rw [if_pos rfl]; exact Go.Maps.atKey_put_same hD (by simp [WideAt.IsKeyLit]) _ _
  · rw [if_neg e, ← hf j hj]; exact Go.Maps.atKey_put_other (by simp; exact e) _ _
theorem MapII.wpl_update {ops : Array Oper} {rest : List Oper} {o : Oper} {a : Act} {Q : Exit → Act → World → Prop}
    (hg : o.guard = none) (m x y : Operand) (hop : o.op = Op.mapUpdate t m x y)
    (hk : P.underlying k = some (.int .i64)) (ht : P.underlying t = some (.map k e)) (he : P.underlying e = some (.int .i64))
    (hm : a.eval m = .map (some b)) (h : MapII P k e w b n f) (hn : n < 9223372036854775807) (i : Int) (hx : a.eval x = .int .i64 i) (hi : (Lit.int .i64 i).wf = true) (z : Int) (hy : a.eval y = .int .i64 z) (hz : (Lit.int .i64 z).wf = true)
    (hK : ∀ w', MapII P k e w' b (n + 1) (fun j => if j = i then z else f j) → w.grownBy w' (some b) → wpList P ops Q rest (a.put o.dst undef) w') :
    wpList P ops Q (o :: rest) a w := by
  obtain ⟨D, h, hf⟩ := h
  refine wpList_mapUpdate_own w hg m x y t hop k e (Go.Maps.int_keyed hk) ht _ b n D hm h (by unfold maxLen; omega) _ _ _ hx hy (Go.Maps.keyOf_int_mk hk hi) (.lit (.int .i64 z)) [] (plainElem_int he hz) ?_
  intro w' h' hg'
  exact hK w' ⟨_, h', MapII.put_at h.isMap hf i z⟩ hg'
end
end Go.Proofs.Ytkbgdpgmnigcbaa
