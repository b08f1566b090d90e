import Derived.Test.YtlddglajdcednaaZr1
import Derived.Deep.RegionWith
import Derived.Maps.OwnOps
import Derived.Maps.OwnSet
import Derived.WalkLawsBesides
import Derived.OneCell
import Derived.OwnWalk
import Derived.RangeFuncNested
import Derived.RangeFuncBound
import Derived.RangeFuncCalls
import Derived.RangeFuncLeaves
import Derived.RangeFuncBox
import Derived.Shelf.Abstract
import Derived.Shelf.RegionOpen
import Derived.WalkKit
import Derived.OwnWalkIn
import Derived.TacticsInMore
import Derived.LoopNIn
import Derived.LoopIn
import Derived.Maps.AppendAt
namespace Go.Proofs.Ytlddglajdcednaa
open Go.RowKit

/-- all blocks that were there, but some, are as they were -/
structure Fr (us : List Nat) (w w' : World) : Prop where
  os : w'.os = w.os
  tape : w'.tape = w.tape
  output : w'.output = w.output
  size : w.heap.size ≤ w'.heap.size
  block : ∀ k, k < w.heap.size → k ∉ us → w'.heap[k]? = w.heap[k]?
section
variable {us : List Nat} {w w' w'' : World}
theorem Fr.refl (us : List Nat) (w : World) : Fr us w w := ⟨rfl, rfl, rfl, Nat.le_refl _, fun _ _ _ => rfl⟩
theorem Fr.trans (h : Fr us w w') (k : Fr us w' w'') : Fr us w w'' :=
  ⟨k.os.trans h.os, k.tape.trans h.tape, k.output.trans h.output, Nat.le_trans h.size k.size, fun i hi hn => (k.block i (Nat.lt_of_lt_of_le hi h.size) hn).trans (h.block i hi hn)⟩
theorem Fr.of (h : Below w.heap.size w w') : Fr us w w' := ⟨h.os, h.tape, h.output, h.size, fun k hk _ => h.block k hk⟩
theorem Fr.alloc (h : Fr us w w') (o : Obj) : Fr us w (w'.alloc o) := h.trans (Fr.of ((Below.refl _ _).new o))
theorem Fr.drew (h : Fr us w w') : Fr us w w'.drew := h.trans (Fr.of (Below.refl _ _).drew)
theorem Fr.set (h : Fr us w w') {g k : Nat} (hg : g ∈ us) (v : Value) : Fr us w (w'.setCell ⟨g, k, none⟩ v) :=
  h.trans ⟨rfl, rfl, rfl, by simp [World.setCell], fun i _ hn => Below.heap_setCell _ _ _ _ (fun e => hn (by rw [show i = g from e]; exact hg))⟩
theorem Fr.sub {vs : List Nat} (h : Fr us w w') (hs : ∀ k ∈ us, k ∈ vs) : Fr vs w w' := ⟨h.os, h.tape, h.output, h.size, fun k hk hn => h.block k hk fun e => hn (hs k e)⟩
/-- what lies below all of them is as it was -/
theorem Fr.below (h : Fr us w w') {B : Nat} (hB : B ≤ w.heap.size) (hu : ∀ k ∈ us, B ≤ k) : Below B w w' :=
  ⟨h.os, h.tape, h.output, h.size, fun k hk => h.block k (by omega) fun e => by have := hu k e; omega⟩
/-- blocks that are newer than the first world don't count -/
theorem Fr.fresh {vs : List Nat} (h : Fr (vs ++ us) w w') (hv : ∀ k ∈ vs, w.heap.size ≤ k) : Fr us w w' :=
  ⟨h.os, h.tape, h.output, h.size, fun k hk hn => h.block k hk fun e => by
    rcases List.mem_append.1 e with e | e
    · have := hv k e; omega
    · exact hn e⟩
end
/-- the world without some blocks -/
def veil (us : List Nat) (w : World) : World := { w with heap := w.heap.mapIdx fun i o => if i ∈ us then .cells #[] 0 else o }
theorem veil_heap {us : List Nat} {w : World} {b : Nat} (h : b ∉ us) : (veil us w).heap[b]? = w.heap[b]? := by
  unfold veil
  rw [Array.getElem?_mapIdx]
  cases hw : w.heap[b]? with
  | none => rfl
  | some o => simp [h]
theorem veil_cell {us : List Nat} {w : World} {b o : Nat} {v : Value} (h : (veil us w).cell? ⟨b, o, none⟩ = some v) : b ∉ us ∧ w.cell? ⟨b, o, none⟩ = some v := by
  by_cases hb : b ∈ us
  · exfalso
    unfold veil at h
    simp only [World.cell?, Array.getElem?_mapIdx] at h
    cases hw : w.heap[b]? with
    | none => rw [hw] at h; simp at h
    | some o => rw [hw] at h; simp [hb] at h
  · refine ⟨hb, ?_⟩
    rwa [World.cell?, veil_heap hb] at h
theorem veil_of {us : List Nat} {w : World} {b o : Nat} {v : Value} (hb : b ∉ us) (h : w.cell? ⟨b, o, none⟩ = some v) : (veil us w).cell? ⟨b, o, none⟩ = some v := by
  rwa [World.cell?, veil_heap hb]
theorem veil_keeps (us : List Nat) (w : World) : Keeps (veil us w) w := fun _ _ _ h => (veil_cell h).2
theorem Fr.keeps {us : List Nat} {w w' : World} (h : Fr us w w') : Keeps (veil us w) (veil us w') := by
  intro b o v hc
  obtain ⟨hb, hc'⟩ := veil_cell hc
  exact veil_of hb ((World.cell?_of_block (w := w) (a := ⟨b, o, none⟩) (h.block b (cell_lt hc') hb)).trans hc')
/-- what is elder than all of them is read without them -/
theorem veil_fresh {w0 w : World} {us : List Nat} (h : Keeps w0 w) (hu : ∀ k ∈ us, w0.heap.size ≤ k) : Keeps w0 (veil us w) := fun b o v hc => by
  have hl := cell_lt hc
  exact veil_of (fun e => by have := hu b e; omega) (h _ _ _ hc)
theorem veil_mono {us vs : List Nat} (w : World) (h : ∀ k ∈ vs, k ∈ us) : Keeps (veil us w) (veil vs w) := fun b o v hc => by
  obtain ⟨hb, hc'⟩ := veil_cell hc
  exact veil_of (fun e => hb (h b e)) hc'

/-- a block of numbers -/
def RowU (w : World) (u : Nat) (U : List Int) : Prop := w.heap[u]? = some (.cells (U.map (Value.int .i64)).toArray 3 (0, 0))
section
variable {us : List Nat} {w w' : World} {u : Nat} {U : List Int}
theorem RowU.lt (h : RowU w u U) : u < w.heap.size := by
  unfold RowU at h
  exact (Array.getElem?_eq_some_iff.1 h).1
theorem RowU.read (h : RowU w u U) {k : Nat} (hk : k < U.length) : w.cell? ⟨u, k, none⟩ = some (.int .i64 U[k]) := by
  rw [cell_of_row w u k _ _ _ h]; simp [hk]
theorem RowU.free (h : RowU w u U) (k : Nat) : w.frozen? ⟨u, k, none⟩ = false := by
  unfold RowU at h
  simp [World.frozen?, h]
theorem RowU.set (h : RowU w u U) (k : Nat) (v : Int) : RowU (w.setCell ⟨u, k, none⟩ (.int .i64 v)) u (U.set k v) := by
  unfold RowU at *
  have hl := (Array.getElem?_eq_some_iff.1 h).1
  simp only [World.setCell, Array.getElem?_modify, if_true, h, Option.map_some]
  simp
theorem RowU.fr (h : RowU w u U) (hf : Fr us w w') (hu : u ∉ us) : RowU w' u U := (hf.block u h.lt hu).trans h
theorem RowU.below (h : RowU w u U) (hb : Below w.heap.size w w') : RowU w' u U := (hb.block u h.lt).trans h
theorem RowU.alloc (h : RowU w u U) (o : Obj) : RowU (w.alloc o) u U := h.below ((Below.refl _ _).new o)
theorem RowU.drew (h : RowU w u U) : RowU w.drew u U := h
theorem RowU.setOther (h : RowU w u U) {g k : Nat} (hg : g ≠ u) (v : Value) : RowU (w.setCell ⟨g, k, none⟩ v) u U := (Below.heap_setCell w ⟨g, k, none⟩ v u (Ne.symm hg)).trans h
end

/-- the places of two terms and their classes, but for what changes -/
structure Cls (z : World) (C u s m : Nat) (l : List Cel) (E : List Int) : Prop where
  cells : ∃ a cap, z.cell? ⟨C, 0, none⟩ = some (.slice a l.length cap) ∧ Row z a cap l
  behind : ∃ a cap, z.cell? ⟨C, 1, none⟩ = some (.slice a E.length cap) ∧ Row z a cap E
  first : z.cell? ⟨C, 2, none⟩ = some (.map (some m))
  up : ∃ cap, l.length ≤ cap ∧ cap ≤ 9223372036854775807 ∧ z.cell? ⟨C, 3, none⟩ = some (.slice (some ⟨u, 0, none⟩) l.length cap)
  size : ∃ cap, l.length ≤ cap ∧ cap ≤ 9223372036854775807 ∧ z.cell? ⟨C, 4, none⟩ = some (.slice (some ⟨s, 0, none⟩) l.length cap)
  us : u ≠ s
theorem Cls.keeps {z z' : World} {C u s m : Nat} {l : List Cel} {E : List Int} (h : Cls z C u s m l E) (hk : Keeps z z') : Cls z' C u s m l E := by
  obtain ⟨⟨a, ca, h0, hr⟩, ⟨b, cb, h1, hr1⟩, h2, ⟨c, hc1, hc2, h3⟩, ⟨d, hd1, hd2, h4⟩, h5⟩ := h
  exact ⟨⟨a, ca, hk _ _ _ h0, hr.keeps hk⟩, ⟨b, cb, hk _ _ _ h1, hr1.keeps hk⟩, hk _ _ _ h2, ⟨c, hc1, hc2, hk _ _ _ h3⟩, ⟨d, hd1, hd2, hk _ _ _ h4⟩, h5⟩

/-! ### the forest of the places -/
/-- r: the place that stands for the class; d: falls on the way there -/
structure Roots (n : Nat) (U : List Int) (r d : Nat → Nat) : Prop where
  len : U.length = n
  up : ∀ x, x < n → ∃ y : Nat, U[x]? = some (y : Int) ∧ y < n ∧ r y = r x ∧ (y ≠ x → d y < d x) ∧ (y = x → r x = x)
  lt : ∀ x, x < n → r x < n
  top : ∀ x, x < n → U[r x]? = some (r x : Int)
section
variable {n : Nat} {U : List Int} {r d : Nat → Nat}
theorem Roots.halve (h : Roots n U r d) {x y z : Nat} (hx : x < n) (hy : U[x]? = some (y : Int)) (hne : y ≠ x) (hz : U[y]? = some (z : Int)) : Roots n (U.set x (z : Int)) r d := by
  obtain ⟨y', e1, hy1, hy2, hy3, _⟩ := h.up x hx
  rw [hy] at e1
  obtain rfl : y = y' := by injection e1 with e1; omega
  obtain ⟨z', e2, hz1, hz2, hz3, _⟩ := h.up y hy1
  rw [hz] at e2
  obtain rfl : z = z' := by injection e2 with e2; omega
  have hdy := hy3 hne
  have hdz : d z < d x := by
    by_cases e : z = y
    · rw [e]; exact hdy
    · have := hz3 e; omega
  have hxl : x < U.length := by rw [h.len]; exact hx
  refine ⟨by rw [List.length_set]; exact h.len, fun q hq => ?_, h.lt, fun q hq => ?_⟩
  · by_cases e : x = q
    · subst e
      refine ⟨z, by rw [List.getElem?_set_self hxl], hz1, hz2.trans hy2, fun _ => hdz, fun e => ?_⟩
      rw [e] at hdz; omega
    · rw [List.getElem?_set_ne e]; exact h.up q hq
  · by_cases e : x = r q
    · exfalso
      have h1 := h.top q hq
      rw [← e, hy] at h1
      injection h1 with h1
      omega
    · rw [List.getElem?_set_ne e]; exact h.top q hq
end
end Go.Proofs.Ytlddglajdcednaa
namespace Go.Proofs.Ytlddglajdcednaa
open Go.RowKit

theorem Cls.up_at {w : World} {C u s m : Nat} {l : List Cel} {E : List Int} {us : List Nat} (h : Cls (veil us w) C u s m l E) :
    ∃ cap, l.length ≤ cap ∧ cap ≤ 9223372036854775807 ∧ w.cell? ⟨C, 3, none⟩ = some (.slice (some ⟨u, 0, none⟩) l.length cap) :=
  let ⟨cap, h1, h2, h3⟩ := h.up; ⟨cap, h1, h2, (veil_cell h3).2⟩

set_option maxHeartbeats 1600000 in
theorem find_any (w : World) {C u s m : Nat} {l : List Cel} {E U : List Int} {r d : Nat → Nat} (hC : Cls (veil [u, s] w) C u s m l E) (hU : RowU w u U) (hR : Roots l.length U r d) (hl : l.length ≤ 1000000) (x : Nat) (hx : x < l.length) :
    Calls Try.prog 65 #[.pointer (some ⟨C, 0, none⟩), .int .i64 x] w fun e w' => e = .returned (.int .i64 (r x)) ∧ ∃ U', RowU w' u U' ∧ Roots l.length U' r d ∧ Fr [u] w w' ∧ w'.heap.size = w.heap.size := by
  have hCu : C ∉ [u, s] := (veil_cell hC.first).1
  obtain ⟨cap, hcap, hcap2, c3⟩ := hC.up_at
  have HU := mkHid hU
  have HR := mkHid hR
  clear hU hR
  go_enter Try.func65, Try.ntmps65
  go_wp2_with fail
  go_loopw [1] (fun i wr => ∃ (k : Nat) (U' : List Int), k < l.length ∧ i = .int .i64 k ∧ Hid (r k = r x) ∧ Hid (RowU wr u U') ∧ Hid (Roots l.length U' r d) ∧ Fr [u] w wr ∧ Hid (wr.heap.size = w.heap.size)) (fun i wr => d (intOf i).toNat)
  case atStart => exact ⟨x, U, hx, rfl, rfl, HU, HR, Fr.refl _ _, rfl⟩
  case round =>
    obtain ⟨k, U', hk, rfl, Hk, HU', HR', hfr, Hsz⟩ := hrel
    have d3 : wr.cell? ⟨C, 3, none⟩ = some (.slice (some ⟨u, 0, none⟩) l.length cap) := (veil_cell (hfr.keeps C 3 _ (veil_of (fun e => hCu (by simp at e; simp [e])) c3))).2
    have hki : (0 : Int) ≤ (k : Int) := by omega
    have hki2 : (k : Int) < (l.length : Int) := by omega
    clear c3
    obtain ⟨y, hy, hyn, hyr, hyd, hye⟩ := HR'.out.up k hk
    have hkU : k < U'.length := by rw [HR'.out.len]; exact hk
    have e0 : wr.cell? ⟨u, k, none⟩ = some (.int .i64 y) := by
      rw [HU'.out.read hkU]
      rw [List.getElem?_eq_getElem hkU] at hy
      rw [Option.some.inj hy]
    by_cases hne : y = k
    · have t1 : ((y : Int) != (k : Int)) = false := by simp [hne]
      have HF : Hid (r x = k) := by rw [Hid, ← Hk.out]; exact hye hne
      have Hne := mkHid hne
      clear hy hyr hyd hye hne
      go_wp2
      go_ret
      exact ⟨ret_int (by rw [HF.out]), U', HU'.out, HR'.out, hfr, Hsz.out⟩
    · have t1 : ((y : Int) != (k : Int)) = true := by simp; omega
      obtain ⟨z, hz, hzn, hzr, hzd, hze⟩ := HR'.out.up y hyn
      have hyU : y < U'.length := by rw [HR'.out.len]; exact hyn
      have e1 : wr.cell? ⟨u, y, none⟩ = some (.int .i64 z) := by
        rw [HU'.out.read hyU]
        rw [List.getElem?_eq_getElem hyU] at hz
        rw [Option.some.inj hz]
      have HR2 := mkHid (HR'.out.halve hk hy hne hz)
      have HK2 : Hid (r z = r x) := by rw [Hid, hzr, hyr]; exact Hk.out
      have HD : Hid (d z < d k) := by
        have h1 := hyd hne
        by_cases e : z = y
        · rw [e]; exact h1
        · have := hzd e; rw [Hid]; omega
      have hyi : (0 : Int) ≤ (y : Int) := by omega
      have hyi2 : (y : Int) < (l.length : Int) := by omega
      have hfz := HU'.out.free k
      have hCk : C ≠ u := fun e => hCu (by simp [e])
      have f0 : ((wr.setCell ⟨u, k, none⟩ (.int .i64 z)).drew).cell? ⟨u, k, none⟩ = some (.int .i64 z) := by
        have h1 := (HU'.out.set k z).read (k := k) (by rw [List.length_set]; exact hkU)
        rw [List.getElem_set_self] at h1
        exact h1
      have f3 : ((wr.setCell ⟨u, k, none⟩ (.int .i64 z)).drew).cell? ⟨C, 3, none⟩ = some (.slice (some ⟨u, 0, none⟩) l.length cap) :=
        (World.cell?_of_block (w := wr) (a := ⟨C, 3, none⟩) (Below.heap_setCell wr ⟨u, k, none⟩ _ C hCk)).trans d3
      have HSZ2 : Hid ((wr.setCell ⟨u, k, none⟩ (.int .i64 z)).drew.heap.size = w.heap.size) := (show (wr.setCell ⟨u, k, none⟩ (.int .i64 z)).heap.size = w.heap.size by simp [World.setCell]; exact Hsz.out)
      clear hy hyr hyd hye hne hz hzr hzd hze hCk
      go_wp2
      go_region_with (fail)
      all_goals
        go_wp2
        go_round
        case rel => exact ⟨z, U'.set k z, hzn, by go_num, HK2, HU'.out.set k z, HR2.out, (hfr.set (by simp) _).drew, HSZ2⟩
        case measure => have := HD.out; simp [intOf]; exact this
end Go.Proofs.Ytlddglajdcednaa
namespace Go.Proofs.Ytlddglajdcednaa
open Go.RowKit

/-- block b of w is a map from int to bool of at most n entries; what is not there is the zero value -/
def MapIB (P : Program) (k e : TypeId) (w : World) (b n : Nat) (f : Int → Bool) : Prop :=
  ∃ D : DataW Unit, w.ownsMap P k (plainElem P e) b n D ∧ ∀ i, (Lit.int .i64 i).wf = true → D.atKey (.int .i64 i) (.lit (.bool false)) = .lit (.bool (f i))
theorem MapIB.made (P : Program) (k e : TypeId) (w : World) : MapIB P k e (w.alloc (.map #[] 0)) w.heap.size 0 (fun _ => false) :=
  ⟨.map [], World.ownsMap_made w P k _, fun _ _ => rfl⟩
section
variable {P : Program} {k e t : TypeId} {w w' : World} {b n : Nat} {f : Int → Bool}
theorem MapIB.lt (h : MapIB P k e w b n f) : b < w.heap.size := let ⟨_, h, _⟩ := h; h.lt
theorem MapIB.kept {row : Option Nat} (h : MapIB P k e w b n f) (hg : w.grownBy w' row) (hne : some b ≠ row) : MapIB P k e w' b n f :=
  let ⟨D, h, hf⟩ := h; ⟨D, h.kept hg hne, hf⟩
theorem MapIB.below (h : MapIB P k e w b n f) (hb : Below w.heap.size w w') : MapIB P k e w' b n f :=
  h.kept (row := none) ⟨hb.os, hb.tape, hb.output, hb.size, fun k hk _ => hb.block k hk⟩ (by simp)
theorem MapIB.alloc (h : MapIB P k e w b n f) (o : Obj) : MapIB P k e (w.alloc o) b n f := let ⟨D, h, hf⟩ := h; ⟨D, h.alloc o, hf⟩
theorem MapIB.mono (h : MapIB P k e w b n f) : MapIB P k e w b (n + 1) f := let ⟨D, h, hf⟩ := h; ⟨D, h.mono (Nat.le_succ _), hf⟩
theorem MapIB.run_lookup (h : MapIB P k e w b n f) (hk : P.underlying k = some (.int .i64)) (ht : P.underlying t = some (.map k e)) (he : P.underlying e = some (.bool)) (hz : (zeroValue e).run P w = .ok (.bool false) w)
    {i : Int} (hi : (Lit.int .i64 i).wf = true) : (Instr.lookup t (.map (some b)) (.int .i64 i) false).run P w = .ok (.bool (f i)) w := by
  obtain ⟨D, h, hf⟩ := h
  obtain ⟨v, ps, hrun, hv⟩ := h.lookup (Go.Maps.int_keyed hk) ht hz (z := .bool false) (zd := .lit (.bool false)) (zp := []) (plainElem_bool he false) (Go.Maps.keyOf_int_mk hk hi)
  rw [hf i hi] at hv
  rw [hrun]
  unfold plainElem at hv
  rw [he] at hv
  cases v <;> simp at hv
  rw [hv.1]
theorem MapIB.wp_lookup {o : Oper} {a : Act} {Q : Exit → Act → World → Prop}
    (m x : Operand) (hop : o.op = Op.lookup t m x false)
    (hk : P.underlying k = some (.int .i64)) (ht : P.underlying t = some (.map k e)) (he : P.underlying e = some (.bool)) (hz : (zeroValue e).run P w = .ok (.bool false) w)
    (hm : a.eval m = .map (some b)) (h : MapIB P k e w b n f) (i : Int) (hx : a.eval x = .int .i64 i) (hi : (Lit.int .i64 i).wf = true) {K : Act → World → Prop}
    (hK : K (a.put o.dst (.bool (f i))) w) :
    o.wp P a w K Q := by
  unfold Oper.wp
  simp [execOp, hop, hm, hx, h.run_lookup hk ht he hz hi, Result.andThen]
  exact hK
theorem MapIB.wpl_lookup {ops : Array Oper} {rest : List Oper} {o : Oper} {a : Act} {Q : Exit → Act → World → Prop}
    (hg : o.guard = none) (m x : Operand) (hop : o.op = Op.lookup t m x false)
    (hk : P.underlying k = some (.int .i64)) (ht : P.underlying t = some (.map k e)) (he : P.underlying e = some (.bool)) (hz : (zeroValue e).run P w = .ok (.bool false) w)
    (hm : a.eval m = .map (some b)) (h : MapIB P k e w b n f) (i : Int) (hx : a.eval x = .int .i64 i) (hi : (Lit.int .i64 i).wf = true)
    (hK : wpList P ops Q rest (a.put o.dst (.bool (f i))) w) :
    wpList P ops Q (o :: rest) a w := by
  refine wpList_plain hg fun K' hK' => ?_
  unfold Oper.wp
  simp [execOp, hop, hm, hx, h.run_lookup hk ht he hz hi, Result.andThen]
  exact hK' _ _ hK
theorem MapIB.put_at {D : DataW Unit} (hD : Go.Maps.IsMap D) (hf : ∀ i, (Lit.int .i64 i).wf = true → D.atKey (.int .i64 i) (.lit (.bool false)) = .lit (.bool (f i))) (i : Int) (x : Bool) :
    ∀ j, (Lit.int .i64 j).wf = true → (D.put (.int .i64 i) (.lit (.bool x))).atKey (.int .i64 j) (.lit (.bool false)) = .lit (.bool (if j = i then x else f j)) := by
  intro j hj
  by_cases e : j = i
  · subst e; rw [if_pos rfl]; exact Go.Maps.atKey_put_same hD (by simp [WideAt.IsKeyLit]) _ _
  · rw [if_neg e, ← hf j hj]; exact Go.Maps.atKey_put_other (by simp; exact e) _ _
theorem MapIB.wpl_update {ops : Array Oper} {rest : List Oper} {o : Oper} {a : Act} {Q : Exit → Act → World → Prop}
    (hg : o.guard = none) (m x y : Operand) (hop : o.op = Op.mapUpdate t m x y)
    (hk : P.underlying k = some (.int .i64)) (ht : P.underlying t = some (.map k e)) (he : P.underlying e = some (.bool))
    (hm : a.eval m = .map (some b)) (h : MapIB P k e w b n f) (hn : n < 9223372036854775807) (i : Int) (hx : a.eval x = .int .i64 i) (hi : (Lit.int .i64 i).wf = true) (z : Bool) (hy : a.eval y = .bool z)
    (hK : ∀ w', MapIB P k e w' b (n + 1) (fun j => if j = i then z else f j) → w.grownBy w' (some b) → wpList P ops Q rest (a.put o.dst undef) w') :
    wpList P ops Q (o :: rest) a w := by
  obtain ⟨D, h, hf⟩ := h
  refine wpList_mapUpdate_own w hg m x y t hop k e (Go.Maps.int_keyed hk) ht _ b n D hm h (by unfold maxLen; omega) _ _ _ hx hy (Go.Maps.keyOf_int_mk hk hi) (.lit (.bool z)) [] (plainElem_bool he z) ?_
  intro w' h' hg'
  exact hK w' ⟨_, h', MapIB.put_at h.isMap hf i z⟩ hg'
end

/-- block b of w is a map from int to int of at most n entries; what is not there is the zero value -/
def MapII (P : Program) (k e : TypeId) (w : World) (b n : Nat) (f : Int → Int) : Prop :=
  ∃ D : DataW Unit, w.ownsMap P k (plainElem P e) b n D ∧ ∀ i, (Lit.int .i64 i).wf = true → D.atKey (.int .i64 i) (.lit (.int .i64 0)) = .lit (.int .i64 (f i))
theorem MapII.made (P : Program) (k e : TypeId) (w : World) : MapII P k e (w.alloc (.map #[] 0)) w.heap.size 0 (fun _ => 0) :=
  ⟨.map [], World.ownsMap_made w P k _, fun _ _ => rfl⟩
section
variable {P : Program} {k e t : TypeId} {w w' : World} {b n : Nat} {f : Int → Int}
theorem MapII.lt (h : MapII P k e w b n f) : b < w.heap.size := let ⟨_, h, _⟩ := h; h.lt
theorem MapII.kept {row : Option Nat} (h : MapII P k e w b n f) (hg : w.grownBy w' row) (hne : some b ≠ row) : MapII P k e w' b n f :=
  let ⟨D, h, hf⟩ := h; ⟨D, h.kept hg hne, hf⟩
theorem MapII.below (h : MapII P k e w b n f) (hb : Below w.heap.size w w') : MapII P k e w' b n f :=
  h.kept (row := none) ⟨hb.os, hb.tape, hb.output, hb.size, fun k hk _ => hb.block k hk⟩ (by simp)
theorem MapII.alloc (h : MapII P k e w b n f) (o : Obj) : MapII P k e (w.alloc o) b n f := let ⟨D, h, hf⟩ := h; ⟨D, h.alloc o, hf⟩
theorem MapII.mono (h : MapII P k e w b n f) : MapII P k e w b (n + 1) f := let ⟨D, h, hf⟩ := h; ⟨D, h.mono (Nat.le_succ _), hf⟩
theorem MapII.run_lookup (h : MapII P k e w b n f) (hk : P.underlying k = some (.int .i64)) (ht : P.underlying t = some (.map k e)) (he : P.underlying e = some (.int .i64)) (hz : (zeroValue e).run P w = .ok (.int .i64 0) w)
    {i : Int} (hi : (Lit.int .i64 i).wf = true) : (Instr.lookup t (.map (some b)) (.int .i64 i) false).run P w = .ok (.int .i64 (f i)) w := by
  obtain ⟨D, h, hf⟩ := h
  obtain ⟨v, ps, hrun, hv⟩ := h.lookup (Go.Maps.int_keyed hk) ht hz (z := .int .i64 0) (zd := .lit (.int .i64 0)) (zp := []) (plainElem_int he rfl) (Go.Maps.keyOf_int_mk hk hi)
  rw [hf i hi] at hv
  rw [hrun]
  obtain ⟨c, rfl, hc, _⟩ := plainElem_int_inv he hv
  simp at hc
  rw [hc.1]
theorem MapII.wp_lookup {o : Oper} {a : Act} {Q : Exit → Act → World → Prop}
    (m x : Operand) (hop : o.op = Op.lookup t m x false)
    (hk : P.underlying k = some (.int .i64)) (ht : P.underlying t = some (.map k e)) (he : P.underlying e = some (.int .i64)) (hz : (zeroValue e).run P w = .ok (.int .i64 0) w)
    (hm : a.eval m = .map (some b)) (h : MapII P k e w b n f) (i : Int) (hx : a.eval x = .int .i64 i) (hi : (Lit.int .i64 i).wf = true) {K : Act → World → Prop}
    (hK : K (a.put o.dst (.int .i64 (f i))) w) :
    o.wp P a w K Q := by
  unfold Oper.wp
  simp [execOp, hop, hm, hx, h.run_lookup hk ht he hz hi, Result.andThen]
  exact hK
theorem MapII.wpl_lookup {ops : Array Oper} {rest : List Oper} {o : Oper} {a : Act} {Q : Exit → Act → World → Prop}
    (hg : o.guard = none) (m x : Operand) (hop : o.op = Op.lookup t m x false)
    (hk : P.underlying k = some (.int .i64)) (ht : P.underlying t = some (.map k e)) (he : P.underlying e = some (.int .i64)) (hz : (zeroValue e).run P w = .ok (.int .i64 0) w)
    (hm : a.eval m = .map (some b)) (h : MapII P k e w b n f) (i : Int) (hx : a.eval x = .int .i64 i) (hi : (Lit.int .i64 i).wf = true)
    (hK : wpList P ops Q rest (a.put o.dst (.int .i64 (f i))) w) :
    wpList P ops Q (o :: rest) a w := by
  refine wpList_plain hg fun K' hK' => ?_
  unfold Oper.wp
  simp [execOp, hop, hm, hx, h.run_lookup hk ht he hz hi, Result.andThen]
  exact hK' _ _ hK
theorem MapII.put_at {D : DataW Unit} (hD : Go.Maps.IsMap D) (hf : ∀ i, (Lit.int .i64 i).wf = true → D.atKey (.int .i64 i) (.lit (.int .i64 0)) = .lit (.int .i64 (f i))) (i : Int) (x : Int) :
    ∀ j, (Lit.int .i64 j).wf = true → (D.put (.int .i64 i) (.lit (.int .i64 x))).atKey (.int .i64 j) (.lit (.int .i64 0)) = .lit (.int .i64 (if j = i then x else f j)) := by
  intro j hj
  by_cases e : j = i
  · subst e; rw [if_pos rfl]; exact Go.Maps.atKey_put_same hD (by simp [WideAt.IsKeyLit]) _ _
  · rw [if_neg e, ← hf j hj]; exact Go.Maps.atKey_put_other (by simp; exact e) _ _
theorem MapII.wpl_update {ops : Array Oper} {rest : List Oper} {o : Oper} {a : Act} {Q : Exit → Act → World → Prop}
    (hg : o.guard = none) (m x y : Operand) (hop : o.op = Op.mapUpdate t m x y)
    (hk : P.underlying k = some (.int .i64)) (ht : P.underlying t = some (.map k e)) (he : P.underlying e = some (.int .i64))
    (hm : a.eval m = .map (some b)) (h : MapII P k e w b n f) (hn : n < 9223372036854775807) (i : Int) (hx : a.eval x = .int .i64 i) (hi : (Lit.int .i64 i).wf = true) (z : Int) (hy : a.eval y = .int .i64 z) (hz : (Lit.int .i64 z).wf = true)
    (hK : ∀ w', MapII P k e w' b (n + 1) (fun j => if j = i then z else f j) → w.grownBy w' (some b) → wpList P ops Q rest (a.put o.dst undef) w') :
    wpList P ops Q (o :: rest) a w := by
  obtain ⟨D, h, hf⟩ := h
  refine wpList_mapUpdate_own w hg m x y t hop k e (Go.Maps.int_keyed hk) ht _ b n D hm h (by unfold maxLen; omega) _ _ _ hx hy (Go.Maps.keyOf_int_mk hk hi) (.lit (.int .i64 z)) [] (plainElem_int he hz) ?_
  intro w' h' hg'
  exact hK w' ⟨_, h', MapII.put_at h.isMap hf i z⟩ hg'
end
end Go.Proofs.Ytlddglajdcednaa
namespace Go.Proofs.Ytlddglajdcednaa
open Go.RowKit
theorem Try.zeroBool (w : World) : (zeroValue 4).run Try.prog w = .ok (.bool false) w := by kernel_rfl
theorem wf64 {n : Int} (h1 : -9223372036854775808 ≤ n) (h2 : n ≤ 9223372036854775807) : (Lit.int .i64 n).wf = true := WalkArith.wf_i64 ⟨h1, h2⟩

theorem own_ne {w : World} {B e size : Nat} {v : Value} {n : Nat} {xs : List Value} (h : w.ownsRow (B + 1) e size v n xs) : some B ≠ v.ownBlock := by
  intro hv
  have := h.lt B hv.symm
  omega
theorem own_map {w w' : World} {B e size : Nat} {v : Value} {n : Nat} {xs : List Value} (h : w.ownsRow (B + 1) e size v n xs) (hg : w.grownBy w' (some B)) : w'.ownsRow (B + 1) e size v n xs :=
  h.kept hg (.inr (fun e => own_ne h e.symm))
theorem grown_at {w w' : World} {g B : Nat} (hg : w.grownBy w' (some g)) (hB : B ≤ w.heap.size) (h : B ≤ g) : Below B w w' :=
  (Below.refl B w).grown hg hB (fun k hk => by simp at hk; omega)

set_option maxHeartbeats 800000 in
theorem vars_own (a : Option Addr) (cap : Nat) (w : World) (xs : List Cel) (hr : Row w a cap xs) (hl : xs.length ≤ 1000000) :
    Calls Try.prog 40 #[.slice a xs.length cap] w fun e w' => ∃ a' cap', e = .returned (.slice a' (varsL xs).length cap') ∧ w'.ownsRow (w.heap.size + 1) 3 1 (.slice a' (varsL xs).length cap') (varsL xs).length ((varsL xs).map (Value.int .i64)) ∧ Row w' a' cap' (varsL xs) ∧ Below w.heap.size w w' := by
  have hc := hr.le
  have hc2 := hr.max
  have hmm := @run_makeMap Try.prog
  have hm0 := MapIB.made Try.prog 3 4 w
  have hb0 := (Below.refl w.heap.size w).new (.map #[] 0)
  go_enter Try.func40, Try.ntmps40
  go_wp2_with fail
  go_loopw [3, 10] (fun v i wr => ∃ (k : Nat) (acc : List Int) (f : Int → Bool), k ≤ xs.length ∧ acc.length ≤ k ∧ i = .int .i64 k ∧ wr.ownsRow (w.heap.size + 1) 3 1 v acc.length (acc.map (Value.int .i64)) ∧ Below w.heap.size w wr ∧ MapIB Try.prog 3 4 wr w.heap.size k f ∧ Hid (∀ n, f n = decide (n ∈ acc)) ∧ Hid (∀ n ∈ acc, -9223372036854775808 ≤ n ∧ n ≤ 9223372036854775807) ∧ Hid (varsL xs = varsGo acc (xs.drop k))) (fun v i wr => xs.length - (intOf i).toNat)
  case atStart => exact ⟨0, [], _, Nat.zero_le _, Nat.zero_le _, rfl, World.ownsRow_nil _ _ _ _, hb0, hm0, by simp [Hid], by simp [Hid], rfl⟩
  case round =>
    obtain ⟨k, acc, f, hk, hak, rfl, hown, hbl, hmap, HF, HA, HS⟩ := hrel
    by_cases hlt : k < xs.length
    · obtain ⟨b, off, rfl, hb, hat⟩ := hr.cases.resolve_left (fun e => by simp [e] at hlt)
      obtain ⟨c0, c1, c2, hf⟩ := cel_at hat hbl hlt
      have hst := varsGo_step acc xs k hlt
      by_cases h1 : xs[k].k = 1
      · have t1 : (xs[k].k == 1) = true := by simp [h1]
        have hlk : ∀ o, (Instr.lookup 96 (.map (some w.heap.size)) (.int .i64 xs[k].n) false).run Try.prog (wr.alloc o) = .ok (.bool (decide (xs[k].n ∈ acc))) (wr.alloc o) := fun o => by
          rw [← HF.out]
          exact (hmap.alloc o).run_lookup Try.underlying3 Try.underlying96 Try.underlying4 (Try.zeroBool _) (wf64 hf.n1 hf.n2)
        by_cases h2 : xs[k].n ∈ acc
        · have HT : Hid (varsL xs = varsGo acc (xs.drop (k + 1))) := by rw [Hid, HS.out, hst, if_neg (by simp [h2])]
          rw [decide_eq_true h2] at hlk
          clear h1 h2 HS hst
          go_wp2
          go_round
          case rel => exact ⟨k + 1, acc, f, by omega, by omega, by go_num, hown.alloc _, hbl.new _, (hmap.alloc _).mono, HF, HA, HT⟩
          case measure => simp [intOf]; omega
        · have HT : Hid (varsL xs = varsGo (acc ++ [xs[k].n]) (xs.drop (k + 1))) := by rw [Hid, HS.out, hst, if_pos ⟨h1, h2⟩]
          have HF' : Hid (∀ n, (if n = xs[k].n then true else f n) = decide (n ∈ acc ++ [xs[k].n])) := by
            intro n
            by_cases e : n = xs[k].n
            · simp [e]
            · rw [if_neg e, HF.out]; simp [e]
          rw [decide_eq_false h2] at hlk
          clear h1 h2 HS hst
          go_wp2_with (first
            | (at_mapUpdate; refine (hmap.alloc _).wpl_update rfl _ _ _ rfl Try.underlying3 Try.underlying96 Try.underlying4 rfl (by omega) xs[k].n rfl (wf64 hf.n1 hf.n2) true rfl ?_; intro w1 hmap1 hg1; have q2 : w1.cell? ⟨wr.heap.size, 2, none⟩ = some (.int .i64 xs[k].n) := hg1.cell (by go_simp) (by have := hbl.size; have := hmap.lt; simp; omega); have hown1 := own_map (hown.alloc (.cells #[.int .i64 xs[k].k, .string xs[k].s, .int .i64 xs[k].n] 42)) hg1; have hbl1 := (hbl.new _).trans (grown_at hg1 (Nat.le_trans hbl.size (by simp)) (Nat.le_refl _)))
            | (at_builtin; refine wpList_app rfl _ _ 36 rfl (w.heap.size + 1) 3 1 8 _ Try.underlying36 Try.infoInt rfl (by decide) (by decide) _ acc.length _ rfl (hown1.alloc _) (some ⟨_, 0, none⟩) 1 1 [.int .i64 xs[k].n] rfl (src_new _ #[.int .i64 xs[k].n] _ 1 rfl (by simp [Value.oneCell'])) (by omega) (by have := hmap1.lt; simp; omega) ?_; intro v' w2 hown2 hg2 hb2))
          go_round
          case rel => exact ⟨k + 1, acc ++ [xs[k].n], _, by omega, by simp; omega, by go_num, by simpa using hown2, (hbl1.new _).trans (hb2.mono (by omega)), (hmap1.alloc _).kept hg2 (own_ne hown1), HF', out_fit HA.out hf.n1 hf.n2, HT⟩
          case measure => simp [intOf]; omega
      · have t1 : (xs[k].k == 1) = false := by simp [h1]
        have HT : Hid (varsL xs = varsGo acc (xs.drop (k + 1))) := by rw [Hid, HS.out, hst, if_neg (fun h => h1 h.1)]
        clear h1 HS hst
        go_wp2
        go_round
        case rel => exact ⟨k + 1, acc, f, by omega, by omega, by go_num, hown.alloc _, hbl.new _, (hmap.alloc _).mono, HF, HA, HT⟩
        case measure => simp [intOf]; omega
    · have HT : Hid (varsL xs = acc) := by rw [Hid, HS.out, List.drop_eq_nil_of_le (by omega)]; rfl
      obtain ⟨a', cap', rfl, hrow⟩ := own_rowI hown HA.out
      clear HS
      go_wp2
      go_ret
      exact ⟨a', cap', by rw [HT.out]; rfl, by rw [HT.out]; exact hown, by rw [HT.out]; exact hrow, hbl⟩
theorem vars_any (a : Option Addr) (cap : Nat) (w : World) (xs : List Cel) (hr : Row w a cap xs) (hl : xs.length ≤ 1000000) :
    Calls Try.prog 40 #[.slice a xs.length cap] w fun e w' => ∃ a' cap', e = .returned (.slice a' (varsL xs).length cap') ∧ Row w' a' cap' (varsL xs) ∧ Below w.heap.size w w' :=
  (vars_own a cap w xs hr hl).mono fun _ _ ⟨a', cap', he, _, hr', hb⟩ => ⟨a', cap', he, hr', hb⟩
end Go.Proofs.Ytlddglajdcednaa
namespace Go.Proofs.Ytlddglajdcednaa
open Go.RowKit

set_option maxHeartbeats 400000 in
theorem isnanI_any (a : Int) (w : World) :
    Calls Try.prog 109 #[.int .i64 a] w fun e w' => e = .returned (.bool false) ∧ w = w' := by
  go_enter Try.func109, Try.ntmps109
  go_wp2
  go_ret
  exact ⟨rfl, rfl⟩
def cmpI (a b : Int) : Int := if a < b then -1 else if b < a then 1 else 0
theorem bytesLess_irrefl (l : List UInt8) : Op.bytesLess l l = false := by
  induction l with
  | nil => rfl
  | cons a l ih => simp [Op.bytesLess, ih]
def cmpS (s t : ByteArray) : Int := if Op.bytesLess s.toList t.toList then -1 else if s = t then 0 else 1
def cellCmp (x y : Cel) : Int := if x.k = y.k then (if x.n = y.n then cmpS x.s y.s else cmpI x.n y.n) else cmpI x.k y.k
def compP : List Cel → List Cel → Int
  | [], [] => 0
  | [], _ :: _ => -1
  | _ :: _, [] => 1
  | x :: xs, y :: ys => if x = y then compP xs ys else cellCmp x y
theorem compP_step {xs ys : List Cel} {k : Nat} (hx : k < xs.length) (hy : k < ys.length) : compP (xs.drop k) (ys.drop k) = if xs[k] = ys[k] then compP (xs.drop (k + 1)) (ys.drop (k + 1)) else cellCmp xs[k] ys[k] := by
  rw [List.drop_eq_getElem_cons hx, List.drop_eq_getElem_cons hy]; rfl
theorem compP_end {xs ys : List Cel} {k : Nat} (h : k = min xs.length ys.length) : compP (xs.drop k) (ys.drop k) = cmpI xs.length ys.length := by
  by_cases hx : xs.length ≤ k
  · rw [List.drop_eq_nil_of_le hx]
    by_cases hy : ys.length ≤ k
    · rw [List.drop_eq_nil_of_le hy]; unfold cmpI compP; rw [if_neg (by omega), if_neg (by omega)]
    · rw [List.drop_eq_getElem_cons (by omega : k < ys.length)]; unfold cmpI compP; rw [if_pos (by omega)]
  · have hy : ys.length ≤ k := by omega
    rw [List.drop_eq_nil_of_le hy, List.drop_eq_getElem_cons (by omega : k < xs.length)]; unfold cmpI compP; rw [if_neg (by omega), if_pos (by omega)]
theorem min_i (a b : Nat) : min (a : Int) b = ((min a b : Nat) : Int) := by omega

end Go.Proofs.Ytlddglajdcednaa
namespace Go.Proofs.Ytlddglajdcednaa
open Go.RowKit

set_option maxHeartbeats 400000 in
theorem run_eql_cel (x y : Cel) (w : World) : (binOp .eql 42 (.agg #[.int .i64 x.k, .string x.s, .int .i64 x.n]) (.agg #[.int .i64 y.k, .string y.s, .int .i64 y.n])).run Try.prog w = .ok (.bool (decide (x = y))) w := by
  by_cases h1 : x.k = y.k
  · by_cases h2 : x.s = y.s
    · by_cases h3 : x.n = y.n
      · go_simp
        exact (Cel.eq_iff x y).2 ⟨h1, h2, h3⟩
      · have h4 : ¬ x = y := fun e => h3 (by rw [e])
        have h5 : (x.n == y.n) = false := by simp [h3]
        go_simp
    · have h4 : ¬ x = y := fun e => h2 (by rw [e])
      have h5 : (x.s.toList == y.s.toList) = false := by simp [toList_inj, h2]
      go_simp
  · have h4 : ¬ x = y := fun e => h1 (by rw [e])
    have h5 : (x.k == y.k) = false := by simp [h1]
    go_simp

def compR : List Cel → List Cel → Int
  | x :: xs, y :: ys => if x = y then compR xs ys else cellCmp x y
  | _, _ => 0
theorem compR_step {xs ys : List Cel} {k : Nat} (hx : k < xs.length) (hy : k < ys.length) : compR (xs.drop k) (ys.drop k) = if xs[k] = ys[k] then compR (xs.drop (k + 1)) (ys.drop (k + 1)) else cellCmp xs[k] ys[k] := by
  rw [List.drop_eq_getElem_cons hx, List.drop_eq_getElem_cons hy]; rfl
theorem compR_end {xs ys : List Cel} {k : Nat} (h : xs.length ≤ k ∨ ys.length ≤ k) : compR (xs.drop k) (ys.drop k) = 0 := by
  rcases h with h | h
  · rw [List.drop_eq_nil_of_le h]; simp [compR]
  · rw [List.drop_eq_nil_of_le h]; cases xs.drop k <;> simp [compR]
theorem cmp_neg {x y : Cel} (h : x.k < y.k ∨ x.k = y.k ∧ (x.n < y.n ∨ x.n = y.n ∧ Op.bytesLess x.s.toList y.s.toList = true)) : cellCmp x y = -1 := by
  unfold cellCmp cmpI cmpS
  rcases h with h | ⟨h1, h | ⟨h2, h3⟩⟩
  · rw [if_neg (by omega), if_pos h]
  · rw [if_pos h1, if_neg (by omega), if_pos h]
  · rw [if_pos h1, if_pos h2, if_pos h3]
theorem cmp_pos {x y : Cel} (he : ¬ x = y) (h1 : ¬ x.k < y.k) (h : ¬ x.k = y.k ∨ ¬ x.n < y.n ∧ (¬ x.n = y.n ∨ Op.bytesLess x.s.toList y.s.toList = false)) : cellCmp x y = 1 := by
  unfold cellCmp cmpI cmpS
  by_cases h2 : x.k = y.k
  · rw [if_pos h2]
    obtain ⟨h3, h4⟩ := h.resolve_left (fun h => h h2)
    by_cases h5 : x.n = y.n
    · rw [if_pos h5, if_neg (by rw [h4.resolve_left (fun h => h h5)]; simp)]
      rw [if_neg]
      intro e
      exact he ((Cel.eq_iff x y).2 ⟨h2, e, h5⟩)
    · rw [if_neg h5, if_neg h3, if_pos (by omega)]
  · rw [if_neg h2, if_neg h1, if_pos (by omega)]

theorem ground_take {xs : List Cel} {k : Nat} (h : k < xs.length) (h1 : groundB (xs.take k) = true) (h2 : ¬ xs[k].k = 1) : groundB (xs.take (k + 1)) = true := by
  rw [List.take_succ_eq_append_getElem h]
  unfold groundB at h1 ⊢
  rw [List.all_append, h1]; simp [h2]
theorem ground_bad {xs : List Cel} {k : Nat} (h : k < xs.length) (h2 : xs[k].k = 1) : groundB xs = false := by
  unfold groundB
  rw [List.all_eq_false]
  exact ⟨xs[k], List.getElem_mem h, by simp [h2]⟩

set_option maxHeartbeats 400000 in
theorem refground_any (a : Option Addr) (cap : Nat) (w : World) (xs : List Cel) (hx : Row w a cap xs) (hl : xs.length ≤ 1000000) :
    Calls Try.prog 28 #[.slice a xs.length cap] w fun e w' => e = .returned (.bool (groundB xs)) ∧ Below w.heap.size w w' := by
  have HE : Hid (groundB xs = (((varsL xs).length : Int) == 0)) := by
    rw [Hid, ground_vars]; by_cases h : (varsL xs).length = 0 <;> simp [h]
  have hvl := varsGo_length xs []
  go_enter Try.func28, Try.ntmps28
  go_wp2_with (go_at_call 24; refine (refvars_any a cap _ xs hx hl).mono ?_; rintro e w' ⟨a', cap', rfl, hr', hb1⟩)
  go_ret
  exact ⟨ret_bool HE.out.symm, hb1⟩
end Go.Proofs.Ytlddglajdcednaa
namespace Go.Proofs.Ytlddglajdcednaa
open Go.RowKit

theorem sk_pos {m : Nat} {l r : List Cel} (h : sk (m + 1) l = some r) : r.length < l.length := by
  cases l with
  | nil => simp [sk] at h
  | cons c l =>
    simp only [sk] at h
    split at h
    · have := (sk_suffix _ _ _ h).1; simp; omega
    · cases h
theorem right_sk {xs : List Cel} (h : rightB xs = true) : ∃ c l, xs = c :: l ∧ cellOk c = true ∧ sk (ar c) l = some [] ∧ xs.length ≤ 200 := by
  simp only [rightB, Bool.and_eq_true, decide_eq_true_eq] at h
  obtain ⟨h1, h2⟩ := h
  cases xs with
  | nil => simp [endI, sk] at h2
  | cons c l =>
    refine ⟨c, l, rfl, ?_⟩
    unfold endI at h2
    rw [List.drop_zero] at h2
    have hs : sk 1 (c :: l) = if cellOk c then sk (0 + ar c) l else none := rfl
    rw [hs] at h2
    by_cases hc : cellOk c = true
    · rw [if_pos hc, Nat.zero_add] at h2
      cases hr : sk (ar c) l with
      | none => rw [hr] at h2; simp at h2; omega
      | some r =>
        rw [hr] at h2
        simp only at h2
        have : r.length = 0 := by omega
        exact ⟨hc, by rw [List.eq_nil_of_length_eq_zero this], by omega⟩
    · rw [if_neg hc] at h2; simp at h2; omega
theorem right_of_sk {c : Cel} {l : List Cel} (hc : cellOk c = true) (h : sk (ar c) l = some []) (hl : (c :: l).length ≤ 200) : rightB (c :: l) = true := by
  simp only [rightB, Bool.and_eq_true, decide_eq_true_eq]
  refine ⟨by omega, ?_⟩
  unfold endI
  rw [List.drop_zero]
  have hs : sk 1 (c :: l) = if cellOk c then sk (0 + ar c) l else none := rfl
  rw [hs, if_pos hc, Nat.zero_add, h]; simp

def ar0 : List Cel → Nat
  | [] => 0
  | c :: _ => ar c
/-- where the j-th argument begins -/
def aN (xs : List Cel) (j : Nat) : Nat := (afterI xs 1 j).toNat
def partJ (xs : List Cel) (j : Nat) : List Cel := (xs.drop (aN xs j)).take (aN xs (j + 1) - aN xs j)
def partsL (xs : List Cel) : List (List Cel) := (List.range (ar0 xs)).map (partJ xs)

theorem right_after {xs : List Cel} (h : rightB xs = true) {j : Nat} (hj : j ≤ ar0 xs) : afterI xs 1 j = aN xs j ∧ 1 ≤ aN xs j ∧ aN xs j ≤ xs.length ∧ sk j (xs.drop 1) = some (xs.drop (aN xs j)) := by
  obtain ⟨c, l, rfl, hc, hs, hl⟩ := right_sk h
  simp only [ar0] at hj
  have h1 : sk (j + (ar c - j)) l = some [] := by rw [show j + (ar c - j) = ar c by omega]; exact hs
  rw [sk_add] at h1
  have hd : (c :: l).drop 1 = l := rfl
  cases hr : sk j l with
  | none => rw [hr] at h1; simp at h1
  | some r =>
    have := sk_at (xs := c :: l) (i := 1) (j := j) (r := r) (by simp) (by rw [hd]; exact hr)
    obtain ⟨k1, k2⟩ := this
    have e : afterI (c :: l) 1 j = (c :: l).length - r.length := by unfold afterI; rw [hd, hr]
    have e2 : aN (c :: l) j = (c :: l).length - r.length := by unfold aN; rw [e]; omega
    refine ⟨by rw [e, e2]; simp at k1 ⊢; omega, by rw [e2]; simp at k1 ⊢; omega, by rw [e2]; omega, ?_⟩
    rw [hd, hr, e2, k2]
theorem right_next {xs : List Cel} (h : rightB xs = true) {j : Nat} (hj : j < ar0 xs) : aN xs j < aN xs (j + 1) ∧ endI xs (aN xs j) = aN xs (j + 1) := by
  obtain ⟨a1, a2, a3, a4⟩ := right_after h (Nat.le_of_lt hj)
  obtain ⟨b1, b2, b3, b4⟩ := right_after h (show j + 1 ≤ ar0 xs from hj)
  have hs : sk 1 (xs.drop (aN xs j)) = some (xs.drop (aN xs (j + 1))) := by
    rw [sk_add, a4] at b4; simpa using b4
  have := sk_pos hs
  simp at this
  refine ⟨by omega, ?_⟩
  unfold endI
  rw [hs]; simp; omega
theorem right_last {xs : List Cel} (h : rightB xs = true) : aN xs (ar0 xs) = xs.length := by
  obtain ⟨a1, a2, a3, a4⟩ := right_after h (Nat.le_refl (ar0 xs))
  obtain ⟨c, l, rfl, hc, hs, hl⟩ := right_sk h
  have : sk (ar0 (c :: l)) ((c :: l).drop 1) = some [] := hs
  rw [a4] at this
  have h2 := congrArg List.length (Option.some.inj this)
  simp at h2 a3 ⊢
  omega
theorem parts_succ (xs : List Cel) (j : Nat) : (List.range (j + 1)).map (partJ xs) = (List.range j).map (partJ xs) ++ [partJ xs j] := by
  rw [List.range_succ, List.map_append]; rfl
theorem partJ_length {xs : List Cel} (h : rightB xs = true) {j : Nat} (hj : j < ar0 xs) : (partJ xs j).length = aN xs (j + 1) - aN xs j := by
  obtain ⟨b1, b2, b3, b4⟩ := right_after h (show j + 1 ≤ ar0 xs from hj)
  have := right_next h hj
  unfold partJ; simp; omega
theorem ar_le6 {xs : List Cel} (h : rightB xs = true) : ar0 xs ≤ 6 := by
  obtain ⟨c, l, rfl, hc, _⟩ := right_sk h
  exact ar_le c hc
end Go.Proofs.Ytlddglajdcednaa
namespace Go.Proofs.Ytlddglajdcednaa
open Go.RowKit

theorem Try.infoSl : (Try.prog.info? 22).map (fun i => (i.zero, i.size, i.bytes)) = some (some (.slice none 0 0), 1, 24) := by kernel_rfl
theorem passI_at {xs : List Cel} {j : Nat} (h : rightB xs = true) (hj : j < ar0 xs) : passI xs (aN xs j) = aN xs (j + 1) := by
  unfold passI; rw [if_pos (by omega), Int.toNat_natCast, (right_next h hj).2]
theorem take_drop_len {xs : List Cel} {j : Nat} (h : rightB xs = true) (hj : j < ar0 xs) : aN xs (j + 1) - aN xs j = (partJ xs j).length := (partJ_length h hj).symm

end Go.Proofs.Ytlddglajdcednaa
namespace Go.Proofs.Ytlddglajdcednaa
open Go.RowKit

theorem sameall_ne {xs ys : List (List Cel)} {k : Nat} (hx : k < xs.length) (hy : k < ys.length) (h : ¬ xs[k] = ys[k]) : ¬ xs = ys := by
  intro e; subst e; exact h rfl
end Go.Proofs.Ytlddglajdcednaa
namespace Go.Proofs.Ytlddglajdcednaa
open Go.RowKit

/-- a term as a tree -/
inductive Tm where
  | mk (c : Cel) (args : List Tm)
def Tm.hd : Tm → Cel | .mk c _ => c
def Tm.args : Tm → List Tm | .mk _ ts => ts
mutual
def Tm.flat : Tm → List Cel
  | .mk c ts => c :: flats ts
def flats : List Tm → List Cel
  | [] => []
  | t :: ts => t.flat ++ flats ts
end
mutual
def Tm.ok : Tm → Prop
  | .mk c ts => cellOk c = true ∧ ts.length = ar c ∧ oks ts
def oks : List Tm → Prop
  | [] => True
  | t :: ts => t.ok ∧ oks ts
end
mutual
def Tm.depth : Tm → Nat
  | .mk _ ts => depths ts + 1
def depths : List Tm → Nat
  | [] => 0
  | t :: ts => max t.depth (depths ts)
end
theorem flats_append (a b : List Tm) : flats (a ++ b) = flats a ++ flats b := by
  induction a with
  | nil => simp [flats]
  | cons t a ih => simp [flats, ih]
theorem depths_append (a b : List Tm) : depths (a ++ b) = max (depths a) (depths b) := by
  induction a with
  | nil => simp [depths]
  | cons t a ih => simp [depths, ih, Nat.max_assoc]
theorem oks_append {a b : List Tm} : oks (a ++ b) ↔ oks a ∧ oks b := by
  induction a with
  | nil => simp [oks]
  | cons t a ih => simp [oks, ih, and_assoc]
theorem oks_mem {ts : List Tm} (h : oks ts) : ∀ t ∈ ts, t.ok := by
  induction ts with
  | nil => intro t ht; simp at ht
  | cons t ts ih =>
    intro u hu
    rcases List.mem_cons.1 hu with rfl | hu
    · exact h.1
    · exact ih h.2 u hu
theorem flat_cons (t : Tm) : t.flat = t.hd :: flats t.args := by cases t; rfl
theorem ok_iff (t : Tm) : t.ok ↔ cellOk t.hd = true ∧ t.args.length = ar t.hd ∧ oks t.args := by cases t; rfl
theorem depth_eq (t : Tm) : t.depth = depths t.args + 1 := by cases t; rfl
theorem flat_pos (t : Tm) : 0 < t.flat.length := by rw [flat_cons]; simp

/-- what is skipped is made of terms -/
theorem sk_parse (l : List Cel) : ∀ (m : Nat) (r : List Cel), sk m l = some r → ∃ ts : List Tm, ts.length = m ∧ oks ts ∧ l = flats ts ++ r := by
  induction l with
  | nil =>
    intro m r h
    cases m with
    | zero => simp [sk] at h; subst h; exact ⟨[], rfl, trivial, rfl⟩
    | succ m => simp [sk] at h
  | cons c l ih =>
    intro m r h
    cases m with
    | zero => simp [sk] at h; subst h; exact ⟨[], rfl, trivial, rfl⟩
    | succ m =>
      simp only [sk] at h
      split at h
      · rename_i hc
        obtain ⟨ts, hl, ho, e⟩ := ih _ _ h
        have hsplit : ts = ts.take (ar c) ++ ts.drop (ar c) := (List.take_append_drop _ _).symm
        rw [hsplit] at ho e
        rw [oks_append] at ho
        refine ⟨.mk c (ts.take (ar c)) :: ts.drop (ar c), by simp; omega, ⟨⟨hc, by simp; omega, ho.1⟩, ho.2⟩, ?_⟩
        rw [e, flats_append]
        simp [flats, Tm.flat]
      · cases h
mutual
theorem sk_flat : ∀ (t : Tm), t.ok → ∀ (m : Nat) (r : List Cel), sk (m + 1) (t.flat ++ r) = sk m r
  | .mk c ts, h, m, r => by
    obtain ⟨h1, h2, h3⟩ := h
    simp only [Tm.flat, List.cons_append, sk, h1, if_true]
    rw [← h2, Nat.add_comm, sk_flats ts h3]
theorem sk_flats : ∀ (ts : List Tm), oks ts → ∀ (m : Nat) (r : List Cel), sk (ts.length + m) (flats ts ++ r) = sk m r
  | [], _, m, r => by simp [flats]
  | t :: ts, h, m, r => by
    obtain ⟨h1, h2⟩ := h
    simp only [flats, List.append_assoc, List.length_cons]
    rw [show ts.length + 1 + m = ts.length + m + 1 by omega, sk_flat t h1, sk_flats ts h2]
end
theorem right_flat {t : Tm} (h : t.ok) (hl : t.flat.length ≤ 200) : rightB t.flat = true := by
  have h' := (ok_iff t).1 h
  rw [flat_cons] at hl ⊢
  refine right_of_sk h'.1 ?_ hl
  have := sk_flats t.args h'.2.2 0 []
  rw [List.append_nil, Nat.add_zero, h'.2.1] at this
  rw [this]; rfl
theorem right_tm {xs : List Cel} (h : rightB xs = true) : ∃ t : Tm, t.ok ∧ xs = t.flat ∧ xs.length ≤ 200 := by
  obtain ⟨c, l, rfl, hc, hs, hl⟩ := right_sk h
  obtain ⟨ts, h1, h2, h3⟩ := sk_parse l _ _ hs
  exact ⟨.mk c ts, ⟨hc, h1, h2⟩, by rw [h3]; simp [Tm.flat], hl⟩

/-- where the arguments lie -/
theorem after_flat {t : Tm} (h : t.ok) {j : Nat} (hj : j ≤ t.args.length) : afterI t.flat 1 j = 1 + (flats (t.args.take j)).length := by
  obtain ⟨_, _, h3⟩ := (ok_iff t).1 h
  have hs : t.args = t.args.take j ++ t.args.drop j := (List.take_append_drop _ _).symm
  have ho : oks (t.args.take j) := by rw [hs] at h3; exact (oks_append.1 h3).1
  have e := sk_flats (t.args.take j) ho 0 (flats (t.args.drop j))
  rw [Nat.add_zero, List.length_take, Nat.min_eq_left hj, ← flats_append, ← hs] at e
  unfold afterI
  rw [flat_cons, List.drop_one, List.tail_cons, e]
  simp only [sk, List.length_cons]
  have := congrArg List.length (congrArg flats hs)
  rw [flats_append, List.length_append] at this
  omega
theorem aN_flat {t : Tm} (h : t.ok) {j : Nat} (hj : j ≤ t.args.length) : aN t.flat j = 1 + (flats (t.args.take j)).length := by
  unfold aN; rw [after_flat h hj]; omega
theorem part_flat {t : Tm} (h : t.ok) {j : Nat} (hj : j < t.args.length) : partJ t.flat j = t.args[j].flat := by
  unfold partJ
  rw [aN_flat h (Nat.le_of_lt hj), aN_flat h hj]
  have hs : t.args = t.args.take j ++ (t.args[j] :: t.args.drop (j + 1)) := by
    rw [← List.drop_eq_getElem_cons hj, List.take_append_drop]
  have hf : flats t.args = flats (t.args.take j) ++ (t.args[j].flat ++ flats (t.args.drop (j + 1))) := by
    conv => lhs; rw [hs]
    rw [flats_append]; rfl
  have ht : flats (t.args.take (j + 1)) = flats (t.args.take j) ++ t.args[j].flat := by
    rw [List.take_succ_eq_append_getElem hj, flats_append]; simp [flats]
  rw [ht, flat_cons t, hf, Nat.add_comm 1 (flats (t.args.take j)).length, List.drop_succ_cons, List.drop_left, List.length_append]
  rw [show 1 + ((flats (t.args.take j)).length + t.args[j].flat.length) - ((flats (t.args.take j)).length + 1) = t.args[j].flat.length by omega]
  exact List.take_left
theorem ar0_flat {t : Tm} (h : t.ok) : ar0 t.flat = t.args.length := by
  rw [flat_cons]; exact ((ok_iff t).1 h).2.1.symm
theorem parts_flat {t : Tm} (h : t.ok) : partsL t.flat = t.args.map Tm.flat := by
  unfold partsL
  rw [ar0_flat h]
  refine List.ext_getElem (by simp) (fun j h1 h2 => ?_)
  simp at h1
  simp [part_flat h h1]
theorem flat_arg_lt {t : Tm} {u : Tm} (hu : u ∈ t.args) : u.flat.length < t.flat.length := by
  rw [flat_cons t]
  have : ∀ ts : List Tm, u ∈ ts → u.flat.length ≤ (flats ts).length := by
    intro ts h
    induction ts with
    | nil => simp at h
    | cons v ts ih =>
      simp only [flats, List.length_append]
      rcases List.mem_cons.1 h with e | h
      · rw [e]; omega
      · have := ih h; omega
  have := this _ hu
  simp only [List.length_cons]; omega
mutual
theorem depth_le : ∀ t : Tm, t.depth ≤ t.flat.length
  | .mk c ts => by
    have := depths_le ts
    simp only [Tm.depth, Tm.flat, List.length_cons]; omega
theorem depths_le : ∀ ts : List Tm, depths ts ≤ (flats ts).length
  | [] => by simp [depths]
  | t :: ts => by
    have h1 := depth_le t
    have h2 := depths_le ts
    simp only [depths, flats, List.length_append]; omega
end
theorem depth_pos (t : Tm) : 1 ≤ t.depth := by rw [depth_eq]; omega
end Go.Proofs.Ytlddglajdcednaa
namespace Go.Proofs.Ytlddglajdcednaa
open Go.RowKit

theorem grown_trans {a b c : World} {r : Option Nat} (h : a.grownBy b r) (k : b.grownBy c r) : a.grownBy c r :=
  ⟨k.os.trans h.os, k.tape.trans h.tape, k.output.trans h.output, Nat.le_trans h.size k.size, fun i hi hn => (k.block i (Nat.lt_of_lt_of_le hi h.size) hn).trans (h.block i hi hn)⟩
theorem grown_set (w : World) (g o : Nat) (v : Value) : w.grownBy (w.setCell ⟨g, o, none⟩ v) (some g) :=
  ⟨rfl, rfl, rfl, by simp [World.setCell], fun k _ hn => Below.heap_setCell w ⟨g, o, none⟩ v k (fun e => hn (by rw [e]))⟩
theorem max_nat (a b : Nat) : ((max a b : Nat) : Int) = if (a : Int) < b then (b : Int) else a := by omega

theorem drop_arg {xs r : List Cel} {i : Nat} {t : Tm} (h : xs.drop i = t.flat ++ r) {k : Nat} (hk : k < t.args.length) : xs.drop (i + 1 + (flats (t.args.take k)).length) = t.args[k].flat ++ (flats (t.args.drop (k + 1)) ++ r) := by
  have hs : t.args = t.args.take k ++ (t.args[k] :: t.args.drop (k + 1)) := by
    rw [← List.drop_eq_getElem_cons hk, List.take_append_drop]
  have hf : flats t.args = flats (t.args.take k) ++ (t.args[k].flat ++ flats (t.args.drop (k + 1))) := by
    conv => lhs; rw [hs]
    rw [flats_append]; rfl
  rw [Nat.add_assoc, ← List.drop_drop, h, flat_cons t, hf, Nat.add_comm 1, List.cons_append, List.drop_succ_cons, List.append_assoc, List.drop_left, List.append_assoc]
theorem depths_take (t : Tm) {k : Nat} (hk : k < t.args.length) : depths (t.args.take (k + 1)) = max (depths (t.args.take k)) t.args[k].depth := by
  rw [List.take_succ_eq_append_getElem hk, depths_append]; simp [depths]
theorem flats_take (t : Tm) {k : Nat} (hk : k < t.args.length) : (flats (t.args.take (k + 1))).length = (flats (t.args.take k)).length + t.args[k].flat.length := by
  rw [List.take_succ_eq_append_getElem hk, flats_append]; simp [flats]
theorem depths_small (t : Tm) (k : Nat) (h : t.flat.length ≤ 1000) : depths (t.args.take k) ≤ 1000 := by
  have h1 := depths_le (t.args.take k)
  have hs : t.args = t.args.take k ++ t.args.drop k := (List.take_append_drop _ _).symm
  have := congrArg List.length (congrArg flats hs)
  rw [flats_append, List.length_append] at this
  rw [flat_cons t, List.length_cons] at h
  omega

theorem args_le6 {t : Tm} (h : t.ok) : t.args.length ≤ 6 := by
  have h := (ok_iff t).1 h
  rw [h.2.1]; exact ar_le _ h.1

end Go.Proofs.Ytlddglajdcednaa
namespace Go.Proofs.Ytlddglajdcednaa
open Go.RowKit

end Go.Proofs.Ytlddglajdcednaa
namespace Go.Proofs.Ytlddglajdcednaa
open Go.RowKit

/-- cells changed one by one: the first k of them -/
def upTo (f : Cel → Cel) (xs : List Cel) (k : Nat) : List Cel := (xs.take k).map f ++ xs.drop k
theorem upTo_length (f : Cel → Cel) (xs : List Cel) (k : Nat) : (upTo f xs k).length = xs.length := by
  simp [upTo]; omega
theorem upTo_zero (f : Cel → Cel) (xs : List Cel) : upTo f xs 0 = xs := by simp [upTo]
theorem upTo_all (f : Cel → Cel) (xs : List Cel) {k : Nat} (h : xs.length ≤ k) : upTo f xs k = xs.map f := by
  simp [upTo, List.take_of_length_le h, List.drop_eq_nil_of_le h]
theorem upTo_at (f : Cel → Cel) (xs : List Cel) {k : Nat} (h : k < xs.length) : (upTo f xs k)[k]? = some xs[k] := by
  unfold upTo
  rw [List.getElem?_append_right (by simp; omega), List.length_map, List.length_take, Nat.min_eq_left (Nat.le_of_lt h), Nat.sub_self, List.getElem?_drop]
  simp
theorem upTo_succ (f : Cel → Cel) (xs : List Cel) {k : Nat} (h : k < xs.length) : upTo f xs (k + 1) = (upTo f xs k).set k (f xs[k]) := by
  unfold upTo
  rw [List.take_succ_eq_append_getElem h, List.map_append, List.drop_eq_getElem_cons h, List.append_assoc]
  rw [List.set_append_right _ _ (by simp; omega), List.length_map, List.length_take, Nat.min_eq_left (Nat.le_of_lt h), Nat.sub_self]
  rfl
theorem upTo_same (f : Cel → Cel) (xs : List Cel) {k : Nat} (h : k < xs.length) (e : f xs[k] = xs[k]) : upTo f xs (k + 1) = upTo f xs k := by
  rw [upTo_succ f xs h, e]
  refine List.ext_getElem? fun i => ?_
  rw [List.getElem?_set]
  split
  · rename_i hi
    subst hi
    rw [if_pos (by rw [upTo_length]; exact h), upTo_at f xs h]
  · rfl
theorem flat_set (xs : List Cel) (i : Nat) (hi : i < xs.length) (m : Int) : (flat xs).set (i * 3 + 2) (.int .i64 m) = flat (xs.set i { xs[i] with n := m }) := by
  induction xs generalizing i with
  | nil => simp at hi
  | cons c xs ih =>
    cases i with
    | zero => simp [flat]
    | succ i =>
      have := ih i (by simpa using hi)
      have hf : flat (c :: xs) = .int .i64 c.k :: .string c.s :: .int .i64 c.n :: flat xs := rfl
      rw [hf, show (i + 1) * 3 + 2 = i * 3 + 2 + 1 + 1 + 1 by omega]
      simp only [List.set_cons_succ, List.getElem_cons_succ]
      rw [this]; rfl
theorem wrap64_range (n : Int) : -9223372036854775808 ≤ wrap64 n ∧ wrap64 n ≤ 9223372036854775807 := by
  unfold wrap64; omega
/-- one variable shifted -/
def shiftC (d : Int) (c : Cel) : Cel := if c.k = 1 then { c with n := wrap64 (c.n + d) } else c
def shiftL (xs : List Cel) (d : Int) : List Cel := if rightB (xs.map (shiftC d)) then xs.map (shiftC d) else []
theorem shiftC_fit {d : Int} {c : Cel} (h : c.fit) : (shiftC d c).fit := by
  unfold shiftC
  have hw := wrap64_range (c.n + d)
  split
  · exact ⟨h.k1, h.k2, hw.1, hw.2, h.s⟩
  · exact h
theorem upTo_fit {f : Cel → Cel} {xs : List Cel} {k : Nat} (hf : ∀ c ∈ xs, c.fit) (h : ∀ c : Cel, c.fit → (f c).fit) : ∀ c ∈ upTo f xs k, c.fit := by
  intro c hc
  unfold upTo at hc
  rcases List.mem_append.1 hc with h1 | h1
  · obtain ⟨d, hd, rfl⟩ := List.mem_map.1 h1
    exact h d (hf d (List.mem_of_mem_take hd))
  · exact hf c (List.mem_of_mem_drop h1)
/-- a row of the call's own that holds something -/
theorem own_form {w : World} {B e size : Nat} {v : Value} {n : Nat} {vs : List Value} (h : w.ownsRow B e size v n vs) (hn : 0 < n) :
    ∃ g cap, v = .slice (some ⟨g, 0, none⟩) n cap ∧ B ≤ g ∧ g < w.heap.size ∧ n ≤ cap ∧ cap ≤ 9223372036854775807 := by
  rcases h.2 with ⟨_, h0⟩ | ⟨g, cap, cur, rfl, hb, hg, hc, hm, _⟩
  · omega
  · exact ⟨g, cap, rfl, hb, (Array.getElem?_eq_some_iff.1 hg).1, hc, by unfold maxLen at hm; omega⟩
theorem own_cel {w : World} {B e g n cap : Nat} {ys : List Cel} (h : w.ownsRow B e 3 (.slice (some ⟨g, 0, none⟩) n cap) n (flat ys)) {k : Nat} {c : Cel} (hc : ys[k]? = some c) :
    w.cell? ⟨g, k * 3, none⟩ = some (.int .i64 c.k) ∧ w.cell? ⟨g, k * 3 + 1, none⟩ = some (.string c.s) ∧ w.cell? ⟨g, k * 3 + 2, none⟩ = some (.int .i64 c.n) := by
  have hl : k < ys.length := (List.getElem?_eq_some_iff.1 hc).1
  have he : ys[k] = c := by rw [List.getElem?_eq_getElem hl] at hc; exact Option.some.inj hc
  obtain ⟨f0, f1, f2⟩ := flat_at ys k hl
  rw [he] at f0 f1 f2
  exact ⟨own_cells h _ _ f0, own_cells h _ _ f1, own_cells h _ _ f2⟩
/-- one number stored into a row of cells -/
theorem own_store {w : World} {B e g n cap : Nat} {f : Cel → Cel} {xs : List Cel} {k : Nat} (h : w.ownsRow B e 3 (.slice (some ⟨g, 0, none⟩) n cap) n (flat (upTo f xs k))) (hk : k < xs.length) {m : Int} (hf : f xs[k] = ⟨xs[k].k, xs[k].s, m⟩) :
    (w.setCell ⟨g, k * 3 + 2, none⟩ (.int .i64 m)).ownsRow B e 3 (.slice (some ⟨g, 0, none⟩) n cap) n (flat (upTo f xs (k + 1))) := by
  have := (h.stored (k * 3 + 2) (.int .i64 m)).1
  have hl : k < (upTo f xs k).length := by rw [upTo_length]; exact hk
  have he : (upTo f xs k)[k] = xs[k] := by
    have := upTo_at f xs hk; rw [List.getElem?_eq_getElem hl] at this; exact Option.some.inj this
  rw [flat_set _ _ hl, he] at this
  have hf' : f xs[k] = { xs[k] with n := m } := hf
  rw [← hf', ← upTo_succ f xs hk] at this
  exact this
theorem own_free {w : World} {B e size g n cap : Nat} {vs : List Value} (h : w.ownsRow B e size (.slice (some ⟨g, 0, none⟩) n cap) n vs) (j : Nat) : w.frozen? ⟨g, j, none⟩ = false := h.frozenAt j
end Go.Proofs.Ytlddglajdcednaa
namespace Go.Proofs.Ytlddglajdcednaa
open Go.RowKit

set_option maxHeartbeats 1600000 in
theorem refshift_any (a : Option Addr) (cap : Nat) (d : Int) (w : World) (xs : List Cel) (hr : Row w a cap xs) (hl : xs.length ≤ 1000000) (h0 : 0 < xs.length) :
    Calls Try.prog 29 #[.slice a xs.length cap, .int .i64 d] w fun e w' => ∃ a' cap', e = .returned (.slice a' (shiftL xs d).length cap') ∧ Row w' a' cap' (shiftL xs d) ∧ Below w.heap.size w w' := by
  have hm := hr.max
  have hle := hr.le
  have hfit := mkHid hr.fit
  have hm0 := World.ownsRow_made (base := w.heap.size) (e := 42) (size := 3) w #[] 0 (Nat.le_refl _) (by unfold maxLen; omega) rfl
  have hb0 := (Below.refl w.heap.size w).new (.cells #[] 42)
  go_enter Try.func29, Try.ntmps29
  go_wp2_with
    (at_builtin; refine wpList_app rfl _ _ 22 rfl w.heap.size 42 3 32 _ Try.underlying22 Try.infoCell rfl (by decide) (by decide) _ 0 [] rfl hm0 a xs.length cap (flat xs) rfl ((hr.below hb0).src) (by omega) (by simp) ?_; intro v w1 hown _ hb1')
  rw [Nat.zero_add, List.nil_append] at hown
  have hb1 := hb0.trans hb1'
  obtain ⟨g, cp, rfl, hg1, hg2, hg3, hg4⟩ := own_form hown h0
  go_loopw [6] (fun i wr => ∃ k : Nat, k ≤ xs.length ∧ i = .int .i64 k ∧ wr.ownsRow w.heap.size 42 3 (.slice (some ⟨g, 0, none⟩) xs.length cp) xs.length (flat (upTo (shiftC d) xs k)) ∧ Below w.heap.size w wr) (fun i wr => xs.length - (intOf i).toNat)
  case atStart => exact ⟨0, Nat.zero_le _, rfl, by rw [upTo_zero]; exact hown, hb1⟩
  case round =>
    clear hown
    obtain ⟨k, hk, rfl, hown, hbl⟩ := hrel
    have hgl := (hown.lt g rfl).2
    by_cases hlt : k < xs.length
    · 
      obtain ⟨o0, _, o2⟩ := own_cel hown (upTo_at _ _ hlt)
      have hbx := hbl
      have hox := hown
      have hfz := own_free hown (k * 3 + 2)
      by_cases h1 : xs[k].k = 1
      · have t1 : (xs[k].k == 1) = true := by simp [h1]
        have hs := own_store hown hlt (show shiftC d xs[k] = ⟨xs[k].k, xs[k].s, wrap64 (xs[k].n + d)⟩ from if_pos h1)
        have HS := mkHid hs
        have HB := mkHid (hbx.setCell (p := ⟨g, k * 3 + 2, none⟩) hg1 (.int .i64 (wrap64 (xs[k].n + d))))
        clear h1 hs
        go_wp2
        go_round
        case rel => exact ⟨k + 1, by omega, by go_num, HS.out, HB.out⟩
        case measure => simp [intOf]; omega
      · have t1 : (xs[k].k == 1) = false := by simp [h1]
        have HE := mkHid (upTo_same (shiftC d) xs hlt (if_neg h1))
        clear h1
        go_wp2
        go_round
        case rel => exact ⟨k + 1, by omega, by go_num, by rw [HE.out]; exact hox, hbx⟩
        case measure => simp [intOf]; omega
    · have hu := upTo_all (shiftC d) xs (k := k) (by omega)
      rw [hu] at hown
      have hml : (xs.map (shiftC d)).length = xs.length := by simp
      have hfm : ∀ c ∈ xs.map (shiftC d), c.fit := fun c hc => by
        obtain ⟨c', hc', rfl⟩ := List.mem_map.1 hc
        exact shiftC_fit (hfit.out c' hc')
      obtain ⟨a2, cap2, ev, hrow⟩ := own_row (xs := xs.map (shiftC d)) (by rw [hml]; exact hown) hfm
      rw [hml] at ev
      injection ev with ev1 _ ev2
      subst ev1
      subst ev2
      have hcall := refright_any (some ⟨g, 0, none⟩) cp wr (xs.map (shiftC d)) hrow
      rw [hml] at hcall
      have HC := mkHid hcall
      have HM := mkHid hml
      clear hcall hu hml
      cases hR : rightB (xs.map (shiftC d)) with
      | true =>
        have HZ : Hid (shiftL xs d = xs.map (shiftC d)) := if_pos hR
        have HR := mkHid hR
        clear hR
        go_wp2_with (go_at_call 32; refine HC.out.mono ?_; rintro e w2 ⟨rfl, hb2⟩; rw [HR.out])
        go_ret
        rw [HZ.out]
        exact ⟨some ⟨g, 0, none⟩, cp, by rw [HM.out]; rfl, hrow.below hb2, hbl.then hb2⟩
      | false =>
        have HZ : Hid (shiftL xs d = []) := if_neg (by rw [hR]; simp)
        have HR := mkHid hR
        clear hR
        go_wp2_with (go_at_call 32; refine HC.out.mono ?_; rintro e w2 ⟨rfl, hb2⟩; rw [HR.out])
        go_ret
        rw [HZ.out]
        exact ⟨none, 0, rfl, Row.empty _ _ _ (by omega) (fun _ => rfl), hbl.then hb2⟩
end Go.Proofs.Ytlddglajdcednaa
namespace Go.Proofs.Ytlddglajdcednaa
open Go.RowKit

theorem varsGo_nodup (xs : List Cel) : ∀ acc : List Int, acc.Nodup → (varsGo acc xs).Nodup := by
  induction xs with
  | nil => intro acc h; exact h
  | cons c l ih =>
    intro acc h
    refine ih _ ?_
    split
    · rename_i hc
      rw [List.nodup_append]
      refine ⟨h, by simp, ?_⟩
      intro a ha b hb
      simp at hb
      subst hb
      intro e; subst e
      exact hc.2 ha
    · exact h
theorem varsGo_sub (xs : List Cel) : ∀ (acc : List Int) (n : Int), n ∈ acc → n ∈ varsGo acc xs := by
  induction xs with
  | nil => intro acc n h; exact h
  | cons c l ih =>
    intro acc n h
    refine ih _ _ ?_
    split
    · exact List.mem_append_left _ h
    · exact h
theorem mem_varsGo (xs : List Cel) : ∀ (acc : List Int), ∀ c ∈ xs, c.k = 1 → c.n ∈ varsGo acc xs := by
  induction xs with
  | nil => intro acc c h; simp at h
  | cons d l ih =>
    intro acc c h hc
    rcases List.mem_cons.1 h with rfl | h
    · simp only [varsGo]
      refine varsGo_sub _ _ _ ?_
      split
      · simp
      · rename_i h1
        by_cases h2 : c.n ∈ acc
        · exact h2
        · exact absurd ⟨hc, h2⟩ h1
    · exact ih _ c h hc
/-- one variable numbered -/
def numC (vs : List Int) (c : Cel) : Cel := if c.k = 1 then ⟨c.k, c.s, placeI vs c.n⟩ else c
def numL (xs : List Cel) : List Cel := xs.map (numC (varsL xs))
theorem placeI_range (vs : List Int) (n : Int) (h : vs.length ≤ 1000000) : -1 ≤ placeI vs n ∧ placeI vs n ≤ 1000000 := by
  unfold placeI
  split
  · have := List.idxOf_le_length (a := n) (l := vs); omega
  · omega
theorem numC_fit {vs : List Int} {c : Cel} (hv : vs.length ≤ 1000000) (h : c.fit) : (numC vs c).fit := by
  unfold numC
  have := placeI_range vs c.n hv
  split
  · exact ⟨h.k1, h.k2, by show -9223372036854775808 ≤ placeI vs c.n; omega, by show placeI vs c.n ≤ 9223372036854775807; omega, h.s⟩
  · exact h
/-- what a map of the first k places says -/
def placeF (vs : List Int) (k : Nat) : Int → Int := fun i => if i ∈ vs.take k then (vs.idxOf i : Int) else 0
theorem placeF_succ {vs : List Int} (hn : vs.Nodup) {k : Nat} (hk : k < vs.length) : (fun j => if j = vs[k] then ((k : Nat) : Int) else placeF vs k j) = placeF vs (k + 1) := by
  funext j
  have hiff : j ∈ vs.take (k + 1) ↔ j ∈ vs.take k ∨ j = vs[k] := by
    rw [List.take_succ_eq_append_getElem hk, List.mem_append, List.mem_singleton]
  unfold placeF
  by_cases e : j = vs[k]
  · have h1 : vs.idxOf vs[k] = k := hn.idxOf_getElem k hk
    rw [if_pos e, if_pos (hiff.2 (.inr e)), e, h1]
  · rw [if_neg e]
    by_cases h2 : j ∈ vs.take k
    · rw [if_pos h2, if_pos (hiff.2 (.inl h2))]
    · rw [if_neg h2, if_neg (fun h => (hiff.1 h).elim h2 e)]
theorem placeF_all {vs : List Int} {k : Nat} (hk : vs.length ≤ k) {i : Int} (hi : i ∈ vs) : placeF vs k i = placeI vs i := by
  unfold placeF placeI
  rw [List.take_of_length_le hk, if_pos hi, if_pos hi]
theorem Try.zeroInt (w : World) : (zeroValue 3).run Try.prog w = .ok (.int .i64 0) w := by kernel_rfl

theorem map_hide {w : World} {P : Program} {k e : TypeId} {b n : Nat} {f : Int → Int} (h : MapII P k e w b n f) : Keeps w (hide (some b) w) := by
  obtain ⟨D, ⟨es, clock, hb, _⟩, _⟩ := h
  intro b' o v hc
  refine hide_of_ne (fun e => ?_) hc
  subst e
  simp [World.cell?, hb] at hc

theorem own_mono {w : World} {B B' e size : Nat} {v : Value} {n : Nat} {vs : List Value} (h : w.ownsRow B e size v n vs) (hB : B' ≤ B) : w.ownsRow B' e size v n vs := by
  refine ⟨h.1, ?_⟩
  rcases h.2 with h | ⟨g, cap, cur, e, hb, rest⟩
  · exact .inl h
  · exact .inr ⟨g, cap, cur, e, Nat.le_trans hB hb, rest⟩

set_option maxHeartbeats 1600000 in
theorem number_any (a : Option Addr) (cap : Nat) (w : World) (xs : List Cel) (hr : Row w a cap xs) (hl : xs.length ≤ 1000000) (h0 : 0 < xs.length) :
    Calls Try.prog 55 #[.slice a xs.length cap] w fun e w' => ∃ a' cap', e = .returned (.slice a' (numL xs).length cap') ∧ Row w' a' cap' (numL xs) ∧ Below w.heap.size w w' := by
  have hm := hr.max
  have hle := hr.le
  have hfit := mkHid hr.fit
  have hmm := @run_makeMap Try.prog
  have hm0 := MapII.made Try.prog 3 3 w
  have hb0 := (Below.refl w.heap.size w).new (.map #[] 0)
  have hvl := varsGo_length xs []
  rw [show varsGo [] xs = varsL xs from rfl, List.length_nil, Nat.zero_add] at hvl
  have HND : Hid ((varsL xs).Nodup) := varsGo_nodup xs [] List.nodup_nil
  have hvf := mkHid (varsGo_fit xs hr.fit [] (by simp))
  rw [show varsGo [] xs = varsL xs from rfl] at hvf
  go_enter Try.func55, Try.ntmps55
  go_wp2_with (go_at_call 40; refine (vars_any a cap _ xs (hr.below hb0) hl).mono ?_; rintro e w1 ⟨av, capv, rfl, hrv, hb1⟩; have hm1 := hm0.below hb1; have hb01 := hb0.then hb1)
  go_loopw [13] (fun i wr => ∃ k : Nat, k ≤ (varsL xs).length ∧ i = .int .i64 k ∧ MapII Try.prog 3 3 wr w.heap.size k (placeF (varsL xs) k) ∧ Below w.heap.size w wr ∧ w1.grownBy wr (some w.heap.size)) (fun i wr => (varsL xs).length - (intOf i).toNat)
  case atStart => exact ⟨0, Nat.zero_le _, rfl, hm1, hb01, ⟨rfl, rfl, rfl, Nat.le_refl _, fun _ _ _ => rfl⟩⟩
  case round =>
    obtain ⟨k, hk, rfl, hmap, hbl, hg1⟩ := hrel
    by_cases hlt : k < (varsL xs).length
    · have hgk : Keeps w1 wr := (map_hide hm1).trans ((grown_keeps hg1).trans (hide_keeps _ _))
      obtain ⟨b, off, rfl, hb, hat⟩ := (hrv.keeps hgk).cases.resolve_left (fun e => by simp [e] at hlt)
      obtain ⟨d0, n1, n2⟩ := int_at hat (Below.refl _ _) hlt
      have HF := mkHid (placeF_succ HND.out hlt)
      go_wp2_with (at_mapUpdate; refine hmap.wpl_update rfl _ _ _ rfl Try.underlying3 Try.underlying77 Try.underlying3 rfl (by omega) (varsL xs)[k] rfl (wf64 n1 n2) k rfl (wf64 (by omega) (by omega)) ?_; intro w2 hmap2 hg2)
      go_round
      case rel => exact ⟨k + 1, by omega, by go_num, by rw [← HF.out]; exact hmap2, hbl.trans (grown_at hg2 hbl.size (Nat.le_refl _)), grown_trans hg1 hg2⟩
      case measure => simp [intOf]; omega
    · obtain rfl : k = (varsL xs).length := by omega
      have HF : Hid (∀ c ∈ xs, c.k = 1 → placeF (varsL xs) (varsL xs).length c.n = placeI (varsL xs) c.n) := fun c hc h1 => placeF_all (Nat.le_refl _) (mem_varsGo xs [] c hc h1)
      generalize placeF (varsL xs) (varsL xs).length = f at hmap HF
      clear hm1
      go_wp2_with (go_at_call 51; refine (clone_any a cap _ xs (hr.below hbl) hl).mono ?_; rintro e w2 ⟨v, rfl, hown, hb2⟩; have hmap2 := hmap.below hb2; have hbl2 := hbl.then hb2; have hmlt := hmap.lt)
      obtain ⟨g, cp, rfl, hg1, hg2, hg3, hg4⟩ := own_form hown h0
      go_loopw [26] (fun i wr => ∃ k : Nat, k ≤ xs.length ∧ i = .int .i64 k ∧ wr.ownsRow (w.heap.size + 1) 42 3 (.slice (some ⟨g, 0, none⟩) xs.length cp) xs.length (flat (upTo (numC (varsL xs)) xs k)) ∧ Below w.heap.size w wr ∧ MapII Try.prog 3 3 wr w.heap.size (varsL xs).length f) (fun i wr => xs.length - (intOf i).toNat)
      case atStart => exact ⟨0, Nat.zero_le _, rfl, by rw [upTo_zero]; exact own_mono hown (by omega), hbl2, hmap2⟩
      case round =>
        clear hown hmap2 hmap
        obtain ⟨k, hk, rfl, hown, hbl, hmap⟩ := hrel
        have hgl := (hown.lt g rfl).2
        have hgb := (hown.lt g rfl).1
        by_cases hlt : k < xs.length
        · obtain ⟨b, off, rfl, hb, hat⟩ := hr.cases.resolve_left (fun e => by simp [e] at hlt)
          obtain ⟨c0, c1, c2, hf⟩ := cel_at hat hbl hlt
          obtain ⟨_, _, o2⟩ := own_cel hown (upTo_at _ _ hlt)
          have hfz := own_free hown (k * 3 + 2)
          by_cases h1 : xs[k].k = 1
          · have t1 : (xs[k].k == 1) = true := by simp [h1]
            have hp := HF.out _ (List.getElem_mem hlt) h1
            have hlk : ∀ o, (Instr.lookup 77 (.map (some w.heap.size)) (.int .i64 xs[k].n) false).run Try.prog (wr.alloc o) = .ok (.int .i64 (placeI (varsL xs) xs[k].n)) (wr.alloc o) := fun o => by
              rw [← hp]
              exact (hmap.alloc o).run_lookup Try.underlying3 Try.underlying77 Try.underlying3 (Try.zeroInt _) (wf64 hf.n1 hf.n2)
            have hs := own_store hown hlt (show numC (varsL xs) xs[k] = ⟨xs[k].k, xs[k].s, placeI (varsL xs) xs[k].n⟩ from if_pos h1)
            have HS := mkHid (hs.alloc (.cells #[.int .i64 xs[k].k, .string xs[k].s, .int .i64 xs[k].n] 42))
            have HB := mkHid ((hbl.setCell (p := ⟨g, k * 3 + 2, none⟩) (by show w.heap.size ≤ g; omega) (.int .i64 (placeI (varsL xs) xs[k].n))).new (.cells #[.int .i64 xs[k].k, .string xs[k].s, .int .i64 xs[k].n] 42))
            have HM := mkHid ((hmap.kept (grown_set wr g (k * 3 + 2) (.int .i64 (placeI (varsL xs) xs[k].n))) (by simp; omega)).alloc (.cells #[.int .i64 xs[k].k, .string xs[k].s, .int .i64 xs[k].n] 42))
            clear h1 hs hp
            go_wp2
            go_round
            case rel => exact ⟨k + 1, by omega, by go_num, HS.out, HB.out, HM.out⟩
            case measure => simp [intOf]; omega
          · have t1 : (xs[k].k == 1) = false := by simp [h1]
            have HE := mkHid (upTo_same (numC (varsL xs)) xs hlt (if_neg h1))
            clear h1
            go_wp2
            go_round
            case rel => exact ⟨k + 1, by omega, by go_num, by rw [HE.out]; exact hown.alloc _, hbl.new _, hmap.alloc _⟩
            case measure => simp [intOf]; omega
        · have hu := upTo_all (numC (varsL xs)) xs (k := k) (by omega)
          rw [hu] at hown
          have hml : (xs.map (numC (varsL xs))).length = xs.length := by simp
          have hfm : ∀ c ∈ xs.map (numC (varsL xs)), c.fit := fun c hc => by
            obtain ⟨c', hc', rfl⟩ := List.mem_map.1 hc
            exact numC_fit (by omega) (hfit.out c' hc')
          obtain ⟨a2, cap2, ev, hrow⟩ := own_row (xs := xs.map (numC (varsL xs))) (by rw [hml]; exact hown) hfm
          rw [hml] at ev
          injection ev with ev1 _ ev2
          subst ev1
          subst ev2
          have HM := mkHid (show (numL xs).length = xs.length from hml)
          clear hu hml
          go_wp2
          go_ret
          exact ⟨some ⟨g, 0, none⟩, cp, by rw [HM.out]; rfl, hrow, hbl⟩
end Go.Proofs.Ytlddglajdcednaa
namespace Go.Proofs.Ytlddglajdcednaa
open Go.RowKit

set_option maxHeartbeats 400000 in
theorem uarguments_any (w : World) (c : Cel) :
    Calls Try.prog 82 #[.agg #[.int .i64 c.k, .string c.s, .int .i64 c.n]] w fun e w' => e = .returned (.int .i64 (arI c)) ∧ Below w.heap.size w w' := by
  have hb := ((Below.refl w.heap.size w).new (.cells #[.int .i64 c.k, .string c.s, .int .i64 c.n] 42))
  by_cases h : c.k = 3
  · have t1 : (c.k != 3) = false := by simp [h]
    have HE : Hid (c.n = arI c) := by unfold arI; rw [if_pos h]; rfl
    clear h
    go_enter Try.func82, Try.ntmps82
    go_wp2
    go_ret
    exact ⟨ret_int HE.out, hb⟩
  · have t1 : (c.k != 3) = true := by simp [h]
    have HE : Hid (0 = arI c) := by unfold arI; rw [if_neg h]; rfl
    clear h
    go_enter Try.func82, Try.ntmps82
    go_wp2
    go_ret
    exact ⟨ret_int HE.out, hb⟩
/-- does a cell give way to another one? -/
def yieldsB (c t : Cel) : Bool := decide (c.k = 1) && (!decide (t.k = 1) || decide (t.n < c.n))
set_option maxHeartbeats 800000 in
theorem yields_any (w : World) (c t : Cel) :
    Calls Try.prog 66 #[.agg #[.int .i64 c.k, .string c.s, .int .i64 c.n], .agg #[.int .i64 t.k, .string t.s, .int .i64 t.n]] w fun e w' => e = .returned (.bool (yieldsB c t)) ∧ Below w.heap.size w w' := by
  have hb := ((Below.refl w.heap.size w).new (.cells #[.int .i64 c.k, .string c.s, .int .i64 c.n] 42)).new (.cells #[.int .i64 t.k, .string t.s, .int .i64 t.n] 42)
  have f0 : ((w.alloc (.cells #[.int .i64 c.k, .string c.s, .int .i64 c.n] 42)).alloc (.cells #[.int .i64 t.k, .string t.s, .int .i64 t.n] 42)).cell? ⟨w.heap.size, 0, none⟩ = some (.int .i64 c.k) := keep (World.cell?_alloc_at _ _ _ 0 rfl) ((Below.refl _ _).new _)
  have f2 : ((w.alloc (.cells #[.int .i64 c.k, .string c.s, .int .i64 c.n] 42)).alloc (.cells #[.int .i64 t.k, .string t.s, .int .i64 t.n] 42)).cell? ⟨w.heap.size, 2, none⟩ = some (.int .i64 c.n) := keep (World.cell?_alloc_at _ _ _ 2 rfl) ((Below.refl _ _).new _)
  by_cases h : c.k = 1
  · have t1 : (c.k == 1) = true := by simp [h]
    by_cases h2 : t.k = 1
    · have t2 : (t.k != 1) = false := by simp [h2]
      by_cases h3 : t.n < c.n
      · have t3 : decide (t.n < c.n) = true := by simp [h3]
        have HE : Hid (true = yieldsB c t) := by unfold yieldsB; simp [h, h2, h3, Hid]
        clear h h2 h3
        go_enter Try.func66, Try.ntmps66
        go_wp2
        go_ret
        exact ⟨ret_bool HE.out, hb⟩
      · have t3 : decide (t.n < c.n) = false := by simp; omega
        have HE : Hid (false = yieldsB c t) := by unfold yieldsB; simp [h, h2, Hid]; omega
        clear h h2 h3
        go_enter Try.func66, Try.ntmps66
        go_wp2
        go_ret
        exact ⟨ret_bool HE.out, hb⟩
    · have t2 : (t.k != 1) = true := by simp [h2]
      have HE : Hid (true = yieldsB c t) := by unfold yieldsB; simp [h, h2, Hid]
      clear h h2
      go_enter Try.func66, Try.ntmps66
      go_wp2
      go_ret
      exact ⟨ret_bool HE.out, hb⟩
  · have t1 : (c.k == 1) = false := by simp [h]
    have HE : Hid (false = yieldsB c t) := by unfold yieldsB; simp [h, Hid]
    clear h
    go_enter Try.func66, Try.ntmps66
    go_wp2
    go_ret
    exact ⟨ret_bool HE.out, hb⟩

/-! ### rows of right terms: each place begins one -/
theorem sk_good : ∀ (l : List Cel) (m : Nat) (r : List Cel), sk m l = some r → ∀ i, i + r.length < l.length → ∃ q, sk 1 (l.drop i) = some q
  | [], m, r, _, i, hi => by simp at hi
  | c :: l, 0, r, h, i, hi => by
    simp [sk] at h; subst h; omega
  | c :: l, m + 1, r, h, i, hi => by
    simp only [sk] at h
    split at h
    · next hc =>
      cases i with
      | zero =>
        rw [Nat.add_comm, sk_add] at h
        cases h2 : sk (ar c) l with
        | none => rw [h2] at h; simp at h
        | some q => exact ⟨q, by simp [sk, hc, h2]⟩
      | succ i => exact sk_good l _ r h i (by simp at hi; omega)
    · cases h
end Go.Proofs.Ytlddglajdcednaa
namespace Go.Proofs.Ytlddglajdcednaa
open Go.RowKit

theorem made_ints (n : Nat) : madeCells (Value.int .i64 0).cells n = Array.replicate n (Value.int .i64 0) := by
  unfold madeCells
  simp only [Value.cells]
  apply Array.ext
  · simp
  · intro i h1 h2
    simp [Nat.mod_one]
/-- make of a slice of numbers -/
theorem wpList_make_ints {P : Program} (w : World) {ops : Array Oper} {rest : List Oper} {o : Oper} {a : Act} {Q : Exit → Act → World → Prop}
    (hg : o.guard = none) (l c : Operand) (t : TypeId) (hop : o.op = Op.makeSlice t l c)
    (e : TypeId) (h1 : P.underlying t = some (.slice e)) (h2 : (P.info? e).map (fun i => (i.zero, i.size, i.bytes)) = some (some (.int .i64 0), 1, 8))
    (n : Nat) (hl : a.eval l = .int .i64 n) (hc : a.eval c = .int .i64 n) (hn : n ≤ 1000000)
    (hK : wpList P ops Q rest (a.put o.dst (.slice (some ⟨w.heap.size, 0, none⟩) n n)) (w.alloc (.cells (Array.replicate n (Value.int .i64 0)) e))) :
    wpList P ops Q (o :: rest) a w := by
  obtain ⟨i, hi, hz0, hz1, hz2⟩ := info_parts h2
  refine wpList_plain hg fun K hK' => ?_
  have hrun := run_make (P := P) w t e i _ h1 hi hz0 .i64 .i64 n n (by omega) (Int.le_refl _) (by rw [hz2]; omega) (by omega)
  rw [hz1, Nat.mul_one, Int.toNat_natCast, made_ints] at hrun
  unfold Oper.wp
  simp [execOp, hop, hl, hc, hrun, Result.andThen]
  exact hK' _ _ hK
theorem RowU.made (w : World) (n : Nat) : RowU (w.alloc (.cells (Array.replicate n (Value.int .i64 0)) 3)) w.heap.size (List.replicate n 0) := by
  unfold RowU
  rw [heap_alloc_new]
  simp

def Good (l : List Cel) : Prop := ∀ i, i < l.length → ∃ q, sk 1 (l.drop i) = some q
def endsL (l : List Cel) : List Int := (List.range l.length).map (endI l)
theorem endsL_length (l : List Cel) : (endsL l).length = l.length := by simp [endsL]
theorem endsL_get {l : List Cel} {i : Nat} (h : i < (endsL l).length) : (endsL l)[i] = endI l i := by simp [endsL]
theorem end_range {l : List Cel} (hG : Good l) {i : Nat} (hi : i < l.length) : (i : Int) + 1 ≤ endI l i ∧ endI l i ≤ l.length := by
  obtain ⟨q, hq⟩ := hG i hi
  obtain ⟨h1, _⟩ := sk_at (Nat.le_of_lt hi) hq
  have h2 := sk_pos (m := 0) hq
  rw [List.length_drop] at h2
  unfold endI; rw [hq]
  show _ ≤ (l.length : Int) - (q.length : Int) ∧ (l.length : Int) - (q.length : Int) ≤ _
  omega
theorem good_cell {l : List Cel} (hG : Good l) {i : Nat} (hi : i < l.length) : cellOk l[i] = true ∧ ∃ q, sk (ar l[i]) (l.drop (i + 1)) = some q ∧ endI l i = (l.length : Int) - q.length := by
  obtain ⟨q, hq⟩ := hG i hi
  have h1 := sk_step 0 l i hi
  rw [Nat.zero_add] at h1
  rw [hq] at h1
  by_cases hc : cellOk l[i] = true
  · rw [if_pos hc, Nat.zero_add] at h1
    exact ⟨hc, q, h1.symm, by unfold endI; rw [hq]⟩
  · rw [if_neg hc] at h1; cases h1
/-- behind the first j arguments of the cell at i -/
theorem good_after {l : List Cel} (hG : Good l) {i : Nat} (hi : i < l.length) {j : Nat} (hj : j ≤ ar l[i]) : (i : Int) + 1 ≤ afterI l (i + 1) j ∧ afterI l (i + 1) j ≤ l.length ∧ (j < ar l[i] → afterI l (i + 1) j < l.length) := by
  obtain ⟨_, q, hq, _⟩ := good_cell hG hi
  rw [show ar l[i] = j + (ar l[i] - j) by omega, sk_add] at hq
  cases h : sk j (l.drop (i + 1)) with
  | none => rw [h] at hq; simp at hq
  | some r =>
    rw [h] at hq
    simp only [Option.bind_some] at hq
    obtain ⟨h1, _⟩ := sk_at (by omega) h
    unfold afterI
    rw [h]
    refine ⟨by show _ ≤ (l.length : Int) - (r.length : Int); omega, by show (l.length : Int) - (r.length : Int) ≤ _; omega, fun hlt => ?_⟩
    show (l.length : Int) - (r.length : Int) < _
    have hm : ar l[i] - j = (ar l[i] - j - 1) + 1 := by omega
    rw [hm] at hq
    have := sk_pos hq
    omega
theorem good_end {l : List Cel} (hG : Good l) {i : Nat} (hi : i < l.length) : endI l i = afterI l (i + 1) (ar l[i]) := by
  obtain ⟨_, q, hq, he⟩ := good_cell hG hi
  rw [he]; unfold afterI; rw [hq]
theorem good_next {l : List Cel} (hG : Good l) {i : Nat} (hi : i < l.length) {j : Nat} (hj : j < ar l[i]) : endI l (afterI l (i + 1) j).toNat = afterI l (i + 1) (j + 1) := by
  have h1 := afterI_succ (xs := l) (i := i + 1) (j := j) (by omega)
  have h2 := (good_after hG hi (Nat.le_of_lt hj)).1
  unfold passI at h1
  rw [if_pos (by omega)] at h1
  exact h1
/-- reckoned from the end down to i -/
def EU (l : List Cel) (i : Nat) : List Int := List.replicate i 0 ++ (endsL l).drop i
theorem EU_length {l : List Cel} {i : Nat} (h : i ≤ l.length) : (EU l i).length = l.length := by
  unfold EU; rw [List.length_append, List.length_replicate, List.length_drop, endsL_length]; omega
theorem EU_set {l : List Cel} {i : Nat} (h : i < l.length) : (EU l (i + 1)).set i (endI l i) = EU l i := by
  unfold EU
  have h1 : i < (endsL l).length := by rw [endsL_length]; exact h
  rw [List.drop_eq_getElem_cons h1, endsL_get h1, List.replicate_succ', List.append_assoc, List.set_append_right _ _ (by simp)]
  simp
theorem EU_get {l : List Cel} {i j : Nat} (hi : i ≤ j) (hj : j < l.length) (h : j < (EU l i).length) : (EU l i)[j] = endI l j := by
  unfold EU at h ⊢
  rw [List.getElem_append_right (by simpa using hi)]
  simp only [List.length_replicate, List.getElem_drop]
  rw [endsL_get]
  congr 1; omega
theorem EU_top (l : List Cel) : EU l l.length = List.replicate l.length 0 := by
  unfold EU; rw [List.drop_of_length_le (by rw [endsL_length]; exact Nat.le_refl _), List.append_nil]
theorem EU_zero (l : List Cel) : EU l 0 = endsL l := by unfold EU; simp

set_option maxHeartbeats 1600000 in
theorem ends_any (a : Option Addr) (cap : Nat) (w : World) (l : List Cel) (hr : Row w a cap l) (hG : Good l) (hl : l.length ≤ 1000000) :
    Calls Try.prog 64 #[.slice a l.length cap] w fun e w' => ∃ g, e = .returned (.slice (some ⟨g, 0, none⟩) l.length l.length) ∧ w.heap.size ≤ g ∧ RowU w' g (endsL l) ∧ Below w.heap.size w w' := by
  have hm := hr.max
  have hle := hr.le
  have HG := mkHid hG
  clear hG
  have hb0 := (Below.refl w.heap.size w).new (.cells (Array.replicate l.length (Value.int .i64 0)) 3)
  have hu0 : RowU (w.alloc (.cells (Array.replicate l.length (Value.int .i64 0)) 3)) w.heap.size (EU l l.length) := by
    rw [EU_top]; exact RowU.made w _
  have HU0 := mkHid hu0
  clear hu0
  go_enter Try.func64, Try.ntmps64
  go_wp2_with (refine wpList_make_ints _ rfl _ _ 36 rfl 3 Try.underlying36 Try.infoInt l.length (by rfl) (by rfl) hl ?_)
  go_loopw [4, 5] (fun v nx wr => ∃ i : Nat, i ≤ l.length ∧ v = .int .i64 ((i : Int) - 1) ∧ Hid (RowU wr w.heap.size (EU l i)) ∧ Below w.heap.size w wr) (fun v nx wr => (intOf v + 1).toNat)
  case atStart => exact ⟨l.length, Nat.le_refl _, by go_num, HU0, hb0⟩
  case round =>
    obtain ⟨i, hi, rfl, HU, hbl⟩ := hrel
    by_cases h0 : i = 0
    · subst h0
      have HE : Hid (RowU wr w.heap.size (endsL l)) := by rw [Hid, ← EU_zero]; exact HU.out
      go_wp2
      go_ret
      exact ⟨w.heap.size, rfl, Nat.le_refl _, HE.out, hbl⟩
    · obtain ⟨p, rfl⟩ : ∃ p, i = p + 1 := ⟨i - 1, by omega⟩
      have hlt : p < l.length := by omega
      have hp0 : (0 : Int) ≤ (p : Int) := by omega
      have hp1 : (p : Int) < (l.length : Int) := by omega
      rw [show ((p + 1 : Nat) : Int) - 1 = (p : Int) by omega]
      obtain ⟨b, off, rfl, hb, hat⟩ := hr.cases.resolve_left (fun e => by simp [e] at hlt)
      obtain ⟨c0, c1, c2, hf⟩ := cel_at hat hbl hlt
      obtain ⟨hcok, _⟩ := good_cell HG.out hlt
      have HA := mkHid (arI_ar hcok)
      have har6 := ar_le _ hcok
      clear hcok
      go_wp2_with (go_at_call 82; refine (uarguments_any _ l[p]).mono ?_; rintro e w2 ⟨rfl, hb2⟩; rw [HA.out])
      have hbl2 := hbl.then hb2
      have HU2 := mkHid (HU.out.below hb2)
      clear c0 c1 c2
      go_loopw [5, 23] (fun nx j wz => ∃ k : Nat, k ≤ ar l[p] ∧ j = .int .i64 k ∧ nx = .int .i64 (afterI l (p + 1) k) ∧ Below w2.heap.size w2 wz) (fun nx j wz => ar l[p] - (intOf j).toNat)
      case atStart => exact ⟨0, Nat.zero_le _, rfl, by rw [afterI_zero (by omega)]; go_num, Below.refl _ _⟩
      case round =>
        obtain ⟨k, hk, rfl, rfl, hbz⟩ := hrel
        obtain ⟨q1, q2, q3⟩ := good_after HG.out hlt hk
        by_cases hlk : k < ar l[p]
        · have q4 := q3 hlk
          obtain ⟨n, hn⟩ : ∃ n : Nat, afterI l (p + 1) k = (n : Int) := ⟨(afterI l (p + 1) k).toNat, by omega⟩
          have HN : Hid ((endI l n : Int) = afterI l (p + 1) (k + 1)) := by
            rw [Hid, ← good_next HG.out hlt hlk, hn]; rfl
          rw [hn] at q1 q2 q4 ⊢
          have hnl : n < (EU l (p + 1)).length := by rw [EU_length (by omega)]; omega
          have d0 := ((HU2.out.below hbz)).read hnl
          rw [EU_get (by omega) (by omega) hnl] at d0
          obtain ⟨e1, e2⟩ := end_range HG.out (i := n) (by omega)
          clear hn q3
          go_wp2
          go_round
          case rel => exact ⟨k + 1, by omega, by go_num, by rw [HN.out], hbz⟩
          case measure => simp [intOf]; omega
        · have HN : Hid (afterI l (p + 1) k = endI l p) := by
            rw [Hid, good_end HG.out hlt, show k = ar l[p] by omega]
          obtain ⟨e1, e2⟩ := end_range HG.out hlt
          have HUz := mkHid (HU2.out.below hbz)
          have HUs : Hid (RowU (wr.setCell ⟨w.heap.size, p, none⟩ (.int .i64 (endI l p))) w.heap.size (EU l p)) := by
            rw [Hid, ← EU_set hlt]; exact HUz.out.set p _
          have hbs := (hbl2.then hbz).setCell (p := ⟨w.heap.size, p, none⟩) (Nat.le_refl _) (.int .i64 (endI l p))
          have hpl : p < (EU l (p + 1)).length := by rw [EU_length (by omega)]; omega
          have d0 := HUz.out.read hpl
          have d1 := HUz.out.free p
          rw [HN.out] at q1 q2 q3 ⊢
          clear q3
          generalize (EU l (p + 1))[p] = old at d0
          go_wp2
          go_round
          case rel => exact ⟨p, by omega, by go_num, HUs, hbs⟩
          case measure => simp [intOf]
end Go.Proofs.Ytlddglajdcednaa
namespace Go.Proofs.Ytlddglajdcednaa
open Go.RowKit
attribute [local go_sem] Oper.semAt_some

/-! ### the iterators over the arguments' places -/
/-- the place behind the first j arguments of what stands at i -/
def argP (l : List Cel) (i j : Nat) : Nat := (afterI l (i + 1) j).toNat
def argsL (l : List Cel) (i : Nat) : List Nat := match l[i]? with
  | none => []
  | some c => (List.range (ar c)).map (argP l i)
set_option maxHeartbeats 800000 in
theorem parts_in (F : Fence) (n : Nat) (hF : F.fn 68) (hro : F.round = none) (c : Option Addr) (i : Int) (w : World) :
    CallsIn F n Try.prog 68 #[.pointer c, .int .i64 i] w fun e w' => e = .returned (.func (.func 84) #[] #[.pointer (some ⟨w.heap.size + 1, 0, none⟩), .pointer (some ⟨w.heap.size, 0, none⟩)]) ∧ w' = (w.alloc (.cells #[.pointer c] 55)).alloc (.cells #[.int .i64 i] 3) := by
  refine callsIn_of_wp Try.func68 rfl hF ?_ hro
  simp only [Try.ntmps68, List.size_toArray, List.length_cons, List.length_nil, Nat.reduceAdd, Nat.reduceSub, Array.replicate_succ, Array.replicate_zero, List.push_toArray, List.append_toArray, List.nil_append, List.cons_append]
  gi_wp2
  go_ret
  exact ⟨rfl, rfl⟩
set_option maxHeartbeats 800000 in
theorem pairs_in (F : Fence) (n : Nat) (hF : F.fn 67) (hro : F.round = none) (c : Option Addr) (x y : Int) (w : World) :
    CallsIn F n Try.prog 67 #[.pointer c, .int .i64 x, .int .i64 y] w fun e w' => e = .returned (.func (.func 83) #[] #[.pointer (some ⟨w.heap.size + 2, 0, none⟩), .pointer (some ⟨w.heap.size, 0, none⟩), .pointer (some ⟨w.heap.size + 1, 0, none⟩)]) ∧ w' = ((w.alloc (.cells #[.pointer c] 55)).alloc (.cells #[.int .i64 x] 3)).alloc (.cells #[.int .i64 y] 3) := by
  refine callsIn_of_wp Try.func67 rfl hF ?_ hro
  simp only [Try.ntmps67, List.size_toArray, List.length_cons, List.length_nil, Nat.reduceAdd, Nat.reduceSub, Array.replicate_succ, Array.replicate_zero, List.push_toArray, List.append_toArray, List.nil_append, List.cons_append]
  gi_wp2
  go_ret
  exact ⟨rfl, rfl⟩
end Go.Proofs.Ytlddglajdcednaa

namespace Go.Proofs.Ytlddglajdcednaa
open Go.RowKit
attribute [local go_sem] Oper.semAt_some

/-- what a round of a loop over places keeps -/
structure KpF (n₀ : Nat) (us : List Nat) (B1 B2 : Nat) (W W' : World) : Prop where
  os : W'.os = W.os
  tape : W'.tape = W.tape
  output : W'.output = W.output
  size : W.heap.size ≤ W'.heap.size
  block : ∀ k, k < n₀ → k ∉ us → W'.heap[k]? = W.heap[k]?
  b1 : W'.heap[B1]? = W.heap[B1]?
  b2 : W'.heap[B2]? = W.heap[B2]?
section
variable {n₀ B1 B2 : Nat} {us : List Nat} {A W W' : World}
theorem KpF.refl (n₀ : Nat) (us : List Nat) (B1 B2 : Nat) (W : World) : KpF n₀ us B1 B2 W W := ⟨rfl, rfl, rfl, Nat.le_refl _, fun _ _ _ => rfl, rfl, rfl⟩
theorem KpF.trans (h : KpF n₀ us B1 B2 A W) (k : KpF n₀ us B1 B2 W W') : KpF n₀ us B1 B2 A W' :=
  ⟨k.os.trans h.os, k.tape.trans h.tape, k.output.trans h.output, Nat.le_trans h.size k.size, fun i hi hn => (k.block i hi hn).trans (h.block i hi hn), k.b1.trans h.b1, k.b2.trans h.b2⟩
theorem KpF.of (h : Below W.heap.size W W') (hn : n₀ ≤ W.heap.size) (h1 : B1 < W.heap.size) (h2 : B2 < W.heap.size) : KpF n₀ us B1 B2 W W' :=
  ⟨h.os, h.tape, h.output, h.size, fun k hk _ => h.block k (by omega), h.block B1 h1, h.block B2 h2⟩
theorem KpF.fr {w : World} (h : Fr us w A) (k : KpF w.heap.size us B1 B2 A W) : Fr us w W :=
  ⟨k.os.trans h.os, k.tape.trans h.tape, k.output.trans h.output, Nat.le_trans h.size k.size, fun i hi hn => (k.block i hi hn).trans (h.block i hi hn)⟩
end
set_option maxHeartbeats 400000 in
theorem uarguments_in (F : Fence) (n : Nat) (hF : F.fn 82) (hro : F.round = none) (w : World) (c : Cel) :
    CallsIn F n Try.prog 82 #[.agg #[.int .i64 c.k, .string c.s, .int .i64 c.n]] w fun e w' => e = .returned (.int .i64 (arI c)) ∧ w' = w.alloc (.cells #[.int .i64 c.k, .string c.s, .int .i64 c.n] 42) := by
  by_cases h : c.k = 3
  · have t1 : (c.k != 3) = false := by simp [h]
    have HE : Hid (c.n = arI c) := by unfold arI; rw [if_pos h]; rfl
    clear h
    refine callsIn_of_wp Try.func82 rfl hF ?_ hro
    simp only [Try.ntmps82, List.size_toArray, List.length_cons, List.length_nil, Nat.reduceAdd, Nat.reduceSub, Array.replicate_succ, Array.replicate_zero, List.push_toArray, List.append_toArray, List.nil_append, List.cons_append]
    gi_wp2
    go_ret
    exact ⟨ret_int HE.out, rfl⟩
  · have t1 : (c.k != 3) = true := by simp [h]
    have HE : Hid (0 = arI c) := by unfold arI; rw [if_neg h]; rfl
    clear h
    refine callsIn_of_wp Try.func82 rfl hF ?_ hro
    simp only [Try.ntmps82, List.size_toArray, List.length_cons, List.length_nil, Nat.reduceAdd, Nat.reduceSub, Array.replicate_succ, Array.replicate_zero, List.push_toArray, List.append_toArray, List.nil_append, List.cons_append]
    gi_wp2
    go_ret
    exact ⟨ret_int HE.out, rfl⟩

abbrev Place (n : Nat) := { x : Nat // x < n }
def valsP {n : Nat} (l : List (Place n)) : List Nat := l.map Subtype.val
theorem valsP_append {n : Nat} (a b : List (Place n)) : valsP (a ++ b) = valsP a ++ valsP b := by simp [valsP]

set_option maxRecDepth 100000 in
set_option maxHeartbeats 8000000 in
theorem parts1_in (F : Fence) (n : Nat) (hF : F.fn 84) (h82 : F.fn 82) (hro : F.round = none) (hn : 2 ≤ n) (l0 B1 B2 : Nat) (us : List Nat) (w : World) {C u s m : Nat} {l : List Cel} (hC : Cls (veil us w) C u s m l (endsL l)) (hG : Good l) (hl : l.length ≤ 1000) (p : Nat) (hp : p < l.length)
    (J Jx : List (Place l.length) → World → Prop) (W : World) (hW : Fr us w W) (hJ : AbidesFrom W.heap.size J)
    (hY : ∀ pre x W, J pre W → valsP (pre ++ [x]) <+: argsL l p → YieldAt F (n - 1) Try.prog l0 #[.int .i64 (x.1 : Int)] W fun e W' =>
      (e = .returned (.bool true) ∧ J (pre ++ [x]) W' ∧ KpF w.heap.size us B1 B2 W W') ∨ (e = .returned (.bool false) ∧ Jx (pre ++ [x]) W'))
    (hB1 : W.cell? ⟨B1, 0, none⟩ = some (.int .i64 p)) (hB2 : W.cell? ⟨B2, 0, none⟩ = some (.pointer (some ⟨C, 0, none⟩))) (h0 : J [] W) :
    CallsIn F n Try.prog 84 #[.func (.yield l0) #[] #[], .pointer (some ⟨B1, 0, none⟩), .pointer (some ⟨B2, 0, none⟩)] W fun e W' => (∃ v, e = .returned v) ∧
      ((∃ zs, valsP zs = argsL l p ∧ J zs W') ∨ (∃ pre, valsP pre <+: argsL l p ∧ Jx pre W')) := by
  have h1n : 1 ≤ n := by omega
  have mixed : Try.prog.follows Departure.mixedOrders = true := by kernel_rfl
  have HG := mkHid hG
  obtain ⟨hcok, _⟩ := good_cell hG hp
  have HA := mkHid (arI_ar hcok)
  have har6 := ar_le _ hcok
  have HL : Hid (argsL l p = (List.range (ar l[p])).map (argP l p)) := by rw [Hid]; unfold argsL; rw [List.getElem?_eq_getElem hp]
  clear hG hcok
  have hCW := hC.keeps hW.keeps
  obtain ⟨ac, capc, q0, qr⟩ := hCW.cells
  have c0 := (veil_cell q0).2
  have hrow := Row.keeps qr (veil_keeps us W)
  obtain ⟨b, off, rfl, hb, hat⟩ := hrow.cases.resolve_left (fun e => by simp [e] at hp)
  obtain ⟨d0, d1, d2, hf⟩ := cel_at hat (Below.refl _ _) hp
  have hp0 : (0 : Int) ≤ (p : Int) := by omega
  have hp1 : (p : Int) < (l.length : Int) := by omega
  have hB1l := cell_lt hB1
  have hB2l := cell_lt hB2
  have HC := mkHid hC
  have HW := mkHid hW
  clear hC hW hCW q0 qr hrow hat
  refine callsIn_of_wp Try.func84 rfl hF ?_ hro
  simp only [Try.ntmps84, List.size_toArray, List.length_cons, List.length_nil, Nat.reduceAdd, Nat.reduceSub, Array.replicate_succ, Array.replicate_zero, List.push_toArray, List.append_toArray, List.nil_append, List.cons_append]
  gi_wp2
  generalize hA : Act.mk _ _ = A0
  refine Code.wpIn_mono (Q := fun e A' W' => e = .normal ∧ A' = (((((((((A0.put (some 7) (.pointer (some ⟨C, 0, none⟩))).put (some 8) (.pointer (some ⟨C, 0, none⟩))).put (some 9) (.pointer (some ⟨C, 0, none⟩))).put (some 10) (.slice (some ⟨b, off, none⟩) l.length capc)).put (some 11) (.int .i64 p)).put (some 12) (.pointer (some ⟨b, off + p * 3, none⟩))).put (some 13) (.agg #[.int .i64 l[p].k, .string l[p].s, .int .i64 l[p].n])).put (some 14) (.int .i64 (ar l[p]))).put (some 15) (.int .i64 0)) ∧ W' = W.drew.alloc (.cells #[.int .i64 l[p].k, .string l[p].s, .int .i64 l[p].n] 42)) ?_ ?_
  · rintro e A' W' ⟨rfl, rfl, rfl⟩
    subst hA
    simp only [Act.put, List.setIfInBounds_toArray, List.set_cons_zero, List.set_cons_succ]
    have hJ0 := hJ [] W (W.drew.alloc (.cells #[.int .i64 l[p].k, .string l[p].s, .int .i64 l[p].n] 42)) none h0 (below_grown (((Below.refl W.heap.size W).drew).new _) none) (fun r e => by cases e)
    have hbw : Below W.heap.size W (W.drew.alloc (.cells #[.int .i64 l[p].k, .string l[p].s, .int .i64 l[p].n] 42)) := ((Below.refl W.heap.size W).drew).new _
    have hk0 : KpF w.heap.size us B1 B2 W (W.drew.alloc (.cells #[.int .i64 l[p].k, .string l[p].s, .int .i64 l[p].n] 42)) := KpF.of hbw HW.out.size hB1l hB2l
    clear hbw c0 d0 d1 d2
    gi_wp2
    gi_loopw [4, 15] (fun part i wr => ∃ (k : Nat) (pre : List (Place l.length)), k ≤ ar l[p] ∧ i = .int .i64 k ∧ part = .int .i64 (afterI l (p + 1) k) ∧ Hid (valsP pre = (List.range k).map (argP l p)) ∧ J pre wr ∧ KpF w.heap.size us B1 B2 W wr) (fun _ i _ => ar l[p] - (intOf i).toNat)
    case atStart => exact ⟨0, [], Nat.zero_le _, rfl, by rw [afterI_zero (by omega)]; go_num, by simp [Hid, valsP], hJ0, hk0⟩
    case round =>
      obtain ⟨k, pre, hk, rfl, rfl, HP, hJs, hkp⟩ := hrel
      obtain ⟨g1, g2, g3⟩ := good_after HG.out hp hk
      have HPF : Hid (valsP pre <+: argsL l p) := by
        rw [Hid, HL.out, HP.out]
        obtain ⟨q, hq⟩ : ∃ q, ar l[p] = k + q := ⟨ar l[p] - k, by omega⟩
        rw [hq, List.range_add, List.map_append]
        exact List.prefix_append _ _
      by_cases hlt : k < ar l[p]
      · have g4 := g3 hlt
        obtain ⟨n1, hn1⟩ : ∃ n1 : Nat, afterI l (p + 1) k = (n1 : Int) := ⟨(afterI l (p + 1) k).toNat, by omega⟩
        have HN : Hid ((endI l n1 : Int) = afterI l (p + 1) (k + 1)) := by
          rw [Hid, ← good_next HG.out hp hlt, hn1]; rfl
        have HAP : Hid (argP l p k = n1) := by unfold argP; rw [hn1]; rfl
        rw [hn1] at g1 g2 g4 ⊢
        have hnl : n1 < l.length := by omega
        have hroom : pre.length < 7 := by
          have h1 : pre.length = (valsP pre).length := by simp [valsP]
          rw [h1, HP.out]; simp; omega
        have HV : Hid (valsP (pre ++ [⟨n1, hnl⟩]) = (List.range (k + 1)).map (argP l p)) := by
          rw [Hid, valsP_append, HP.out, List.range_succ, List.map_append]
          simp [valsP, HAP.out]
        have HPF2 : Hid (valsP (pre ++ [⟨n1, hnl⟩]) <+: argsL l p) := by
          rw [Hid, HL.out, HV.out]
          obtain ⟨q, hq⟩ : ∃ q, ar l[p] = (k + 1) + q := ⟨ar l[p] - (k + 1), by omega⟩
          have hq2 : List.range ((k + 1) + q) = List.range (k + 1) ++ (List.range q).map (k + 1 + ·) := List.range_add
          rw [hq, hq2, List.map_append]
          exact List.prefix_append _ _
        obtain ⟨fn, tmps, assign, body, hy, hR⟩ := hY pre ⟨n1, hnl⟩ wr hJs HPF2.out
        dsimp only at hy
        clear hroom hn1 g3
        gi_wp2
        refine hR.mono ?_
        rintro e W3 (⟨rfl, hJ3, hk3⟩ | ⟨rfl, hJx3⟩)
        · have hkw := hkp.trans hk3
          have hB2' : W3.cell? ⟨B2, 0, none⟩ = some (.pointer (some ⟨C, 0, none⟩)) := by rw [World.cell?, hkw.b2]; exact hB2
          have hC3 := HC.out.keeps (hkw.fr HW.out).keeps
          obtain ⟨ae, cape, e1, er⟩ := hC3.behind
          have c1 := (veil_cell e1).2
          have hel := Row.keeps er (veil_keeps us W3)
          have hem := hel.max
          have hele := hel.le
          rw [endsL_length] at c1 hele
          have hnl2 : n1 < (endsL l).length := by rw [endsL_length]; exact hnl
          obtain ⟨be, offe, rfl, _, hate⟩ := hel.cases.resolve_left (fun e => by rw [e] at hnl2; simp at hnl2)
          obtain ⟨f0, _, _⟩ := int_at hate (Below.refl _ _) hnl2
          rw [endsL_get] at f0
          obtain ⟨r1, r2⟩ := end_range HG.out hnl
          clear hC3 e1 er hel hate hem
          gi_wp2
          go_roundw
          case rel => exact ⟨k + 1, _, by omega, by simp, by rw [HN.out], HV, hJ3, hkw⟩
          case measure => simp [intOf]; omega
        · gi_wp2
          refine bodyPost_ret (results_none rfl _ _ _) rfl ?_
          exact ⟨⟨_, rfl⟩, .inr ⟨_, HPF2.out, hJx3⟩⟩
      · have HV : Hid (valsP pre = argsL l p) := by rw [Hid, HL.out, HP.out, show k = ar l[p] by omega]
        gi_wp2
        go_end0
        exact ⟨⟨_, rfl⟩, .inl ⟨_, HV.out, hJs⟩⟩
  · subst hA
    simp only [Act.put, List.setIfInBounds_toArray, List.set_cons_zero, List.set_cons_succ]
    gi_region_with_o (gi_at_call 82; refine (uarguments_in F (n - 1) h82 hro _ l[p]).mono ?_; rintro e w2 ⟨rfl, hw2⟩; rw [HA.out])
    all_goals
      subst hw2
      exact ⟨rfl, rfl, rfl⟩
end Go.Proofs.Ytlddglajdcednaa

namespace Go.Proofs.Ytlddglajdcednaa
open Go.RowKit
attribute [local go_sem] Oper.semAt_some

/-! ### a range over an iterator that itself runs a loop over an iterator: the caller's word bears the turn of any block that is no cells and is new -/
section
variable {α : Type} {F : Fence} {n : Nat} {P : Program}
/-- borne: new blocks; the turn of block x; the turn of a block from B on that is no cells -/
def OwnX {β : Type} (B : Nat) (x : Option Nat) (I : β → World → Prop) : Prop :=
  ∀ s W W' row, I s W → W.grownBy W' row → (∀ r, row = some r → x = some r ∨ (B ≤ r ∧ ∃ o : Obj, W.heap[r]? = some o ∧ o.isCells = false)) → I s W'
theorem OwnX.own {β : Type} {B : Nat} {x : Option Nat} {I : β → World → Prop} (h : OwnX B x I) : OwnFrom B I := fun s A C row hs hg hr => h s A C row hs hg (fun r e => .inr (hr r e))
theorem OwnX.and {β : Type} {B : Nat} {x : Option Nat} {I J : β → World → Prop} (h : OwnX B x I) (k : OwnX B x J) : OwnX B x (fun s W => I s W ∧ J s W) := fun s A C row hs hg hr => ⟨h s A C row hs.1 hg hr, k s A C row hs.2 hg hr⟩
theorem OwnX.more {β : Type} {B B' : Nat} {x : Option Nat} {I : β → World → Prop} (h : OwnX B x I) (hB : B ≤ B') : OwnX B' x I := fun s A C row hs hg hr => h s A C row hs hg (fun r e => (hr r e).imp id (fun q => ⟨Nat.le_trans hB q.1, q.2⟩))
theorem OwnX.drop {β : Type} {B : Nat} {x : Option Nat} {I : β → World → Prop} (h : OwnX B x I) : OwnX B none I := fun s A C row hs hg hr => h s A C row hs hg (fun r e => .inr ((hr r e).resolve_left (fun q => by cases q)))
theorem OwnX.set {β : Type} {B x : Nat} {I : β → World → Prop} (h : OwnX B (some x) I) {s : β} {W : World} (hs : I s W) (v : Value) : I s (W.setCell ⟨x, 0, none⟩ v) :=
  h s W _ (some x) hs (grownBy_setCell' W x v) (fun r e => by cases e; exact .inl rfl)

/-- the iterator's promise to a caller whose word bears that; y: which block, from the call's heap on, the iterator turns; m: how deep its rounds are; T: at what it is called -/
def SeqOwn (F : Fence) (n m : Nat) (y : Option Nat) (P : Program) (g : Nat) (lb : Array Value) (encs : α → Array Value) (Kp : World → World → Prop) (T : List α → α → World → Prop) (S Sp : List α → Prop) (w : World) : Prop :=
  ∀ (l : Nat) (J Jx : List α → World → Prop) (W : World), Below w.heap.size w W → W.heap.size = w.heap.size + 2 → OwnX W.heap.size (y.map (W.heap.size + ·)) J → OwnX W.heap.size (y.map (W.heap.size + ·)) Jx →
    (∀ pre x W1, J pre W1 → T pre x W1 → YieldAt F m P l (encs x) W1 fun e W' =>
      (e = .returned (.bool true) ∧ J (pre ++ [x]) W' ∧ Kp W1 W') ∨ (e = .returned (.bool false) ∧ Jx (pre ++ [x]) W' ∧ Kp W1 W')) →
    J [] W →
    CallsIn F n P g (#[.func (.yield l) #[] #[]] ++ lb) W fun e W' => (∃ v, e = .returned v) ∧ ((∃ xs, S xs ∧ J xs W') ∨ (∃ pre, Sp pre ∧ Jx pre W'))

theorem abides_of_own {β : Type} {B : Nat} {J : β → World → Prop} (h : OwnFrom B J) : AbidesFrom B J := fun s A C row hs hg hr =>
  h s A C row hs hg (fun r e => by
    obtain ⟨h1, o, h2, h3⟩ := hr r e
    exact ⟨h1, o, h2, by cases o <;> simp_all [Obj.isWalk, Obj.isCells]⟩)

/-- the record of a loop -/
abbrev recAt (fn : FuncId) (tmps : Array Value) (ps : Array Tmp) (assign body : Code) (D : Nat) (st : LoopState) (pe : Option Code) : Loop :=
  { state := st, pending := pe, fn := fn, tmps := tmps, params := ps, assign := assign, body := body, defers := D }

variable {fn : FuncId} {tmps : Array Value} {ps : Array Tmp} {assign body : Code}
/-- between two rounds: the record in a state, the block for deferred calls beside it -/
structure Held (fn : FuncId) (tmps : Array Value) (ps : Array Tmp) (assign body : Code) (D : Nat) (st : LoopState) (pe : Option Code) (W : World) : Prop where
  lp : W.heap[D + 1]? = some (.loop (recAt fn tmps ps assign body D st pe))
  df : W.heap[D]? = some (.deferred (some []))
theorem Held.put {D : Nat} {st st' : LoopState} {pe pe' : Option Code} {W : World} (h : Held fn tmps ps assign body D st pe W) :
    Held fn tmps ps assign body D st' pe' (W.putObj (D + 1) (.loop (recAt fn tmps ps assign body D st' pe'))) :=
  ⟨World.putObj_heap_same (Array.getElem?_eq_some_iff.1 h.lp).1, (World.putObj_heap_other (by omega)).trans h.df⟩
/-- the loop's two blocks lie as they lay -/
def Two (D : Nat) (W W' : World) : Prop := W'.heap[D]? = W.heap[D]? ∧ W'.heap[D + 1]? = W.heap[D + 1]?
theorem Held.keeps {D : Nat} {st : LoopState} {pe : Option Code} {W W' : World} (h : Held fn tmps ps assign body D st pe W) (k : Two D W W') : Held fn tmps ps assign body D st pe W' :=
  ⟨k.2.trans h.lp, k.1.trans h.df⟩
/-- how the body of a round may be left -/
def postX (D : Nat) (Kp : World → World → Prop) (I : List α → World → Prop) (Ix : Code → List α → World → Prop) (xs : List α) (W : World) : Exit → Act → World → Prop
  | .normal, _, W' => Two D W W' ∧ Kp W W' ∧ I xs W'
  | .ret, _, W' => Two D W W' ∧ Kp W W' ∧ Ix .ret xs W'
  | .exit id, _, W' => Two D W W' ∧ Kp W W' ∧ Ix (.exit id) xs W'
  | .goto t, _, W' => Two D W W' ∧ Kp W W' ∧ Ix (.goto t) xs W'
  | .panic _, _, _ => False
  | .outgrown, _, _ => False
theorem Held.own {D B : Nat} (hB : D + 2 ≤ B) {x : Option Nat} (hx : ∀ r, x = some r → D + 2 ≤ r) {β : Type} (st : LoopState) (pe : β → Option Code) : OwnX B x (fun (s : β) W => Held fn tmps ps assign body D st (pe s) W) := fun s A C row hs hg hr => by
  have h1 : row ≠ some (D + 1) := fun e => (hr _ e).elim (fun h => by have := hx _ h; omega) (fun h => by have := h.1; omega)
  have h0 : row ≠ some D := fun e => (hr _ e).elim (fun h => by have := hx _ h; omega) (fun h => by have := h.1; omega)
  exact ⟨(hg.block _ (Array.getElem?_eq_some_iff.1 hs.lp).1 (fun e => h1 e.symm)).trans hs.lp, (hg.block _ (Array.getElem?_eq_some_iff.1 hs.df).1 (fun e => h0 e.symm)).trans hs.df⟩

variable {Kp : World → World → Prop} {I : List α → World → Prop} {Ix : Code → List α → World → Prop}
/-- a round's end, out of the body's word -/
theorem round_end {D : Nat} {xs : List α} {W0 W : World} (hI : OwnFrom D I) (hIx : ∀ c, OwnFrom D (Ix c))
    (hKt : ∀ {A B C : World}, Kp A B → Kp B C → Kp A C) (hKb : ∀ (W : World) (o o' : Loop), W.heap[D + 1]? = some (.loop o) → Kp W (W.putObj (D + 1) (.loop o')))
    (hW : Held fn tmps ps assign body D .busy none W) (hK0 : Kp W0 W) (e : Exit) (a : Act) (W3 : World) (hp : postX D Kp I Ix xs W e a W3) :
    roundPost P (D + 1) (fun e W' => (e = .returned (.bool true) ∧ (I xs W' ∧ Held fn tmps ps assign body D .ready none W') ∧ Kp W0 W') ∨
      (e = .returned (.bool false) ∧ (∃ c, Ix c xs W' ∧ Held fn tmps ps assign body D .done (some c) W') ∧ Kp W0 W')) e a W3 := by
  have no : ∀ c, Two D W W3 → Kp W W3 → Ix c xs W3 → ∃ v w', (Instr.endRound (D + 1) (some c)).run P W3 = .ok v w' ∧
      ((Ending.returned v = .returned (.bool true) ∧ (I xs w' ∧ Held fn tmps ps assign body D .ready none w') ∧ Kp W0 w') ∨
      (Ending.returned v = .returned (.bool false) ∧ (∃ c, Ix c xs w' ∧ Held fn tmps ps assign body D .done (some c) w') ∧ Kp W0 w')) := fun c hk hkp hi => by
    have hH := hW.keeps hk
    exact ⟨_, _, run_endRound (some c) hH.lp, .inr ⟨rfl, ⟨c, (hIx c).putObj _ hi (by omega) hH.lp rfl, hH.put⟩, hKt hK0 (hKt hkp (hKb _ _ _ hH.lp))⟩⟩
  cases e with
  | normal =>
    obtain ⟨hk, hkp, hi⟩ := hp
    have hH := hW.keeps hk
    exact ⟨_, _, run_endRound none hH.lp, .inl ⟨rfl, ⟨hI.putObj _ hi (by omega) hH.lp rfl, hH.put⟩, hKt hK0 (hKt hkp (hKb _ _ _ hH.lp))⟩⟩
  | ret => exact no _ hp.1 hp.2.1 hp.2.2
  | exit id => exact no _ hp.1 hp.2.1 hp.2.2
  | goto t => exact no _ hp.1 hp.2.1 hp.2.2
  | panic ch => exact hp.elim
  | outgrown => exact hp.elim

theorem range_own {g : Operand} {Q : Exit → Act → World → Prop} {a : Act} {w : World}
    (hro : F.round = none) (h1 : 1 ≤ n) {gf : Nat} {lb : Array Value} (hg : a.eval g = .func (.func gf) #[] lb) (hFg : F.fn gf) (eg : ∀ args w, (callFunc gf args).run P w = .ok (.enter gf args) w)
    {encs : α → Array Value} {S Sp : List α → Prop} {m : Nat} {y : Option Nat} {T : List α → α → World → Prop} (hseq : SeqOwn F (n - 1) m y P gf lb encs Kp T S Sp w)
    (hKt : ∀ {A B C : World}, Kp A B → Kp B C → Kp A C) (hKb : ∀ (W : World) (o o' : Loop), W.heap[w.heap.size + 1]? = some (.loop o) → Kp W (W.putObj (w.heap.size + 1) (.loop o'))) (hps : ∀ x, (encs x).size = ps.size)
    (hI : OwnX w.heap.size (y.map (w.heap.size + 2 + ·)) I) (hIx : ∀ c, OwnX w.heap.size (y.map (w.heap.size + 2 + ·)) (Ix c)) (h0 : I [] w) (a₁ : α → Act)
    (hassign : ∀ (l : Nat) (x : α) (W : World) (K : Act → World → Prop), K (a₁ x) W →
      assign.wpIn (F.inRound l) m P (Exit.then K (fun _ _ _ => False)) { tmps := (ps.zip (encs x)).foldl (fun t (p, v) => t.setIfInBounds p v) a.tmps, defers := [] } W)
    (hbody : ∀ (l : Nat) (pre : List α) (x : α) (W : World), w.heap.size + 2 ≤ W.heap.size → I pre W → (∃ W', T pre x W' ∧ W'.heap.size = W.heap.size) → body.wpIn (F.inRound l) m P (postX w.heap.size Kp I Ix (pre ++ [x]) W) (a₁ x) W)
    (hdone : ∀ (D : Nat) (xs : List α) (W : World), w.heap.size ≤ D → S xs → I xs W → W.heap[D]? = some (.deferred (some [])) → Q .normal { a with defers := { target := .collected D, args := #[] } :: a.defers } W)
    (hstop : ∀ (D : Nat) (c : Code) (pre : List α) (W : World), w.heap.size ≤ D → Sp pre → Ix c pre W → W.heap[D]? = some (.deferred (some [])) → c.wpIn F n P Q { a with defers := { target := .collected D, args := #[] } :: a.defers } W) :
    (Code.rangeFunc g ps assign body).wpIn F n P Q a w := by
  refine wpIn_rangeFunc (fun fn hfn => ?_)
  rw [hro]
  have hH1 : Held fn a.tmps ps assign body w.heap.size .ready none ((w.alloc (.deferred (some []))).alloc (.loop (recAt fn a.tmps ps assign body w.heap.size .ready none))) :=
    ⟨by have := World.alloc_heap_new (w.alloc (.deferred (some []))) (.loop (recAt fn a.tmps ps assign body w.heap.size .ready none)); rwa [World.size_alloc] at this,
     (Below.heap_alloc _ _ _ (by simp)).trans (World.alloc_heap_new w _)⟩
  have hI1 := hI.own.alloc (.loop (recAt fn a.tmps ps assign body w.heap.size .ready none)) (hI.own.alloc (.deferred (some [])) h0)
  have hb1 : Below w.heap.size w ((w.alloc (.deferred (some []))).alloc (.loop (recAt fn a.tmps ps assign body w.heap.size .ready none))) :=
    ((Below.refl _ w).alloc (Nat.le_refl _) _).alloc (by simp) _
  have hs1 : ((w.alloc (.deferred (some []))).alloc (.loop (recAt fn a.tmps ps assign body w.heap.size .ready none))).heap.size = w.heap.size + 2 := by simp
  refine ⟨w.heap.size + 1, [{ target := .collected w.heap.size, args := #[] }], (w.alloc (.deferred (some []))).alloc (.loop (recAt fn a.tmps ps assign body w.heap.size .ready none)), { target := .fn (.func gf) lb, args := #[.func (.yield (w.heap.size + 1)) #[] #[]] }, (w.alloc (.deferred (some []))).alloc (.loop (recAt fn a.tmps ps assign body w.heap.size .ready none)), gf, #[.func (.yield (w.heap.size + 1)) #[] #[]] ++ lb, (w.alloc (.deferred (some []))).alloc (.loop (recAt fn a.tmps ps assign body w.heap.size .ready none)), run_enterLoop_outer _ _ _ _ _, ?_, ?_, ?_, fun _ => h1, ?_⟩
  · simp only [resolve, hg]
    simp [go_sem]
  · intro f' hf'
    simp [Target.leads] at hf'
    subst hf'
    exact hFg
  · simp [invoke, go_sem, eg]
  · generalize (w.alloc (.deferred (some []))).alloc (.loop (recAt fn a.tmps ps assign body w.heap.size .ready none)) = W1 at hH1 hI1 hb1 hs1
    have lift : ∀ {β : Type} {J : β → World → Prop}, OwnX w.heap.size (y.map (w.heap.size + 2 + ·)) J → OwnX W1.heap.size (y.map (W1.heap.size + ·)) J := fun h => by rw [hs1]; exact h.more (by omega)
    have hy2 : ∀ r, y.map (W1.heap.size + ·) = some r → w.heap.size + 2 ≤ r := fun r e => by
      cases y with
      | none => cases e
      | some z => cases e; dsimp only; omega
    refine (hseq (w.heap.size + 1) (fun pre W => I pre W ∧ Held fn a.tmps ps assign body w.heap.size .ready none W)
      (fun pre W => ∃ c, Ix c pre W ∧ Held fn a.tmps ps assign body w.heap.size .done (some c) W) W1 hb1 hs1
      ((lift hI).and (Held.own (by omega) hy2 _ _)) (fun s A C row hs hg' hr => ?_) ?_ ⟨hI1, hH1⟩).mono ?_
    · obtain ⟨c, h2, h3⟩ := hs
      exact ⟨c, lift (hIx c) s A C row h2 hg' hr, Held.own (β := Unit) (B := W1.heap.size) (by omega) hy2 _ (fun _ => some c) () A C row h3 hg' hr⟩
    · rintro pre x W ⟨hi, hH⟩ hlen
      refine ⟨fn, _, assign, body, run_yield hH.lp (hps x), roundIn_of_wpIn hfn (hassign _ x W _ ⟨_, run_beginRound hH.lp rfl, ?_⟩)⟩
      exact wpIn_mono (hbody _ pre x _ (by have := (Array.getElem?_eq_some_iff.1 hH.lp).1; simp; omega) (hI.own.putObj _ hi (by omega) hH.lp rfl) ⟨_, hlen, by simp⟩) (round_end hI.own (fun c => (hIx c).own) hKt hKb hH.put (hKb _ _ _ hH.lp))
    · rintro e W2 ⟨⟨v, rfl⟩, (⟨xs, hS, hi, hH⟩ | ⟨pre, hSp, c, hi, hH⟩)⟩
      · exact ⟨none, _, run_endLoop hH.lp (by simp), hdone _ xs _ (Nat.le_refl _) hS (hI.own.putObj _ hi (by omega) hH.lp rfl) ((World.putObj_heap_other (by omega)).trans hH.df)⟩
      · exact ⟨some c, _, run_endLoop hH.lp (by simp), hstop _ c pre _ (Nat.le_refl _) hSp ((hIx c).own.putObj _ hi (by omega) hH.lp rfl) ((World.putObj_heap_other (by omega)).trans hH.df)⟩
end
end Go.Proofs.Ytlddglajdcednaa
