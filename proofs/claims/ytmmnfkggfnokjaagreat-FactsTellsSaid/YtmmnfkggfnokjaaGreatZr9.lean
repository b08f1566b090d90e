import Derived.Test.YtmmnfkggfnokjaaGreatZr8
import Derived.Deep.Slices
import Derived.Deep.Fields
import Derived.ChangeSame
import Derived.ProofKit
import Derived.OpenShut
import Derived.ShutString
import Derived.ChangeOld
import Derived.Lib.SmallJoins
namespace Go.Proofs.YtmmnfkggfnokjaaGreat
open Go.RowKit

/-! ### is a class within itself? -/
theorem made_bools (n : Nat) : madeCells (Value.bool false).cells n = Array.replicate n (Value.bool false) := by
  unfold madeCells
  simp only [Value.cells]
  apply Array.ext
  · simp
  · intro i h1 h2
    simp [Nat.mod_one]
theorem Tryz.infoBool : (Tryz.prog.info? 4).map (fun i => (i.zero, i.size, i.bytes)) = some (some (.bool false), 1, 1) := by kernel_rfl
theorem wpList_make_bools {P : Program} (w : World) {ops : Array Oper} {rest : List Oper} {o : Oper} {a : Act} {Q : Exit → Act → World → Prop}
    (hg : o.guard = none) (l c : Operand) (t : TypeId) (hop : o.op = Op.makeSlice t l c)
    (e : TypeId) (h1 : P.underlying t = some (.slice e)) (h2 : (P.info? e).map (fun i => (i.zero, i.size, i.bytes)) = some (some (.bool false), 1, 1))
    (n : Nat) (hl : a.eval l = .int .i64 n) (hc : a.eval c = .int .i64 n) (hn : n ≤ 1000000)
    (hK : wpList P ops Q rest (a.put o.dst (.slice (some ⟨w.heap.size, 0, none⟩) n n)) (w.alloc (.cells (Array.replicate n (Value.bool false)) e))) :
    wpList P ops Q (o :: rest) a w := by
  obtain ⟨i, hi, hz0, hz1, hz2⟩ := info_parts h2
  refine wpList_plain hg fun K hK' => ?_
  have hrun := run_make (P := P) w t e i _ h1 hi hz0 .i64 .i64 n n (by omega) (Int.le_refl _) (by rw [hz2]; omega) (by omega)
  rw [hz1, Nat.mul_one, Int.toNat_natCast, made_bools] at hrun
  unfold Oper.wp
  simp [execOp, hop, hl, hc, hrun, Result.andThen]
  exact hK' _ _ hK
/-- a block that says of each number whether it is done -/
def RowB (w : World) (g n : Nat) (D : Nat → Bool) : Prop := w.heap[g]? = some (.cells ((List.range n).map fun c => Value.bool (D c)).toArray 4 (0, 0))
section
variable {w w' : World} {g n : Nat} {D : Nat → Bool}
theorem RowB.made (w : World) (n : Nat) : RowB (w.alloc (.cells (Array.replicate n (Value.bool false)) 4)) w.heap.size n fun _ => false := by
  unfold RowB
  rw [heap_alloc_new]
  congr 2
  apply Array.ext
  · simp
  · intro i h1 h2; simp
theorem RowB.lt (h : RowB w g n D) : g < w.heap.size := by
  unfold RowB at h
  exact (Array.getElem?_eq_some_iff.1 h).1
theorem RowB.read (h : RowB w g n D) {k : Nat} (hk : k < n) : w.cell? ⟨g, k, none⟩ = some (.bool (D k)) := by
  rw [cell_of_row w g k _ _ _ h]; simp [hk]
theorem RowB.free (h : RowB w g n D) (k : Nat) : w.frozen? ⟨g, k, none⟩ = false := by
  unfold RowB at h
  simp [World.frozen?, h]
def setD (D : Nat → Bool) (c : Nat) : Nat → Bool := fun z => if z = c then true else D z
theorem RowB.set (h : RowB w g n D) {k : Nat} (hk : k < n) : RowB (w.setCell ⟨g, k, none⟩ (.bool true)) g n (setD D k) := by
  unfold RowB at *
  have e : ((List.range n).map fun c => Value.bool (D c)).set k (.bool true) = (List.range n).map fun c => Value.bool (setD D k c) := by
    apply List.ext_getElem
    · simp
    · intro i h1 h2
      simp only [List.getElem_set, List.getElem_map, List.getElem_range]
      unfold setD
      by_cases e : k = i
      · subst e; simp
      · rw [if_neg e, if_neg (fun h => e h.symm)]
  simp only [World.setCell, Array.getElem?_modify, if_true, h, Option.map_some]
  simp [e]
theorem RowB.below (h : RowB w g n D) (hb : Below w.heap.size w w') : RowB w' g n D := (hb.block g h.lt).trans h
end
/-- what is done, in which order -/
structure WInv (l : List Cel) (W : Nat → Nat) (D : Nat → Bool) (rank : Nat → Nat) (many : Nat) : Prop where
  cnt : many = ((List.range l.length).filter D).length
  ok : ∀ c, c < l.length → D c = true → ∀ a, doesF l W c l.length = some a → ∀ p ∈ argsL l a, D (W p) = true ∧ rank (W p) < rank c
  lt : ∀ c, c < l.length → D c = true → rank c < many
theorem filter_set {D : Nat → Bool} {c : Nat} (hD : D c = false) : ∀ L : List Nat, L.Nodup → c ∈ L → (L.filter (setD D c)).length = (L.filter D).length + 1
  | [], _, h => by cases h
  | x :: L, hn, h => by
    obtain ⟨n1, n2⟩ := List.nodup_cons.1 hn
    by_cases e : x = c
    · subst e
      have h1 : setD D x x = true := by unfold setD; rw [if_pos rfl]
      rw [List.filter_cons_of_pos h1, List.filter_cons_of_neg (by simp [hD])]
      have : L.filter (setD D x) = L.filter D := List.filter_congr fun z hz => by
        unfold setD; rw [if_neg]; rintro rfl; exact n1 hz
      rw [this]; simp
    · have hc : c ∈ L := by
        rcases List.mem_cons.1 h with h | h
        · exact absurd h.symm e
        · exact h
      have h1 : setD D c x = D x := by unfold setD; rw [if_neg e]
      have ih := filter_set hD L n2 hc
      cases hx : D x with
      | true => rw [List.filter_cons_of_pos (by rw [h1]; exact hx), List.filter_cons_of_pos hx]; simp [ih]
      | false => rw [List.filter_cons_of_neg (by rw [h1]; simp [hx]), List.filter_cons_of_neg (by simp [hx])]; exact ih
theorem WInv.mark {l : List Cel} {W : Nat → Nat} {D : Nat → Bool} {rank : Nat → Nat} {many : Nat} (h : WInv l W D rank many) (hW : ∀ z, z < l.length → W z < l.length) {c : Nat} (hc : c < l.length) (hD : D c = false) (hf : ∀ a, doesF l W c l.length = some a → ∀ p ∈ argsL l a, D (W p) = true) (ha : ∀ a, doesF l W c l.length = some a → ∀ p ∈ argsL l a, p < l.length) :
    WInv l W (setD D c) (fun z => if z = c then many else rank z) (many + 1) := by
  have ne : ∀ z, D z = true → z ≠ c := fun z hz e => by rw [e, hD] at hz; cases hz
  refine ⟨by rw [filter_set hD _ List.nodup_range (List.mem_range.2 hc), ← h.cnt], fun c' hc' hD' a ea p hp => ?_, fun c' hc' hD' => ?_⟩
  · by_cases e : c' = c
    · subst e
      have h1 := hf a ea p hp
      have h2 := h.lt _ (hW p (ha a ea p hp)) h1
      have h3 := ne _ h1
      refine ⟨by unfold setD; rw [if_neg h3]; exact h1, ?_⟩
      show (if W p = c' then many else rank (W p)) < if c' = c' then many else rank c'
      rw [if_neg h3, if_pos rfl]; exact h2
    · have hDc : D c' = true := by unfold setD at hD'; rwa [if_neg e] at hD'
      obtain ⟨h1, h2⟩ := h.ok c' hc' hDc a ea p hp
      have h3 := ne _ h1
      refine ⟨by unfold setD; rw [if_neg h3]; exact h1, ?_⟩
      show (if W p = c then many else rank (W p)) < if c' = c then many else rank c'
      rw [if_neg h3, if_neg e]; exact h2
  · show (if c' = c then many else rank c') < many + 1
    by_cases e : c' = c
    · rw [if_pos e]; omega
    · rw [if_neg e]
      have hDc : D c' = true := by unfold setD at hD'; rwa [if_neg e] at hD'
      have := h.lt c' hc' hDc
      omega
def Stuck (l : List Cel) (W : Nat → Nat) (D : Nat → Bool) (i : Nat) : Prop := ∃ a p, doesF l W (W i) l.length = some a ∧ p ∈ argsL l a ∧ D (W p) = false
def allD (l : List Cel) (W : Nat → Nat) (D : Nat → Bool) (a k : Nat) : Bool := (List.range k).all fun j => D (W (argP l a j))
theorem allD_next (l : List Cel) (W : Nat → Nat) (D : Nat → Bool) (a k : Nat) : allD l W D a (k + 1) = (allD l W D a k && D (W (argP l a k))) := by
  unfold allD; rw [List.range_succ, List.all_append]; simp
theorem does_some {l : List Cel} {W : Nat → Nat} {c n a : Nat} (h : doesF l W c n = some a) : a < n ∧ W a = c ∧ ∃ ha : a < l.length, l[a].k ≠ 1 := by
  induction n with
  | zero => cases h
  | succ n ih =>
    unfold doesF at h
    cases e : doesF l W c n with
    | some b =>
      rw [e] at h
      have h' : b = a := by simpa using h
      subst h'
      obtain ⟨h1, h2⟩ := ih e
      exact ⟨by omega, h2⟩
    | none =>
      rw [e] at h
      simp only [Option.none_or] at h
      split at h
      · next hc =>
        injection h with h
        subst h
        refine ⟨by omega, hc.1, ?_⟩
        have h2 := hc.2
        unfold noVar at h2
        cases e2 : l[n]? with
        | none => rw [e2] at h2; cases h2
        | some x =>
          obtain ⟨hn, rfl⟩ := List.getElem?_eq_some_iff.1 e2
          rw [e2] at h2
          exact ⟨hn, fun e => by simp [e] at h2⟩
      · cases h
theorem args_mem {l : List Cel} (hG : Good l) {a p : Nat} (ha : a < l.length) (hp : p ∈ argsL l a) : ∃ j, j < ar l[a] ∧ p = argP l a j ∧ p < l.length := by
  unfold argsL at hp
  rw [List.getElem?_eq_getElem ha] at hp
  obtain ⟨j, hj, rfl⟩ := List.mem_map.1 hp
  have hj := List.mem_range.1 hj
  exact ⟨j, hj, rfl, (argP_lt hG ha hj).1⟩
def WithinPost (l : List Cel) (W : Nat → Nat) (e : Ending) : Prop :=
  (e = .returned (.bool false) ∧ ∃ rank : Nat → Nat, ∀ i, i < l.length → ∀ a, doesF l W (W i) l.length = some a → ∀ p ∈ argsL l a, rank (W p) < rank (W i)) ∨
  (e = .returned (.bool true) ∧ ∃ D : Nat → Bool, (∃ i, i < l.length ∧ D (W i) = false) ∧ ∀ i, i < l.length → D (W i) = false → Stuck l W D i)

end Go.Proofs.YtmmnfkggfnokjaaGreat
namespace Go.Proofs.YtmmnfkggfnokjaaGreat
open Go.RowKit

/-! ### the term of a class -/
theorem least_fit {l : List Cel} (hf : ∀ c ∈ l, c.fit) (W : Nat → Nat) (c : Nat) : ∀ n, -9223372036854775808 ≤ leastUp l W c n ∧ leastUp l W c n ≤ 1000
  | 0 => by unfold leastUp; omega
  | n + 1 => by
    have ih := least_fit hf W c n
    unfold leastUp
    cases e : l[n]? with
    | none => exact ih
    | some x =>
      simp only
      split
      · have hx := hf x (List.mem_of_getElem? e)
        have := hx.n1
        omega
      · exact ih
theorem crows_cel {w w' : World} {vs : List Value} {xs : List Cel} (h : CRows w vs xs) : CRows w' vs xs := by
  induction h with
  | nil => exact .nil
  | cons hc _ ih => exact .cons hc ih
/-- the equation of the classes' terms -/
structure TermsEq (l : List Cel) (W : Nat → Nat) (T : Nat → List Cel) : Prop where
  var : ∀ x, x < l.length → doesF l W (W x) l.length = none → T x = [varC (leastUp l W (W x) l.length)]
  cell : ∀ x, x < l.length → ∀ z (hz : z < l.length), doesF l W (W x) l.length = some z → T x = l[z] :: (argsL l z).flatMap T
theorem TermsEq.pos {l : List Cel} {W : Nat → Nat} {T : Nat → List Cel} (h : TermsEq l W T) {x : Nat} (hx : x < l.length) : 0 < (T x).length := by
  cases e : doesF l W (W x) l.length with
  | none => rw [h.var x hx e]; simp
  | some z => rw [h.cell x hx z (does_some e).1 e]; simp
def wholeB (T : Nat → List Cel) (z : Nat) : Bool := decide ((T z).length ≤ 200)
def wholeP (T : Nat → List Cel) (z : Nat) : List Cel := if (T z).length ≤ 200 then T z else []
theorem natI_append (a b : List Nat) : natI (a ++ b) = natI a ++ natI b := by unfold natI; rw [List.map_append]

end Go.Proofs.YtmmnfkggfnokjaaGreat
namespace Go.Proofs.YtmmnfkggfnokjaaGreat
open Go.RowKit

/-! ### variables, rising -/
theorem rise_unique : ∀ xs ys : List Int, xs.Pairwise (· < ·) → ys.Pairwise (· < ·) → (∀ v, v ∈ xs ↔ v ∈ ys) → xs = ys
  | [], [], _, _, _ => rfl
  | [], y :: ys, _, _, h => absurd ((h y).2 List.mem_cons_self) (by simp)
  | x :: xs, [], _, _, h => absurd ((h x).1 List.mem_cons_self) (by simp)
  | x :: xs, y :: ys, hx, hy, h => by
    obtain ⟨x1, x2⟩ := List.pairwise_cons.1 hx
    obtain ⟨y1, y2⟩ := List.pairwise_cons.1 hy
    have e : x = y := by
      rcases List.mem_cons.1 ((h x).1 List.mem_cons_self) with e | e
      · exact e
      · rcases List.mem_cons.1 ((h y).2 List.mem_cons_self) with e' | e'
        · exact e'.symm
        · have := y1 x e; have := x1 y e'; omega
    subst e
    rw [rise_unique xs ys x2 y2 fun v => ?_]
    constructor
    · intro hv
      rcases List.mem_cons.1 ((h v).1 (List.mem_cons_of_mem _ hv)) with e | e
      · have := x1 v hv; omega
      · exact e
    · intro hv
      rcases List.mem_cons.1 ((h v).2 (List.mem_cons_of_mem _ hv)) with e | e
      · have := y1 v hv; omega
      · exact e
structure RiseInv (l : List Cel) (i : Nat) (out : List Int) : Prop where
  up : out.Pairwise (· < ·)
  mem : ∀ v, v ∈ out ↔ ∃ c ∈ l.take i, c.k = 1 ∧ c.n = v
theorem RiseInv.start (l : List Cel) : RiseInv l 0 [] := ⟨List.Pairwise.nil, by simp⟩
theorem RiseInv.skip {l : List Cel} {i : Nat} {out : List Int} (h : RiseInv l i out) (hi : i < l.length) (hn : l[i].k = 1 → l[i].n ∈ out) : RiseInv l (i + 1) out := by
  refine ⟨h.up, fun v => ?_⟩
  rw [h.mem, List.take_succ_eq_append_getElem hi]
  constructor
  · rintro ⟨c, hc, h1⟩
    exact ⟨c, List.mem_append.2 (.inl hc), h1⟩
  · rintro ⟨c, hc, h1, h2⟩
    rcases List.mem_append.1 hc with hc | hc
    · exact ⟨c, hc, h1, h2⟩
    · rw [List.mem_singleton.1 hc] at h1 h2
      have := hn h1
      rw [h2] at this
      exact (h.mem v).1 this
theorem RiseInv.put {l : List Cel} {i p : Nat} {out : List Int} (h : RiseInv l i out) (hi : i < l.length) (hv : l[i].k = 1) (hp : p ≤ out.length) (hlo : ∀ j (hj : j < out.length), j < p → out[j] < l[i].n) (hhi : ∀ (hp' : p < out.length), l[i].n < out[p]) : RiseInv l (i + 1) (out.take p ++ [l[i].n] ++ out.drop p) := by
  have e : out = out.take p ++ out.drop p := (List.take_append_drop p out).symm
  have hup := h.up
  rw [e] at hup
  obtain ⟨u1, u2, u3⟩ := List.pairwise_append.1 hup
  have lo : ∀ v ∈ out.take p, v < l[i].n := fun v hv => by
    obtain ⟨j, hj, rfl⟩ := List.getElem_of_mem hv
    rw [List.length_take] at hj
    rw [List.getElem_take]
    exact hlo j (by omega) (by omega)
  have hi' : ∀ v ∈ out.drop p, l[i].n < v := fun v hv => by
    by_cases hpl : p < out.length
    · rw [List.drop_eq_getElem_cons hpl] at hv u2
      have h1 := hhi hpl
      rcases List.mem_cons.1 hv with rfl | hv
      · exact h1
      · have := (List.pairwise_cons.1 u2).1 v hv; omega
    · rw [List.drop_of_length_le (by omega)] at hv; cases hv
  refine ⟨?_, fun v => ?_⟩
  · rw [List.append_assoc]
    refine List.pairwise_append.2 ⟨u1, ?_, fun x hx y hy => ?_⟩
    · rw [List.singleton_append]; exact List.pairwise_cons.2 ⟨hi', u2⟩
    · have h1 := lo x hx
      rw [List.singleton_append] at hy
      rcases List.mem_cons.1 hy with rfl | hy
      · exact h1
      · have := hi' y hy; omega
  · have e2 : v ∈ out ↔ v ∈ out.take p ∨ v ∈ out.drop p := by
      conv => lhs; rw [e]
      exact List.mem_append
    have hm : v ∈ out.take p ++ [l[i].n] ++ out.drop p ↔ v ∈ out ∨ v = l[i].n := by
      rw [e2]
      simp only [List.mem_append, List.mem_singleton]
      constructor
      · rintro ((h | h) | h)
        · exact .inl (.inl h)
        · exact .inr h
        · exact .inl (.inr h)
      · rintro ((h | h) | h)
        · exact .inl (.inl h)
        · exact .inr h
        · exact .inl (.inr h)
    rw [hm, h.mem, List.take_succ_eq_append_getElem hi]
    constructor
    · rintro (⟨c, hc, h1⟩ | rfl)
      · exact ⟨c, List.mem_append.2 (.inl hc), h1⟩
      · exact ⟨l[i], List.mem_append.2 (.inr (List.mem_singleton.2 rfl)), hv, rfl⟩
    · rintro ⟨c, hc, h1, h2⟩
      rcases List.mem_append.1 hc with hc | hc
      · exact .inl ⟨c, hc, h1, h2⟩
      · rw [List.mem_singleton.1 hc] at h2; exact .inr h2.symm
theorem RiseInv.done {l : List Cel} {i : Nat} {out : List Int} (h : RiseInv l i out) (hi : l.length ≤ i) : out = riseI (varsL l) := by
  refine rise_unique _ _ h.up (rise_up _) fun v => ?_
  rw [h.mem, List.take_of_length_le hi]
  constructor
  · rintro ⟨c, hc, h1, rfl⟩; exact rise_vars hc h1
  · intro hv
    exact varsL_iff.1 (riseI_mem hv)

set_option maxRecDepth 100000 in
set_option maxHeartbeats 16000000 in
theorem rising3_any (a : Option Addr) (cap : Nat) (w : World) (l : List Cel) (hx : Row w a cap l) (hl : l.length ≤ 1000) :
    Calls Tryz.prog 52 #[.slice a l.length cap] w fun e w' => ∃ a2 c2, e = .returned (.slice a2 (riseI (varsL l)).length c2) ∧ NewRow w.heap.size w' a2 c2 (riseI (varsL l)) ∧ Below w.heap.size w w' := by
  have hm := hx.max
  have hle := hx.le
  have HX := mkHid hx
  have hb0 := (Below.refl w.heap.size w).new (.cells #[] 3)
  have HN0 : Hid (NewRow w.heap.size (w.alloc (.cells #[] 3)) (some ⟨w.heap.size, 0, none⟩) 0 ([] : List Int)) := NewRow.empty _ _ _ _ (by omega) (fun e => by cases e)
  clear hx
  go_enter Tryz.func52, Tryz.ntmps52
  go_wp2_with fail
  go_loopw [3, 4, 5, 6] (fun v3 iv x1 x2 wr => ∃ (i : Nat) (out : List Int) (g3 c3 : Nat), i ≤ l.length ∧ out.length ≤ i ∧ iv = .int .i64 i ∧ v3 = .slice (some ⟨g3, 0, none⟩) out.length c3 ∧ Below w.heap.size w wr ∧ Hid (NewRow w.heap.size wr (some ⟨g3, 0, none⟩) c3 out) ∧ Hid (RiseInv l i out)) (fun v3 iv x1 x2 wr => l.length - (intOf iv).toNat)
  case atStart => exact ⟨0, [], w.heap.size, 0, Nat.zero_le _, Nat.le_refl _, rfl, rfl, hb0, HN0, RiseInv.start l⟩
  case round =>
    clear HN0 hb0
    obtain ⟨i, out, g3, c3, hi, hoi, rfl, rfl, hbl, HN, HI⟩ := hrel
    have hnl := HN.out.row.le
    have hnm := HN.out.row.max
    by_cases hlt : i < l.length
    · obtain ⟨b, off, rfl, _, hat⟩ := HX.out.cases.resolve_left (fun e => by simp [e] at hlt)
      have HAT := mkHid hat
      have hi0 : (0 : Int) ≤ (i : Int) := by omega
      have hi1 : (i : Int) < (l.length : Int) := by omega
      clear hat
      go_wp2_with fail
      go_loopw [5] (fun pv wq => ∃ p : Nat, p ≤ out.length ∧ pv = .int .i64 p ∧ Hid (∀ j (hj : j < out.length), j < p → out[j] < l[i].n) ∧ Below wr.heap.size wr wq) (fun pv wq => out.length - (intOf pv).toNat)
      case atStart => exact ⟨0, Nat.zero_le _, rfl, fun j _ hj => by omega, Below.refl _ _⟩
      case round =>
        obtain ⟨p, hp, rfl, HL, hbq0⟩ := hrel
        have hbq := hbl.then hbq0
        have HNq := mkHid (HN.out.below hbq0)
        have HN2 := fun w'' h => mkHid (HNq.out.below (w' := w'') h)
        obtain ⟨c0, c1, c2, hcf⟩ := cel_at HAT.out hbq hlt
        have hp0 : (0 : Int) ≤ (p : Int) := by omega
        by_cases hpl : p < out.length
        · have e0 : wr.cell? ⟨g3, p, none⟩ = some (.int .i64 out[p]) := by
            obtain ⟨b2, o2, e2, _, hat2⟩ := HNq.out.row.cases.resolve_left (fun e => by simp [e] at hpl)
            cases e2
            have h := (int_at hat2 (Below.refl _ _) hpl).c
            rwa [Nat.zero_add] at h
          have hp1 : (p : Int) < (out.length : Int) := by omega
          have t17 : decide ((p : Int) < (out.length : Int)) = true := decide_eq_true hp1
          by_cases hcmp : out[p] < l[i].n
          · have t28 : decide (out[p] < l[i].n) = true := decide_eq_true hcmp
            have HLN : Hid (∀ j (hj : j < out.length), j < p + 1 → out[j] < l[i].n) := fun j hj hjp => by
              by_cases e : j = p
              · subst e; exact hcmp
              · exact HL.out j hj (by omega)
            clear hcmp HL c0 c1 HN2
            go_wp2
            go_quiet (fail)
            go_wp2
            go_round
            case rel => exact ⟨p + 1, by omega, by go_num, HLN, ⟨hbq0.os, hbq0.tape, hbq0.output, hbq0.size, hbq0.block⟩⟩
            case measure => simp [intOf]; omega
          · have t28 : decide (out[p] < l[i].n) = false := decide_eq_false hcmp
            by_cases hv : l[i].k = 1
            · have t37 : (l[i].k != 1) = false := by simp [hv]
              by_cases heq : out[p] = l[i].n
              · have t53 : (out[p] == l[i].n) = true := by simp [heq]
                have HI2 := mkHid (HI.out.skip hlt fun _ => by rw [← heq]; exact List.getElem_mem hpl)
                clear hcmp heq hv HL HI c1
                go_wp2
                go_quiet (fail)
                go_wp2
                go_quiet (fail)
                go_wp2
                go_round
                case rel => exact ⟨i + 1, out, g3, c3, by omega, by omega, by go_num, rfl, ⟨hbq.os, hbq.tape, hbq.output, hbq.size, hbq.block⟩, HN2 _ ⟨rfl, rfl, rfl, Nat.le_refl _, fun _ _ => rfl⟩, HI2⟩
                case measure => simp [intOf]; omega
              · have t53 : (out[p] == l[i].n) = false := by simp [heq]
                have HI2 := mkHid (HI.out.put hlt hv hp HL.out fun _ => by omega)
                clear hcmp heq hv HL HI c1
                have hnf := And.intro hcf.n1 hcf.n2
                have hp1' : (p : Int) ≤ (out.length : Int) := by omega
                have hp2' : (p : Int) ≤ (c3 : Int) := by omega
                have hl2' : (out.length : Int) ≤ (c3 : Int) := by omega
                have HROW := mkHid HNq.out.row
                have HACC : Hid (∀ k, AccInv wr.heap.size 3 ([] : List Int) (.slice (some ⟨wr.heap.size, 0, none⟩) 0 0) ((wr.drewN k).alloc (.cells #[] 3))) := fun k => AccInv.made (wr.drewN k) (Nat.le_refl _) rfl
                have HBK : Hid (∀ k, Below wr.heap.size wr ((wr.drewN k).alloc (.cells #[] 3))) := fun k => (show Below wr.heap.size wr (wr.drewN k) from ⟨rfl, rfl, rfl, Nat.le_refl _, fun _ _ => rfl⟩).new _
                have HTK : Hid ((out.take p).length = p) := by rw [Hid, List.length_take]; omega
                have HDL : Hid ((out.drop p).length = out.length - p) := by rw [Hid, List.length_drop]
                have HDL0 : Hid (out.length ≤ p → (out.drop p).length = 0) := fun h => by rw [List.length_drop]; omega
                have HRT : Hid (∀ k, Row (hide (Value.slice (some ⟨wr.heap.size, 0, none⟩) 0 0).ownBlock ((wr.drewN k).alloc (.cells #[] 3))) (some ⟨g3, 0, none⟩) c3 (out.take p)) := fun k => by
                  have h := HROW.out.slice (i := 0) (j := p) (Nat.zero_le _) hp
                  simp only [Nat.zero_mul, Nat.add_zero, Nat.sub_zero, List.drop_zero] at h
                  exact h.keeps ((HACC.out k).fresh (HBK.out k))
                have HNF := mkHid hnf
                clear hcf HN2 hnf
                by_cases hcp : c3 = p
                · exfalso; omega
                · have hcp' : (p : Int) < (c3 : Int) := by omega
                  have HDR : Hid (∀ W', Below wr.heap.size wr W' → Row W' (some ⟨g3, p, none⟩) (c3 - p) (out.drop p)) := fun W' h => by
                    have h2 := (HROW.out.slice (i := p) (j := out.length) hp (Nat.le_refl _)).below h
                    have e : (out.drop p).take (out.length - p) = out.drop p := List.take_of_length_le (by rw [List.length_drop]; omega)
                    rw [e] at h2
                    have e2 : 0 + p * Rep.sz Int = p := by show 0 + p * 1 = p; omega
                    rw [e2] at h2
                    exact h2
                  go_wp2
                  go_quiet (fail)
                  go_wp2
                  go_quiet (fail)
                  go_wp2_with (first
                    | (at_builtin; generalize hX : World.alloc (World.drewN wr _) (Obj.cells #[] 3) = X; have hax := hX ▸ HACC.out _; have hrx := hX ▸ HRT.out _; have hbx := hX ▸ HBK.out _; clear hX; have hsx := hbx.size; have hll : ([] : List Int).length + (out.take p).length ≤ 1000000000 := (by rw [HTK.out]; simp; omega); refine wpList_accs (α := Int) rfl _ _ 63 rfl wr.heap.size 3 8 _ Tryz.underlying63 Tryz.infoInt rfl (by decide) _ [] hax (by rfl) _ _ (out.take p) hrx (by rw [HTK.out]; rfl) hll hsx ?_; intro v5 w5 hacc5 hb5; rw [List.nil_append] at hacc5; have HA5 := mkHid hacc5; clear hacc5; have hw5 : Below wr.heap.size wr w5 := hbx.trans hb5; have c2' := keep c2 hw5; have hs5 := hw5.size; clear c0 c2 hax hrx hll hsx)
                    | (at_builtin; refine wpList_acc (α := Int) rfl _ _ 63 rfl wr.heap.size 3 8 _ Tryz.underlying63 Tryz.infoInt rfl (by decide) _ (out.take p) HA5.out rfl _ #[.int .i64 l[i].n] l[i].n ⟨rfl, HNF.out⟩ rfl (by rw [HTK.out]; omega) hs5 ?_; intro v6 w6 hacc6 hb6; have HA6 := mkHid hacc6; clear hacc6; have hw6 : Below wr.heap.size wr w6 := hw5.trans hb6; have hs6 := hw6.size; have HR6 := mkHid (((HDR.out wr (Below.refl _ _)).keeps (HA6.out.fresh hw6)));  clear c2')
                    | (at_builtin; refine wpList_accs (α := Int) rfl _ _ 63 rfl wr.heap.size 3 8 _ Tryz.underlying63 Tryz.infoInt rfl (by decide) _ (out.take p ++ [l[i].n]) HA6.out (by rfl) _ _ (out.drop p) HR6.out (by first | rfl | (rw [HDL.out]; rfl) | (rw [HDL0.out (by omega)]; rfl)) (by rw [List.length_append, HTK.out, HDL.out]; simp; omega) hs6 ?_; intro v7 w7 hacc7 hb7))
                  have hw7 : Below wr.heap.size wr w7 := hw6.trans hb7
                  have hin := HI2.out.up
                  have hln : (out.take p ++ [l[i].n] ++ out.drop p).length = out.length + 1 := by
                    rw [List.length_append, List.length_append, HTK.out, HDL.out]; simp; omega
                  obtain ⟨a7, c7, e7, hnew7⟩ := (AccInv.ownI hacc7).row
                  obtain ⟨g7, rfl⟩ : ∃ g7, a7 = some ⟨g7, 0, none⟩ := by
                    obtain ⟨vs, hown, _⟩ := hacc7.ex
                    obtain ⟨g, cp, e8, _⟩ := own_form hown (by rw [hln]; omega)
                    rw [e7] at e8
                    injection e8 with e8
                    exact ⟨g, e8⟩
                  subst e7
                  have HN7 := mkHid (hnew7.mono hbq.size)
                  clear hacc7 hnew7 hin hb7
                  go_round
                  case rel => exact ⟨i + 1, _, g7, c7, by omega, by rw [hln]; omega, by go_num, rfl, hbq.then hw7, HN7, HI2⟩
                  case measure => simp [intOf]; omega
            · have t37 : (l[i].k != 1) = true := by simp [hv]
              have HI2 := mkHid (HI.out.skip hlt fun h => absurd h hv)
              clear hcmp hv HL HI c1
              go_wp2
              go_quiet (fail)
              go_wp2
              go_quiet (fail)
              go_wp2
              go_round
              case rel => exact ⟨i + 1, out, g3, c3, by omega, by omega, by go_num, rfl, ⟨hbq.os, hbq.tape, hbq.output, hbq.size, hbq.block⟩, HN2 _ ⟨rfl, rfl, rfl, Nat.le_refl _, fun _ _ => rfl⟩, HI2⟩
              case measure => simp [intOf]; omega
        · have t17 : decide ((p : Int) < (out.length : Int)) = false := decide_eq_false (by omega)
          by_cases hv : l[i].k = 1
          · have t37 : (l[i].k != 1) = false := by simp [hv]
            have HI2 := mkHid (HI.out.put hlt hv hp HL.out fun h => absurd h hpl)
            clear hv HL HI c1
            have hnf := And.intro hcf.n1 hcf.n2
            have hp1' : (p : Int) ≤ (out.length : Int) := by omega
            have hp2' : (p : Int) ≤ (c3 : Int) := by omega
            have hl2' : (out.length : Int) ≤ (c3 : Int) := by omega
            have HROW := mkHid HNq.out.row
            have HACC : Hid (∀ k, AccInv wr.heap.size 3 ([] : List Int) (.slice (some ⟨wr.heap.size, 0, none⟩) 0 0) ((wr.drewN k).alloc (.cells #[] 3))) := fun k => AccInv.made (wr.drewN k) (Nat.le_refl _) rfl
            have HBK : Hid (∀ k, Below wr.heap.size wr ((wr.drewN k).alloc (.cells #[] 3))) := fun k => (show Below wr.heap.size wr (wr.drewN k) from ⟨rfl, rfl, rfl, Nat.le_refl _, fun _ _ => rfl⟩).new _
            have HTK : Hid ((out.take p).length = p) := by rw [Hid, List.length_take]; omega
            have HDL : Hid ((out.drop p).length = out.length - p) := by rw [Hid, List.length_drop]
            have HDL0 : Hid (out.length ≤ p → (out.drop p).length = 0) := fun h => by rw [List.length_drop]; omega
            have HRT : Hid (∀ k, Row (hide (Value.slice (some ⟨wr.heap.size, 0, none⟩) 0 0).ownBlock ((wr.drewN k).alloc (.cells #[] 3))) (some ⟨g3, 0, none⟩) c3 (out.take p)) := fun k => by
              have h := HROW.out.slice (i := 0) (j := p) (Nat.zero_le _) hp
              simp only [Nat.zero_mul, Nat.add_zero, Nat.sub_zero, List.drop_zero] at h
              exact h.keeps ((HACC.out k).fresh (HBK.out k))
            have HNF := mkHid hnf
            clear hcf HN2 hnf
            by_cases hcp : c3 = p
            · by_cases hpl' : p < out.length
              · exfalso; omega
              have hpo : out.length = p := by omega
              have HDR : Hid (∀ W', Below wr.heap.size wr W' → Row W' (some ⟨g3, 0, none⟩) 0 (out.drop p)) := fun W' _ => by
                rw [List.drop_of_length_le (by omega)]; exact Row.empty _ _ _ (by omega) (fun e => by cases e)
              have hcq := hcp.symm
              clear hcp
              subst hcq
              clear hpo
              go_wp2
              go_quiet (fail)
              go_wp2
              go_quiet (fail)
              go_wp2_with (first
                | (at_builtin; generalize hX : World.alloc (World.drewN wr _) (Obj.cells #[] 3) = X; have hax := hX ▸ HACC.out _; have hrx := hX ▸ HRT.out _; have hbx := hX ▸ HBK.out _; clear hX; have hsx := hbx.size; have hll : ([] : List Int).length + (out.take p).length ≤ 1000000000 := (by rw [HTK.out]; simp; omega); refine wpList_accs (α := Int) rfl _ _ 63 rfl wr.heap.size 3 8 _ Tryz.underlying63 Tryz.infoInt rfl (by decide) _ [] hax (by rfl) _ _ (out.take p) hrx (by rw [HTK.out]; rfl) hll hsx ?_; intro v5 w5 hacc5 hb5; rw [List.nil_append] at hacc5; have HA5 := mkHid hacc5; clear hacc5; have hw5 : Below wr.heap.size wr w5 := hbx.trans hb5; have c2' := keep c2 hw5; have hs5 := hw5.size; clear c0 c2 hax hrx hll hsx)
                | (at_builtin; refine wpList_acc (α := Int) rfl _ _ 63 rfl wr.heap.size 3 8 _ Tryz.underlying63 Tryz.infoInt rfl (by decide) _ (out.take p) HA5.out rfl _ #[.int .i64 l[i].n] l[i].n ⟨rfl, HNF.out⟩ rfl (by rw [HTK.out]; omega) hs5 ?_; intro v6 w6 hacc6 hb6; have HA6 := mkHid hacc6; clear hacc6; have hw6 : Below wr.heap.size wr w6 := hw5.trans hb6; have hs6 := hw6.size; have HR6 := mkHid (((HDR.out wr (Below.refl _ _)).keeps (HA6.out.fresh hw6)));  clear c2')
                | (at_builtin; refine wpList_accs (α := Int) rfl _ _ 63 rfl wr.heap.size 3 8 _ Tryz.underlying63 Tryz.infoInt rfl (by decide) _ (out.take p ++ [l[i].n]) HA6.out (by rfl) _ _ (out.drop p) HR6.out (by first | rfl | (rw [HDL.out]; rfl) | (rw [HDL0.out (by omega)]; rfl)) (by rw [List.length_append, HTK.out, HDL.out]; simp; omega) hs6 ?_; intro v7 w7 hacc7 hb7))
              have hw7 : Below wr.heap.size wr w7 := hw6.trans hb7
              have hin := HI2.out.up
              have hln : (out.take p ++ [l[i].n] ++ out.drop p).length = out.length + 1 := by
                rw [List.length_append, List.length_append, HTK.out, HDL.out]; simp; omega
              obtain ⟨a7, c7, e7, hnew7⟩ := (AccInv.ownI hacc7).row
              obtain ⟨g7, rfl⟩ : ∃ g7, a7 = some ⟨g7, 0, none⟩ := by
                obtain ⟨vs, hown, _⟩ := hacc7.ex
                obtain ⟨g, cp, e8, _⟩ := own_form hown (by rw [hln]; omega)
                rw [e7] at e8
                injection e8 with e8
                exact ⟨g, e8⟩
              subst e7
              have HN7 := mkHid (hnew7.mono hbq.size)
              clear hacc7 hnew7 hin hb7
              go_round
              case rel => exact ⟨i + 1, _, g7, c7, by omega, by rw [hln]; omega, by go_num, rfl, hbq.then hw7, HN7, HI2⟩
              case measure => simp [intOf]; omega
            · have hcp' : (p : Int) < (c3 : Int) := by omega
              have HDR : Hid (∀ W', Below wr.heap.size wr W' → Row W' (some ⟨g3, p, none⟩) (c3 - p) (out.drop p)) := fun W' h => by
                have h2 := (HROW.out.slice (i := p) (j := out.length) hp (Nat.le_refl _)).below h
                have e : (out.drop p).take (out.length - p) = out.drop p := List.take_of_length_le (by rw [List.length_drop]; omega)
                rw [e] at h2
                have e2 : 0 + p * Rep.sz Int = p := by show 0 + p * 1 = p; omega
                rw [e2] at h2
                exact h2
              go_wp2
              go_quiet (fail)
              go_wp2
              go_quiet (fail)
              go_wp2_with (first
                | (at_builtin; generalize hX : World.alloc (World.drewN wr _) (Obj.cells #[] 3) = X; have hax := hX ▸ HACC.out _; have hrx := hX ▸ HRT.out _; have hbx := hX ▸ HBK.out _; clear hX; have hsx := hbx.size; have hll : ([] : List Int).length + (out.take p).length ≤ 1000000000 := (by rw [HTK.out]; simp; omega); refine wpList_accs (α := Int) rfl _ _ 63 rfl wr.heap.size 3 8 _ Tryz.underlying63 Tryz.infoInt rfl (by decide) _ [] hax (by rfl) _ _ (out.take p) hrx (by rw [HTK.out]; rfl) hll hsx ?_; intro v5 w5 hacc5 hb5; rw [List.nil_append] at hacc5; have HA5 := mkHid hacc5; clear hacc5; have hw5 : Below wr.heap.size wr w5 := hbx.trans hb5; have c2' := keep c2 hw5; have hs5 := hw5.size; clear c0 c2 hax hrx hll hsx)
                | (at_builtin; refine wpList_acc (α := Int) rfl _ _ 63 rfl wr.heap.size 3 8 _ Tryz.underlying63 Tryz.infoInt rfl (by decide) _ (out.take p) HA5.out rfl _ #[.int .i64 l[i].n] l[i].n ⟨rfl, HNF.out⟩ rfl (by rw [HTK.out]; omega) hs5 ?_; intro v6 w6 hacc6 hb6; have HA6 := mkHid hacc6; clear hacc6; have hw6 : Below wr.heap.size wr w6 := hw5.trans hb6; have hs6 := hw6.size; have HR6 := mkHid (((HDR.out wr (Below.refl _ _)).keeps (HA6.out.fresh hw6)));  clear c2')
                | (at_builtin; refine wpList_accs (α := Int) rfl _ _ 63 rfl wr.heap.size 3 8 _ Tryz.underlying63 Tryz.infoInt rfl (by decide) _ (out.take p ++ [l[i].n]) HA6.out (by rfl) _ _ (out.drop p) HR6.out (by first | rfl | (rw [HDL.out]; rfl) | (rw [HDL0.out (by omega)]; rfl)) (by rw [List.length_append, HTK.out, HDL.out]; simp; omega) hs6 ?_; intro v7 w7 hacc7 hb7))
              have hw7 : Below wr.heap.size wr w7 := hw6.trans hb7
              have hin := HI2.out.up
              have hln : (out.take p ++ [l[i].n] ++ out.drop p).length = out.length + 1 := by
                rw [List.length_append, List.length_append, HTK.out, HDL.out]; simp; omega
              obtain ⟨a7, c7, e7, hnew7⟩ := (AccInv.ownI hacc7).row
              obtain ⟨g7, rfl⟩ : ∃ g7, a7 = some ⟨g7, 0, none⟩ := by
                obtain ⟨vs, hown, _⟩ := hacc7.ex
                obtain ⟨g, cp, e8, _⟩ := own_form hown (by rw [hln]; omega)
                rw [e7] at e8
                injection e8 with e8
                exact ⟨g, e8⟩
              subst e7
              have HN7 := mkHid (hnew7.mono hbq.size)
              clear hacc7 hnew7 hin hb7
              go_round
              case rel => exact ⟨i + 1, _, g7, c7, by omega, by rw [hln]; omega, by go_num, rfl, hbq.then hw7, HN7, HI2⟩
              case measure => simp [intOf]; omega
          · have t37 : (l[i].k != 1) = true := by simp [hv]
            have HI2 := mkHid (HI.out.skip hlt fun h => absurd h hv)
            clear hv HL HI c1
            go_wp2
            go_quiet (fail)
            go_wp2
            go_quiet (fail)
            go_wp2
            go_round
            case rel => exact ⟨i + 1, out, g3, c3, by omega, by omega, by go_num, rfl, ⟨hbq.os, hbq.tape, hbq.output, hbq.size, hbq.block⟩, HN2 _ ⟨rfl, rfl, rfl, Nat.le_refl _, fun _ _ => rfl⟩, HI2⟩
            case measure => simp [intOf]; omega
    · have HE := mkHid (HI.out.done (by omega))
      clear HI
      go_wp2
      go_ret
      rw [← HE.out]
      exact ⟨_, _, rfl, HN.out, hbl⟩
end Go.Proofs.YtmmnfkggfnokjaaGreat
namespace Go.Proofs.YtmmnfkggfnokjaaGreat
open Go.RowKit

/-! ### what a variable is bound to -/
theorem look_cons_yes {s : List Bnd} {b : Bnd} {n : Int} (h : b.v = n) : look (b :: s) n = some b.t := by
  unfold look
  rw [List.find?_cons_of_pos (by simp [h])]; rfl
theorem look_none {s : List Bnd} {n : Int} (h : ∀ b ∈ s, b.v ≠ n) : look s n = none := by
  unfold look
  rw [List.find?_eq_none.2 (fun b hb => by simp [h b hb])]; rfl
theorem look_hit {s : List Bnd} {n : Int} {k : Nat} (hk : k < s.length) (hlo : ∀ b ∈ s.take k, b.v ≠ n) (h : s[k].v = n) : look s n = some s[k].t := by
  have e : s = s.take k ++ s[k] :: s.drop (k + 1) := by rw [List.getElem_cons_drop, List.take_append_drop]
  have e2 : look (s.take k ++ s[k] :: s.drop (k + 1)) n = some s[k].t := by
    rw [look_append, look_none hlo, look_cons_yes h]; rfl
  rw [← e] at e2
  exact e2

set_option maxRecDepth 100000 in
set_option maxHeartbeats 2000000 in
theorem bound3_any (a : Option Addr) (cap : Nat) (n : Int) (w : World) (s : List Bnd) (hx : Row w a cap s) (hl : s.length ≤ 1000000) :
    Calls Tryz.prog 51 #[.slice a s.length cap, .int .i64 n] w fun e w' => ∃ a2 c2, e = .returned (.slice a2 ((look s n).getD []).length c2) ∧ Row w' a2 c2 ((look s n).getD []) ∧ Below w.heap.size w w' := by
  have hm := hx.max
  have hle := hx.le
  have HX := mkHid hx
  clear hx
  go_enter Tryz.func51, Tryz.ntmps51
  go_wp2_with fail
  go_loopw [5] (fun iv wr => ∃ i : Nat, i ≤ s.length ∧ iv = .int .i64 i ∧ Hid (∀ b ∈ s.take i, b.v ≠ n) ∧ Below w.heap.size w wr) (fun iv wr => s.length - (intOf iv).toNat)
  case atStart => exact ⟨0, Nat.zero_le _, rfl, by simp [Hid], Below.refl _ _⟩
  case round =>
    obtain ⟨i, hi, rfl, HS, hbl⟩ := hrel
    by_cases hlt : i < s.length
    · obtain ⟨b, off, rfl, _, hat⟩ := HX.out.cases.resolve_left (fun e => by simp [e] at hlt)
      obtain ⟨a1, cap1, d0, d1, hr1, lo, hi1⟩ := bnd_at hat hbl hlt
      have HR1 := mkHid hr1
      have hi0 : (0 : Int) ≤ (i : Int) := by omega
      have hi2 : (i : Int) < (s.length : Int) := by omega
      by_cases h : s[i].v = n
      · have t18 : (s[i].v == n) = true := by simp [h]
        have HL := mkHid (look_hit hlt HS.out h)
        clear h HS hat hr1
        go_wp2_with fail
        go_ret
        refine ⟨a1, cap1, by rw [HL.out]; rfl, by rw [HL.out]; exact HR1.out, hbl⟩
      · have t18 : (s[i].v == n) = false := by simp [h]
        have HN : Hid (∀ b ∈ s.take (i + 1), b.v ≠ n) := fun b hb => by
          rw [List.take_succ_eq_append_getElem hlt] at hb
          rcases List.mem_append.1 hb with hb | hb
          · exact HS.out b hb
          · rw [List.mem_singleton.1 hb]; exact h
        clear h HS hat hr1
        go_wp2_with fail
        go_round
        case rel => exact ⟨i + 1, by omega, by go_num, HN, hbl⟩
        case measure => simp [intOf]; omega
    · have HL : Hid (look s n = none) := look_none fun b hb => HS.out b (by rw [List.take_of_length_le (by omega)]; exact hb)
      clear HS
      go_wp2_with fail
      go_ret
      refine ⟨none, 0, by rw [HL.out]; rfl, by rw [HL.out]; exact Row.empty _ _ _ (by omega) (fun _ => rfl), hbl⟩
/-- one more binding -/
theorem look_upd {s : List Bnd} {n : Int} {x : List Cel} (h : look s n = none) : look (s ++ [⟨n, x⟩]) = updF (look s) n x := by
  funext v
  rw [look_append]
  unfold updF
  by_cases e : v = n
  · subst e
    rw [h, if_pos rfl, look_cons_yes rfl]; rfl
  · rw [if_neg e, look_none (s := [⟨n, x⟩]) (fun b hb => by rw [List.mem_singleton.1 hb]; exact fun h => e h.symm)]
    cases look s v <;> rfl
theorem look_upd_same {s : List Bnd} {n : Int} {x : List Cel} (h : look s n = some x) : updF (look s) n x = look s := by
  funext v
  unfold updF
  by_cases e : v = n
  · rw [if_pos e, e, h]
  · rw [if_neg e]
end Go.Proofs.YtmmnfkggfnokjaaGreat
namespace Go.Proofs.YtmmnfkggfnokjaaGreat
open Go.RowKit

/-! ### the document's Match -/
def SM (b o : Nat) (c : Cel) (w' : World) : Prop := w'.cell? ⟨b, o, none⟩ = some (.int .i64 c.k) ∧ w'.cell? ⟨b, o + 1, none⟩ = some (.string c.s) ∧ w'.cell? ⟨b, o + 2, none⟩ = some (.int .i64 c.n)
def MPost2 (p t : List Cel) (e : Ending) (w' : World) : Prop := ∃ a2 c2, e = .returned (.tuple #[.slice a2 (matchL p t).length c2, .bool (matchB p t)]) ∧ Row w' a2 c2 (matchL p t)
theorem mpost_no {p t : List Cel} {w' : World} (h : imgGo p t (fun _ => none) = none) : MPost2 p t (.returned (.tuple #[.slice none 0 0, .bool false])) w' := by
  have hb : matchB p t = false := by unfold matchB; rw [h]; rfl
  refine ⟨none, 0, ?_, ?_⟩
  · rw [hb, match_no hb]; rfl
  · rw [match_no hb]; exact Row.empty _ _ _ (by omega) (fun _ => rfl)
theorem img_var {c : Cel} {p t r X : List Cel} {f : Int → Option (List Cel)} (hk : c.k = 1) (hr : sk 1 t = some r) (hX : t = X ++ r) : imgGo (c :: p) t f = if (f c.n).all (fun q => decide (q = X)) then imgGo p r (updF f c.n X) else none := by
  have htake : t.take (t.length - r.length) = X := by
    rw [hX, List.length_append, Nat.add_sub_cancel]; exact List.take_left' rfl
  simp only [imgGo]
  rw [if_pos hk, hr]
  simp only [htake]
theorem img_cell {c d : Cel} {p t : List Cel} {f : Int → Option (List Cel)} (hk : c.k ≠ 1) : imgGo (c :: p) (d :: t) f = if c = d then imgGo p t f else none := by
  simp only [imgGo]
  rw [if_neg hk]
theorem AccInv.newC {w : World} {B e : Nat} {v : Value} {acc : List Cel} (h : AccInv B e acc v w) : ∃ a cap, v = .slice a acc.length cap ∧ NewRow B w a cap acc := by
  obtain ⟨vs, hown, hcr⟩ := h.ex
  exact own_newG hown (crows_cel hcr)

set_option maxRecDepth 100000 in
set_option maxHeartbeats 16000000 in
theorem match3_any (a : Option Addr) (cap : Nat) (a' : Option Addr) (cap' : Nat) (w : World) (p t : List Cel) (hp : Row w a cap p) (ht : Row w a' cap' t) (rp : rightB p = true) (rt : rightB t = true) :
    Calls Tryz.prog 26 #[.slice a p.length cap, .slice a' t.length cap'] w fun e w' => MPost2 p t e w' ∧ Below w.heap.size w w' := by
  have hmp := hp.max
  have hlp := hp.le
  have hmt := ht.max
  have hlt' := ht.le
  have hp200 := (isT_of_right rp).2.1
  have ht200 := (isT_of_right rt).2.1
  have HP := mkHid hp
  have HT := mkHid ht
  have HRP := mkHid rp
  have HRT := mkHid rt
  have HG := mkHid (right_good rt)
  have HL0 : Hid (Left p t) := left_right rp rt
  have HA0 : Hid (AccInv w.heap.size 44 ([] : List Bnd) (.slice (some ⟨w.heap.size, 0, none⟩) 0 0) (w.alloc (.cells #[] 44))) := AccInv.made w (Nat.le_refl _) rfl
  have hb0 := (Below.refl w.heap.size w).new (.cells #[] 44)
  clear hp ht rp rt
  go_enter Tryz.func26, Tryz.ntmps26
  go_wp2_with fail
  go_loopw [6, 7, 8, 9, 10] (fun v6 v7 v8 x1 x2 wr => ∃ (i k : Nat) (al : List Bnd) (a6 : Option Addr) (c6 : Nat), v6 = .slice a6 al.length c6 ∧ v7 = .int .i64 k ∧ v8 = .int .i64 i ∧ i ≤ p.length ∧ k ≤ t.length ∧ al.length ≤ i ∧ Hid (AccInv w.heap.size 44 al (.slice a6 al.length c6) wr) ∧ Hid (∀ b ∈ al, IsT b.t ∧ b.t.length ≤ 200) ∧ Hid (Left (p.drop i) (t.drop k)) ∧ Hid (imgGo p t (fun _ => none) = imgGo (p.drop i) (t.drop k) (look al)) ∧ Below w.heap.size w wr) (fun v6 v7 v8 x1 x2 wr => p.length - (intOf v8).toNat)
  case atStart => exact ⟨0, 0, [], _, _, rfl, rfl, rfl, Nat.zero_le _, Nat.zero_le _, Nat.le_refl _, HA0, by simp [Hid], by rw [List.drop_zero, List.drop_zero]; exact HL0, rfl, hb0⟩
  case round =>
    clear HA0 hb0 HL0
    obtain ⟨i, k, al, a6, c6, rfl, rfl, rfl, hi, hk, hal, HA, HAT, HL, HI, hbl⟩ := hrel
    obtain ⟨a6', c6', e6, hr6⟩ := HA.out.row
    cases e6
    have HRA := mkHid hr6
    clear hr6
    by_cases hlt : i < p.length
    · have hdp : p.drop i = p[i] :: p.drop (i + 1) := List.drop_eq_getElem_cons hlt
      have hleft := HL.out
      have himg := HI.out
      rw [hdp] at hleft himg
      obtain ⟨d, r, ed, hnext⟩ := left_cons hleft
      have hkt : k < t.length := by
        by_cases h : k < t.length
        · exact h
        · rw [List.drop_of_length_le (by omega)] at ed; cases ed
      have hdt : t.drop k = t[k] :: t.drop (k + 1) := List.drop_eq_getElem_cons hkt
      obtain ⟨bp, op, rfl, _, hatp⟩ := HP.out.cases.resolve_left (fun e => by simp [e] at hlt)
      obtain ⟨bt, ot, rfl, _, hatt⟩ := HT.out.cases.resolve_left (fun e => by simp [e] at hkt)
      obtain ⟨c0, c1, c2, hcf⟩ := cel_at hatp hbl hlt
      obtain ⟨d0, d1, d2, hdf⟩ := cel_at hatt hbl hkt
      have hi0 : (0 : Int) ≤ (i : Int) := by omega
      have hi1 : (i : Int) < (p.length : Int) := by omega
      have hk0 : (0 : Int) ≤ (k : Int) := by omega
      have hk1 : (k : Int) < (t.length : Int) := by omega
      have t26 : decide ((k : Int) ≥ (t.length : Int)) = false := decide_eq_false (by omega)
      have HATP := mkHid hatp
      by_cases hv : p[i].k = 1
      · have t32 : (p[i].k != 1) = false := by simp [hv]
        obtain ⟨r2, hr2, hleft2⟩ := left_var hleft hv
        obtain ⟨X, hX, hsX⟩ := sk_pre _ 1 r2 hr2
        have hXT := IsT_of_sk hsX
        have hend : endI t k = (t.length : Int) - r2.length := by unfold endI; rw [hr2]
        have hlens : X.length + r2.length = t.length - k := by
          have := congrArg List.length hX
          rw [List.length_drop, List.length_append] at this; omega
        have hX0 := List.length_pos_iff.2 hXT.ne
        obtain ⟨e, he⟩ : ∃ e, k + X.length = e := ⟨_, rfl⟩
        have hee : endI t k = (e : Int) := by omega
        have hr2d : r2 = t.drop e := by
          have h1 : (t.drop k).drop X.length = r2 := by rw [hX]; simp
          rw [List.drop_drop, he] at h1
          exact h1.symm
        subst hr2d
        obtain ⟨cd, hcd'⟩ : ∃ cd, cap' = k + (cd + 1) := ⟨cap' - k - 1, by omega⟩
        have HXR : Hid (Row w (some ⟨bt, ot + k * 3, none⟩) (cd + 1) X) := by
          have h := HT.out.slice (i := k) (j := e) (by omega) (by omega)
          have e1 : (t.drop k).take (e - k) = X := by
            rw [hX, show e - k = X.length by omega]; exact List.take_left' rfl
          rw [e1, show cap' - k = cd + 1 by omega] at h
          exact h
        have HEE := mkHid hee
        have hek : k < e := by omega
        have het : e ≤ t.length := by omega
        have HXT := mkHid (And.intro hXT (show X.length ≤ 200 by omega))
        have HLN : Hid ((e : Int) - (k : Int) = (X.length : Int)) := by rw [Hid]; omega
        have HLX : Hid (e - k = X.length) := by rw [Hid]; omega
        have HLF := mkHid hleft2
        have HIM : Hid (imgGo (p[i] :: p.drop (i + 1)) (t.drop k) (look al) = if (look al p[i].n).all (fun q => decide (q = X)) then imgGo (p.drop (i + 1)) (t.drop e) (updF (look al) p[i].n X) else none) := img_var hv hr2 hX
        have HI2 : Hid (imgGo p t (fun _ => none) = imgGo (p[i] :: p.drop (i + 1)) (t.drop k) (look al)) := himg
        have HS : Hid (∀ W', Below wr.heap.size wr W' → SM bp (op + i * 3) p[i] W') := fun W' h => ⟨keep c0 h, keep c1 h, keep c2 h⟩
        subst hcd'
        have hX200 : X.length ≤ 200 := by omega
        have hkc : (k : Int) ≤ ((k + (cd + 1) : Nat) : Int) := by omega
        have hke : (k : Int) ≤ (e : Int) := by omega
        have hec : (e : Int) ≤ ((k + (cd + 1) : Nat) : Int) := by omega
        have het' : (e : Int) ≤ (t.length : Int) := by omega
        have hec2 : (e : Int) ≤ (k : Int) + ((cd : Int) + 1) := by omega
        have hke2 : k ≤ e := by omega
        clear hv hr2 hX hsX hXT hend hlens hee he hleft2 himg hleft hdp ed hnext hdt hcf hdf d0 d1 d2 HL HI hatp hatt hX0
        go_wp2_with fail
        have hcd := (Below.refl wr.heap.size wr).drew
        refine wp_region_noPanic ?_
        refine wp_region_held_drew (S := SM bp (op + i * 3) p[i]) (by kernel_rfl) (HS.out _ hcd) (fun hSd => ?_)
        refine wpAnyH_take (i := 0) (oi := _) (v := ?_) rfl (by kernel_rfl) (by kernel_rfl) (by kernel_rfl) (fun _ _ _ h => h) (Or.inl ⟨by rfl, ?_⟩) (by assumption) ?_
        rotate_left
        · (intro w' hSw; obtain ⟨z0, z1, z2⟩ := hSw; go_simp; try with_reducible rfl)
        (try simp only [Act.put, List.setIfInBounds_toArray, List.set_cons_zero, List.set_cons_succ])
        refine wpAnyH_take (i := 1) (oi := _) (v := ?_) rfl (by kernel_rfl) (by kernel_rfl) (by kernel_rfl) (fun _ _ _ h => h) (Or.inl ⟨by rfl, ?_⟩) (by assumption) ?_
        rotate_left
        · (intro w' hSw; obtain ⟨z0, z1, z2⟩ := hSw; go_simp; try with_reducible rfl)
        (try simp only [Act.put, List.setIfInBounds_toArray, List.set_cons_zero, List.set_cons_succ])
        refine wpAnyH_take (i := 2) (oi := _) (v := ?_) rfl (by kernel_rfl) (by kernel_rfl) (by kernel_rfl) (fun _ _ _ h => h) (Or.inl ⟨by rfl, ?_⟩) (by assumption) ?_
        rotate_left
        · (intro w' hSw; obtain ⟨z0, z1, z2⟩ := hSw; go_simp; try with_reducible rfl)
        (try simp only [Act.put, List.setIfInBounds_toArray, List.set_cons_zero, List.set_cons_succ])
        refine wpAnyH_take (i := 3) (oi := _) (v := ?_) rfl (by kernel_rfl) (by kernel_rfl) (by kernel_rfl) (fun _ _ _ h => h) (Or.inl ⟨by rfl, ?_⟩) (by assumption) ?_
        rotate_left
        · (intro w' hSw; obtain ⟨z0, z1, z2⟩ := hSw; go_simp; try with_reducible rfl)
        (try simp only [Act.put, List.setIfInBounds_toArray, List.set_cons_zero, List.set_cons_succ])
        refine wpAnyH_take (i := 6) (oi := _) (v := ?_) rfl (by kernel_rfl) (by kernel_rfl) (by kernel_rfl) (fun _ _ _ h => h) (Or.inl ⟨by rfl, ?_⟩) (by assumption) ?_
        rotate_left
        · (intro w' hSw; obtain ⟨z0, z1, z2⟩ := hSw; go_simp; try with_reducible rfl)
        (try simp only [Act.put, List.setIfInBounds_toArray, List.set_cons_zero, List.set_cons_succ])
        refine wpAnyH_take (i := 7) (oi := _) (v := ?_) rfl (by kernel_rfl) (by kernel_rfl) (by kernel_rfl) (fun _ _ _ h => h) (Or.inl ⟨by rfl, ?_⟩) (by assumption) ?_
        rotate_left
        · (intro w' hSw; obtain ⟨z0, z1, z2⟩ := hSw; go_simp; try with_reducible rfl)
        (try simp only [Act.put, List.setIfInBounds_toArray, List.set_cons_zero, List.set_cons_succ])
        refine wpAnyH_take (i := 8) (oi := _) (v := ?_) rfl (by kernel_rfl) (by kernel_rfl) (by kernel_rfl) (fun _ _ _ h => h) (Or.inl ⟨by rfl, ?_⟩) (by assumption) ?_
        rotate_left
        · (intro w' hSw; obtain ⟨z0, z1, z2⟩ := hSw; go_simp; try with_reducible rfl)
        (try simp only [Act.put, List.setIfInBounds_toArray, List.set_cons_zero, List.set_cons_succ])
        refine wpAnyH_take (i := 9) (oi := _) (v := ?_) rfl (by kernel_rfl) (by kernel_rfl) (by kernel_rfl) (fun _ _ _ h => h) (Or.inl ⟨by rfl, ?_⟩) (by assumption) ?_
        rotate_left
        · (intro w' hSw; obtain ⟨z0, z1, z2⟩ := hSw; go_simp; try with_reducible rfl)
        (try simp only [Act.put, List.setIfInBounds_toArray, List.set_cons_zero, List.set_cons_succ])
        refine wpAnyH_take (i := 10) (oi := _) (v := ?_) rfl (by kernel_rfl) (by kernel_rfl) (by kernel_rfl) (fun _ _ _ h => h) (Or.inl ⟨by rfl, ?_⟩) (by assumption) ?_
        rotate_left
        · (intro w' hSw; obtain ⟨z0, z1, z2⟩ := hSw; go_simp; try with_reducible rfl)
        (try simp only [Act.put, List.setIfInBounds_toArray, List.set_cons_zero, List.set_cons_succ])
        refine wpAnyH_take (i := 11) (oi := _) (v := ?_) rfl (by kernel_rfl) (by kernel_rfl) (by kernel_rfl) (fun _ _ _ h => h) (Or.inl ⟨by rfl, ?_⟩) (by assumption) ?_
        rotate_left
        · (intro w' hSw; obtain ⟨z0, z1, z2⟩ := hSw; go_simp; try with_reducible rfl)
        (try simp only [Act.put, List.setIfInBounds_toArray, List.set_cons_zero, List.set_cons_succ])
        refine wpAnyH_ready (rs := [4]) (by kernel_rfl) (by simp) ?_
        refine AllReadyH.cons (o := _) rfl (fun K hK => ?_) AllReadyH.nil
        go_simp
        refine (end3_any _ (k + (cd + 1)) _ t (HT.out.below (hbl.then hcd)) HG.out hkt (by omega)).mono ?_
        rintro e1 w2 ⟨rfl, hb2⟩
        rw [HEE.out]
        have hd2 := hcd.then hb2
        try dsimp only
        refine hK.out _ _ (HS.out _ hd2) (fun hS2 => ?_)
        clear hK K
        (try simp only [Act.put, List.setIfInBounds_toArray, List.set_cons_zero, List.set_cons_succ])
        refine wpAnyH_take (i := 5) (oi := _) (v := ?_) rfl (by kernel_rfl) (by kernel_rfl) (by kernel_rfl) (fun _ _ _ h => h) (Or.inl ⟨by rfl, ?_⟩) (by assumption) ?_
        rotate_left
        · (intro w' hSw; obtain ⟨z0, z1, z2⟩ := hSw; go_simp; try with_reducible rfl)
        (try simp only [Act.put, List.setIfInBounds_toArray, List.set_cons_zero, List.set_cons_succ])
        refine wpAnyH_ready (rs := [12]) (by kernel_rfl) (by simp) ?_
        refine AllReadyH.cons (o := _) rfl (fun K hK => ?_) AllReadyH.nil
        go_simp
        refine (bound3_any _ c6 p[i].n _ al (HRA.out.below hd2) (by omega)).mono ?_
        rintro e1 w3 ⟨a10, c10, rfl, hr10, hb3⟩
        have hd3 := hd2.then hb3
        have HR10 := mkHid hr10
        clear hr10
        try dsimp only
        refine hK.out _ _ (HS.out _ hd3) (fun hS3 => ?_)
        clear hK K
        (try simp only [Act.put, List.setIfInBounds_toArray, List.set_cons_zero, List.set_cons_succ])
        refine wpAnyH_take (i := 13) (oi := _) (v := ?_) rfl (by kernel_rfl) (by kernel_rfl) (by kernel_rfl) (fun _ _ _ h => h) (Or.inl ⟨by rfl, ?_⟩) (by assumption) ?_
        rotate_left
        · (intro w' hSw; obtain ⟨z0, z1, z2⟩ := hSw; go_simp; try with_reducible rfl)
        (try simp only [Act.put, List.setIfInBounds_toArray, List.set_cons_zero, List.set_cons_succ])
        refine wpAnyH_take (i := 14) (oi := _) (v := ?_) rfl (by kernel_rfl) (by kernel_rfl) (by kernel_rfl) (fun _ _ _ h => h) (Or.inl ⟨by rfl, ?_⟩) (by assumption) ?_
        rotate_left
        · (intro w' hSw; obtain ⟨z0, z1, z2⟩ := hSw; go_simp; try with_reducible rfl)
        (try simp only [Act.put, List.setIfInBounds_toArray, List.set_cons_zero, List.set_cons_succ])
        refine wpAnyH_done (by kernel_rfl) (NoPanic.normal ?_) _
        clear hS3
        rw [HLX.out]
        have hw3 : Below wr.heap.size wr w3 := hd3
        have hbl3 := hbl.then hw3
        have HA3 := mkHid (HA.out.below hw3)
        have HX3 := mkHid (HXR.out.below hbl3)
        have c2' := keep c2 hw3
        clear c0 c1 c2 hd2 hd3 hcd hSd hS2
        cases hq : look al p[i].n with
        | none =>
          have HQ0 : Hid ((look al p[i].n).getD [] = []) := by rw [Hid, hq]; rfl
          have HQN := mkHid hq
          have HIMN : Hid (imgGo p t (fun _ => none) = imgGo (p.drop (i + 1)) (t.drop e) (look (al ++ [⟨p[i].n, X⟩]))) := by
            have h := HIM.out
            rw [hq] at h
            rw [Hid, HI2.out, h, look_upd hq]; rfl
          have HROWX := mkHid (HXR.out.keeps (HA3.out.fresh hbl3))
          have hs3 := hbl3.size
          have hlo := (HP.out.fit _ (List.getElem_mem hlt)).n1
          have hhi := (HP.out.fit _ (List.getElem_mem hlt)).n2
          have HNB := mkHid (And.intro hlo hhi)
          rw [show ((none : Option (List Cel)).getD []) = [] from rfl]
          clear hq HR10 hlo hhi
          go_wp2_with (at_builtin; refine wpList_acc (α := Bnd) rfl _ _ 40 rfl w.heap.size 44 32 _ Tryz.underlying40 Tryz.infoBind rfl (by decide) _ al HA3.out rfl _ #[.int .i64 p[i].n, .slice (some ⟨bt, ot + k * 3, none⟩) X.length (cd + 1)] (⟨p[i].n, X⟩ : Bnd) ⟨⟨_, _, rfl, HROWX.out⟩, HNB.out.1, HNB.out.2⟩ rfl (by omega) hs3 ?_; intro v' w4 hacc4 hb4)
          have hbl4 := hbl3.trans hb4
          obtain ⟨a7, c7, rfl, hr7⟩ := hacc4.row
          have HA4 := mkHid hacc4
          clear hacc4 hr7 c2'
          go_wp2_with fail
          refine (end3_any _ (k + (cd + 1)) _ t (HT.out.below hbl4) HG.out hkt (by omega)).mono ?_
          rintro e1 w5 ⟨rfl, hb5⟩
          rw [HEE.out]
          have HA5 := mkHid (HA4.out.below hb5)
          have hbl5 := hbl4.then hb5
          have HATN : Hid (∀ b ∈ al ++ [⟨p[i].n, X⟩], IsT b.t ∧ b.t.length ≤ 200) := fun b hb => by
            rcases List.mem_append.1 hb with h | h
            · exact HAT.out b h
            · rw [List.mem_singleton.1 h]; exact HXT.out
          go_wp2_with fail
          go_round
          case rel => exact ⟨i + 1, e, al ++ [⟨p[i].n, X⟩], _, _, by rw [List.length_append]; rfl, rfl, by go_num, by omega, by omega, by simp; omega, HA5, HATN, HLF, HIMN, hbl5⟩
          case measure => simp [intOf]; omega
        | some q =>
          have HQ0 : Hid ((look al p[i].n).getD [] = q) := by rw [Hid, hq]; rfl
          obtain ⟨bb, hbb, _, hbt⟩ := look_mem hq
          have hq0 : 0 < q.length := by rw [← hbt]; exact List.length_pos_iff.2 (HAT.out bb hbb).1.ne
          have hr10 := HR10.out
          rw [HQ0.out] at hr10
          have HRQ := mkHid hr10
          have t58 : decide ((q.length : Int) > 0) = true := decide_eq_true (by omega)
          have t68 : ((q.length : Int) == 0) = false := by rw [beq_eq_false_iff_ne]; omega
          rw [show ((some q : Option (List Cel)).getD []) = q from rfl]
          by_cases hqx : q = X
          · have HIMN : Hid (imgGo p t (fun _ => none) = imgGo (p.drop (i + 1)) (t.drop e) (look al)) := by
              have h := HIM.out
              rw [hq] at h
              rw [hqx] at hq h
              rw [Hid, HI2.out, h, look_upd_same hq]
              simp
            have HSM : Hid (decide (q = X) = true) := decide_eq_true hqx
            clear hq hbb hbt hr10 hqx HR10
            go_wp2_with fail
            refine (usame1 HRQ.out HX3.out HSM.out).mono ?_
            rintro e1 w4 ⟨rfl, hb4⟩
            have hbl4 := hbl3.then hb4
            have HA4 := mkHid (HA3.out.below hb4)
            clear c2'
            go_wp2_with fail
            refine (end3_any _ (k + (cd + 1)) _ t (HT.out.below hbl4) HG.out hkt (by omega)).mono ?_
            rintro e1 w5 ⟨rfl, hb5⟩
            rw [HEE.out]
            have HA5 := mkHid (HA4.out.below hb5)
            have hbl5 := hbl4.then hb5
            go_wp2_with fail
            go_round
            case rel => exact ⟨i + 1, e, al, _, _, rfl, rfl, by go_num, by omega, by omega, by omega, HA5, HAT, HLF, HIMN, hbl5⟩
            case measure => simp [intOf]; omega
          · have HNO : Hid (imgGo p t (fun _ => none) = none) := by
              have h := HIM.out
              rw [hq] at h
              rw [Hid, HI2.out, h, if_neg (by simp [hqx])]
            have HSM : Hid (decide (q = X) = false) := decide_eq_false hqx
            clear hq hbb hbt hr10 hqx HR10
            go_wp2_with fail
            refine (usame1 HRQ.out HX3.out HSM.out).mono ?_
            rintro e1 w4 ⟨rfl, hb4⟩
            have hbl4 := hbl3.then hb4
            go_wp2_with fail
            go_ret2
            exact ⟨mpost_no HNO.out, hbl4⟩
      · have t32 : (p[i].k != 1) = true := by simp [hv]
        have hneq := fun w => run_neq_cel p[i] t[k] w
        rw [hdt, img_cell hv] at himg
        rw [hdt, List.cons.injEq] at ed
        by_cases he : p[i] = t[k]
        · rw [decide_eq_true he] at hneq
          have HLF : Hid (Left (p.drop (i + 1)) (t.drop (k + 1))) := by
            have h := hnext (by rw [he]; exact ed.1)
            rw [← ed.2] at h; exact h
          have HIMN : Hid (imgGo p t (fun _ => none) = imgGo (p.drop (i + 1)) (t.drop (k + 1)) (look al)) := by
            rw [if_pos he] at himg; exact himg
          clear he hv himg hleft hdp hdt ed hnext HL HI hcf hdf hatp hatt
          go_wp2
          go_quiet (fail)
          go_wp2
          go_round
          case rel => exact ⟨i + 1, k + 1, al, _, _, rfl, by go_num, by go_num, by omega, by omega, by omega, mkHid (HA.out.below ⟨rfl, rfl, rfl, Nat.le_refl _, fun _ _ => rfl⟩), HAT, HLF, HIMN, ⟨hbl.os, hbl.tape, hbl.output, hbl.size, hbl.block⟩⟩
          case measure => simp [intOf]; omega
        · rw [decide_eq_false he] at hneq
          have HNO : Hid (imgGo p t (fun _ => none) = none) := by
            rw [if_neg he] at himg; exact himg
          clear he hv himg hleft hdp hdt ed hnext HL HI hcf hdf hatp hatt
          go_wp2
          go_quiet (fail)
          go_wp2
          go_ret2
          exact ⟨mpost_no HNO.out, ⟨hbl.os, hbl.tape, hbl.output, hbl.size, hbl.block⟩⟩
    · have hfin : imgGo p t (fun _ => none) = some (look al) := by
        have h := HI.out
        rw [List.drop_of_length_le (show p.length ≤ i by omega)] at h
        rw [h]; simp [imgGo]
      have HB : Hid (matchB p t = true) := by rw [Hid]; unfold matchB; rw [hfin]; rfl
      have HML : Hid (matchL p t = bindL (fun v => (look al v).getD []) (riseI (varsL p))) := by rw [Hid]; unfold matchL; rw [hfin]
      have HIO := mkHid (img_yes p t 1 _ _ (right_sk2 HRP.out) (right_sk2 HRT.out) hfin)
      have HTL : Hid (∀ v, ((look al v).getD []).length ≤ 200) := fun v => by
        cases hq : look al v with
        | none => simp
        | some q => obtain ⟨bb, hbb, _, hbt⟩ := look_mem hq; simp only [Option.getD_some]; rw [← hbt]; exact (HAT.out bb hbb).2
      obtain ⟨WB, hWB⟩ : ∃ W, W = wr := ⟨_, rfl⟩
      subst hWB
      have hs0 := hbl.size
      have hb1 := (Below.refl WB.heap.size WB).new (.cells #[] 44)
      have HO0 : Hid (AccInv WB.heap.size 44 ([] : List Bnd) (.slice (some ⟨WB.heap.size, 0, none⟩) 0 0) (WB.alloc (.cells #[] 44))) := AccInv.made WB (Nat.le_refl _) rfl
      have hal' : al.length ≤ 1000000 := by omega
      clear hfin HI HL
      go_wp2_with fail
      refine (rising3_any a cap _ p (HP.out.below (hbl.then hb1)) (by omega)).mono ?_
      rintro e1 w5 ⟨a12, c12, rfl, hr12, hb5⟩
      have hb15 := hb1.then hb5
      have HO5 := mkHid (HO0.out.below hb5)
      have HR5 := mkHid (HO0.out.newer (Nat.le_refl _) hr12)
      obtain ⟨Rv, hRv⟩ : ∃ R, riseI (varsL p) = R := ⟨_, rfl⟩
      have HRV : Hid (∀ v ∈ Rv, ∃ c ∈ p, c.k = 1 ∧ c.n = v) := fun v hv => by
        rw [← hRv] at hv
        exact varsL_iff.1 (riseI_mem hv)
      have hRl : Rv.length ≤ 200 := by
        rw [← hRv]
        have l2 := riseI_le (varsL p)
        have l3 := varsGo_length p []
        rw [show varsGo [] p = varsL p from rfl, List.length_nil, Nat.zero_add] at l3
        omega
      rw [hRv] at HR5 HML ⊢
      obtain ⟨F, hF⟩ : ∃ F : Int → List Cel, (fun v => (look al v).getD []) = F := ⟨_, rfl⟩
      rw [hF] at HML
      have HFV : Hid (∀ v, (look al v).getD [] = F v) := fun v => by rw [← hF]
      clear hRv hF hr12 HO0 hb1 hb5
      go_wp2_with fail
      go_loopw [11, 13, 14, 15] (fun v11 jv x1 x2 wz => ∃ (j : Nat) (a11 : Option Addr) (c11 : Nat), v11 = .slice a11 (bindL F (Rv.take j)).length c11 ∧ jv = .int .i64 j ∧ j ≤ Rv.length ∧ Hid (AccInv WB.heap.size 44 (bindL F (Rv.take j)) (.slice a11 (bindL F (Rv.take j)).length c11) wz) ∧ Hid (Row (hide (Value.slice a11 (bindL F (Rv.take j)).length c11).ownBlock wz) a12 c12 Rv) ∧ Below WB.heap.size WB wz) (fun v11 jv x1 x2 wz => Rv.length - (intOf jv).toNat)
      case atStart => exact ⟨0, _, _, rfl, rfl, Nat.zero_le _, HO5, HR5, hb15⟩
      case round =>
        clear HO5 HR5 hb15
        obtain ⟨j, a11, c11, rfl, rfl, hj, HO, HRR, hbz⟩ := hrel
        have HRW := mkHid (HRR.out.keeps (hide_keeps _ _))
        by_cases hjl : j < Rv.length
        · obtain ⟨b12, o12, rfl, _, hat12⟩ := HRW.out.cases.resolve_left (fun e => by simp [e] at hjl)
          have e0 := (int_at hat12 (Below.refl _ _) hjl).c
          have hnlo := (int_at hat12 (Below.refl _ _) hjl).lo
          have hnhi := (int_at hat12 (Below.refl _ _) hjl).hi
          obtain ⟨c, hc, hck, hcn⟩ := HRV.out _ (List.getElem_mem hjl)
          obtain ⟨q, hq⟩ := HIO.out.has c hc hck
          rw [hcn] at hq
          have hbt := bind_take (F := F) hjl
          obtain ⟨n, hn⟩ : ∃ n, Rv[j] = n := ⟨_, rfl⟩
          rw [hn] at e0 hq hbt hnlo hnhi
          have HBC := mkHid hbt
          have HNB := mkHid (And.intro hnlo hnhi)
          have HFQ : Hid (F n = q) := by rw [Hid, ← HFV.out n, hq]; rfl
          obtain ⟨bb, hbb, _, hbt2⟩ := look_mem hq
          have hqT := (HAT.out bb hbb).1
          have hq200 := (HAT.out bb hbb).2
          rw [hbt2] at hqT hq200
          have q0 := List.length_pos_iff.2 hqT.ne
          have hok := isT_ok hqT _ (List.getElem_mem q0)
          have hhead : q.head? = some q[0] := by rw [List.head?_eq_getElem?, List.getElem?_eq_getElem q0]
          have HGQ : Hid ((look al n).getD [] = q) := by rw [Hid, hq]; rfl
          have hj0 : (0 : Int) ≤ (j : Int) := by omega
          have hj1 : (j : Int) < (Rv.length : Int) := by omega
          clear hn hat12 hcn hbt hbt2 hnlo hnhi hbb hc hck hq
          go_wp2_with fail
          refine (bound3_any a6 c6 n _ al (HRA.out.below hbz) hal').mono ?_
          rintro e1 w6 ⟨a15, c15, rfl, hr15, hb6⟩
          rw [HGQ.out] at hr15 ⊢
          have HR15 := mkHid hr15
          have HO6 := mkHid (HO.out.below hb6)
          have HRR6 := mkHid (HRR.out.keeps (below_hide hb6 _))
          obtain ⟨b15, o15, rfl, _, hat15⟩ := hr15.cases.resolve_left (fun e => by simp [e] at q0)
          obtain ⟨m0, m1, m2, hmf⟩ := cel_at hat15 (Below.refl _ _) q0
          simp only [Nat.zero_mul, Nat.add_zero] at m0 m1 m2
          obtain ⟨d, hd⟩ : ∃ d, q[0] = d := ⟨_, rfl⟩
          rw [hd] at m0 m1 m2 hok hhead
          have q0i : (0 : Int) < (q.length : Int) := by omega
          have HHD := mkHid hhead
          have HOK := mkHid hok
          clear hd hmf hat15 hr15 hok hhead hqT e0
          by_cases hdk : d.k = 1
          · have t102 : (d.k != 1) = false := by simp [hdk]
            by_cases hdn : d.n = n
            · have t109 : (d.n != n) = false := by simp [hdn]
              have HBT : Hid (bindL F (Rv.take (j + 1)) = bindL F (Rv.take j)) := by
                rw [Hid, HBC.out]
                unfold bindC
                rw [HFQ.out, HHD.out, if_pos (by rw [cellOk_var HOK.out hdk, hdn]; rfl), List.append_nil]
              clear hdk hdn
              go_wp2_with fail
              go_round
              case rel => exact ⟨j + 1, a11, c11, by rw [HBT.out], by go_num, by omega, by rw [HBT.out]; exact HO6, by rw [HBT.out]; exact HRR6, hbz.then hb6⟩
              case measure => simp [intOf]; omega
            · have t109 : (d.n != n) = true := by simp [hdn]
              have HNH : Hid (¬ q.head? = some ⟨1, ⟨#[]⟩, n⟩) := by
                rw [Hid, HHD.out]
                intro h
                injection h with h
                exact hdn (by rw [h])
              clear hdk hdn
              have HBT : Hid (bindL F (Rv.take (j + 1)) = bindL F (Rv.take j) ++ [⟨n, q⟩]) := by
                rw [Hid, HBC.out]
                unfold bindC
                rw [HFQ.out, if_neg HNH.out]
              have HC0 : Hid (AccInv w6.heap.size 42 ([] : List Cel) (.slice (some ⟨w6.heap.size, 0, none⟩) 0 0) (w6.alloc (.cells #[] 42))) := AccInv.made w6 (Nat.le_refl _) rfl
              have hn6 := (Below.refl w6.heap.size w6).new (.cells #[] 42)
              have HRC := mkHid (HR15.out.keeps (HC0.out.fresh hn6))
              have hs6 := hn6.size
              have hlb : (bindL F (Rv.take j)).length ≤ 200 := by
                have := bind_le F (Rv.take j)
                rw [List.length_take] at this; omega
              have hbz6 := hbz.then hb6
              go_wp2_with (first
                | (at_builtin; refine wpList_accs (α := Cel) rfl _ _ 23 rfl w6.heap.size 42 32 _ Tryz.underlying23 Tryz.infoCell rfl (by decide) _ [] HC0.out (by rfl) _ _ q HRC.out (by rfl) (by simp; omega) hs6 ?_; intro v7 w7 hacc7 hb7; rw [List.nil_append] at hacc7; obtain ⟨a17, c17, rfl, hnew7⟩ := hacc7.newC; have hb67 := hn6.trans hb7; have HO7 := mkHid (HO6.out.below hb67); have HROW7 := mkHid (HO6.out.newer (Nat.le_refl _) hnew7); have HRR7 := mkHid (HRR6.out.keeps (below_hide hb67 _)); have hbz7 := hbz6.then hb67; have hs7 := hbz7.size; clear hacc7 hnew7 hb7)
                | (at_builtin; refine wpList_accK (α := Bnd) rfl _ _ 40 rfl WB.heap.size 44 32 _ Tryz.underlying40 Tryz.infoBind rfl (by decide) _ (bindL F (Rv.take j)) HO7.out rfl _ #[.int .i64 n, .slice a17 q.length c17] (⟨n, q⟩ : Bnd) ⟨⟨_, _, rfl, HROW7.out⟩, HNB.out.1, HNB.out.2⟩ rfl (by omega) hs7 ?_; intro v8 w8 hacc8 hb8 hk8))
              obtain ⟨a18, c18, rfl, _⟩ := hacc8.row
              have hbz8 := hbz7.trans hb8
              have hrr8 := HRR7.out.keeps hk8
              have hle8 : (bindL F (Rv.take j)).length + 1 = (bindL F (Rv.take (j + 1))).length := by rw [HBT.out, List.length_append]; rfl
              have HO8 : Hid (AccInv WB.heap.size 44 (bindL F (Rv.take (j + 1))) (.slice a18 (bindL F (Rv.take (j + 1))).length c18) w8) := by
                rw [Hid, HBT.out]; exact hacc8
              have HRR8 : Hid (Row (hide (Value.slice a18 (bindL F (Rv.take (j + 1))).length c18).ownBlock w8) (some ⟨b12, o12, none⟩) c12 Rv) := (by rw [Hid, HBT.out]; exact hrr8)
              have HLE8 := mkHid hle8
              clear hacc8 hrr8 hk8 hb8 hle8
              first | rw [HLE8.out] | rw [show (bindL F (Rv.take j) ++ [(⟨n, q⟩ : Bnd)]).length = (bindL F (Rv.take (j + 1))).length by rw [HBT.out]]
              go_round
              case rel => exact ⟨j + 1, a18, c18, rfl, by go_num, by omega, HO8, HRR8, hbz8⟩
              case measure => simp [intOf]; omega
          · have t102 : (d.k != 1) = true := by simp [hdk]
            have HNH : Hid (¬ q.head? = some ⟨1, ⟨#[]⟩, n⟩) := by
              rw [Hid, HHD.out]
              intro h
              injection h with h
              exact hdk (by rw [h])
            clear hdk
            have HBT : Hid (bindL F (Rv.take (j + 1)) = bindL F (Rv.take j) ++ [⟨n, q⟩]) := by
              rw [Hid, HBC.out]
              unfold bindC
              rw [HFQ.out, if_neg HNH.out]
            have HC0 : Hid (AccInv w6.heap.size 42 ([] : List Cel) (.slice (some ⟨w6.heap.size, 0, none⟩) 0 0) (w6.alloc (.cells #[] 42))) := AccInv.made w6 (Nat.le_refl _) rfl
            have hn6 := (Below.refl w6.heap.size w6).new (.cells #[] 42)
            have HRC := mkHid (HR15.out.keeps (HC0.out.fresh hn6))
            have hs6 := hn6.size
            have hlb : (bindL F (Rv.take j)).length ≤ 200 := by
              have := bind_le F (Rv.take j)
              rw [List.length_take] at this; omega
            have hbz6 := hbz.then hb6
            go_wp2_with (first
              | (at_builtin; refine wpList_accs (α := Cel) rfl _ _ 23 rfl w6.heap.size 42 32 _ Tryz.underlying23 Tryz.infoCell rfl (by decide) _ [] HC0.out (by rfl) _ _ q HRC.out (by rfl) (by simp; omega) hs6 ?_; intro v7 w7 hacc7 hb7; rw [List.nil_append] at hacc7; obtain ⟨a17, c17, rfl, hnew7⟩ := hacc7.newC; have hb67 := hn6.trans hb7; have HO7 := mkHid (HO6.out.below hb67); have HROW7 := mkHid (HO6.out.newer (Nat.le_refl _) hnew7); have HRR7 := mkHid (HRR6.out.keeps (below_hide hb67 _)); have hbz7 := hbz6.then hb67; have hs7 := hbz7.size; clear hacc7 hnew7 hb7)
              | (at_builtin; refine wpList_accK (α := Bnd) rfl _ _ 40 rfl WB.heap.size 44 32 _ Tryz.underlying40 Tryz.infoBind rfl (by decide) _ (bindL F (Rv.take j)) HO7.out rfl _ #[.int .i64 n, .slice a17 q.length c17] (⟨n, q⟩ : Bnd) ⟨⟨_, _, rfl, HROW7.out⟩, HNB.out.1, HNB.out.2⟩ rfl (by omega) hs7 ?_; intro v8 w8 hacc8 hb8 hk8))
            obtain ⟨a18, c18, rfl, _⟩ := hacc8.row
            have hbz8 := hbz7.trans hb8
            have hrr8 := HRR7.out.keeps hk8
            have hle8 : (bindL F (Rv.take j)).length + 1 = (bindL F (Rv.take (j + 1))).length := by rw [HBT.out, List.length_append]; rfl
            have HO8 : Hid (AccInv WB.heap.size 44 (bindL F (Rv.take (j + 1))) (.slice a18 (bindL F (Rv.take (j + 1))).length c18) w8) := by
              rw [Hid, HBT.out]; exact hacc8
            have HRR8 : Hid (Row (hide (Value.slice a18 (bindL F (Rv.take (j + 1))).length c18).ownBlock w8) (some ⟨b12, o12, none⟩) c12 Rv) := (by rw [Hid, HBT.out]; exact hrr8)
            have HLE8 := mkHid hle8
            clear hacc8 hrr8 hk8 hb8 hle8
            first | rw [HLE8.out] | rw [show (bindL F (Rv.take j) ++ [(⟨n, q⟩ : Bnd)]).length = (bindL F (Rv.take (j + 1))).length by rw [HBT.out]]
            go_round
            case rel => exact ⟨j + 1, a18, c18, rfl, by go_num, by omega, HO8, HRR8, hbz8⟩
            case measure => simp [intOf]; omega
        · have hall : Rv.take j = Rv := List.take_of_length_le (by omega)
          have ho := HO.out
          obtain ⟨a19, c19, e19, hr19⟩ := ho.row
          cases e19
          have HE : Hid (MPost2 p t (.returned (.tuple #[.slice a11 (bindL F (Rv.take j)).length c11, .bool true])) wr) := by
            refine ⟨a11, c11, ?_, ?_⟩
            · rw [HB.out, HML.out, hall]
            · rw [HML.out]; rw [hall] at hr19; exact hr19
          clear hall ho hr19
          go_wp2_with fail
          go_ret2
          exact ⟨HE.out, hbl.then hbz⟩
end Go.Proofs.YtmmnfkggfnokjaaGreat
namespace Go.Proofs.YtmmnfkggfnokjaaGreat
open Go.RowKit

/-! ### the document's Drop, Find, Diff -/
set_option maxHeartbeats 3200000 in
set_option maxRecDepth 100000 in
theorem refdropF_any (a : Option Addr) (cap : Nat) (l : List (List Cel)) (a' : Option Addr) (cap' : Nat) (t : List Cel) (w : World) (hr : Row w a cap l) (ht : Row w a' cap' t) (hl : l.length ≤ 512) :
    Calls Tryz.prog 14 #[.slice a l.length cap, .slice a' t.length cap'] w fun e w' => ∃ a2 c2, e = .returned (.tuple #[.slice a2 (dropF l t).length c2, .int .i64 (dropE l t)]) ∧ Row w' a2 c2 (dropF l t) ∧ Below w.heap.size w w' := by
  have hm := hr.max
  have hm2 := hr.le
  have hm3 := ht.max
  have hm4 := ht.le
  obtain ⟨q, hq⟩ : ∃ q, factB t = q := ⟨_, rfl⟩
  have HQ := mkHid hq
  obtain ⟨g, hg⟩ : ∃ g, decide (t ∈ l) = g := ⟨_, rfl⟩
  have HG := mkHid hg
  clear hq hg
  go_enter Tryz.func14, Tryz.ntmps14
  go_wp2_with fail
  refine (reffact_is ht HQ).mono ?_; rintro e w1 ⟨rfl, hb1⟩
  cases q with
  | false =>
    have HE : Hid (dropE l t = 120) := by unfold Hid dropE; rw [HQ.out]; rfl
    have HL : Hid (dropF l t = []) := by unfold Hid dropF; rw [HQ.out]; rfl
    go_wp2_with fail
    go_ret2
    rw [HE.out, HL.out]
    exact ⟨none, 0, rfl, nilRow _, hb1⟩
  | true =>
  go_wp2_with fail
  refine (refhasK (hr.below hb1) (ht.below hb1) HG).mono ?_; rintro e w2 ⟨rfl, hb2⟩
  have hbB := hb1.then hb2
  cases g with
  | false =>
    have HE : Hid (dropE l t = 3) := by unfold Hid dropE; rw [if_pos HQ.out, if_neg (of_decide_eq_false HG.out)]
    have HL : Hid (dropF l t = []) := by unfold Hid dropF; rw [if_pos HQ.out, if_neg (of_decide_eq_false HG.out)]
    go_wp2_with fail
    go_ret2
    rw [HE.out, HL.out]
    exact ⟨none, 0, rfl, nilRow _, hbB⟩
  | true =>
  have HE : Hid (dropE l t = 0) := by unfold Hid dropE; rw [if_pos HQ.out, if_pos (of_decide_eq_true HG.out)]
  have HL : Hid (dropF l t = l.filter (fun x => !decide (x = t))) := by unfold Hid dropF; rw [if_pos HQ.out, if_pos (of_decide_eq_true HG.out)]
  have hrB := hr.below hbB
  have htB := ht.below hbB
  have hm0 := AccInv.made (α := List Cel) (B := w2.heap.size) (e := 23) (T := 23) w2 (Nat.le_refl _) rfl
  have hb0 := (Below.refl w2.heap.size w2).new (.cells #[] 23)
  go_wp2_with fail
  go_loopw [6, 7] (fun v i wr => ∃ (k : Nat) (A : List (List Cel)), k ≤ l.length ∧ A.length ≤ k ∧ i = .int .i64 k ∧ AccInv w2.heap.size 23 A v wr ∧ Below w2.heap.size w2 wr ∧ Hid ((l.take k).filter (fun x => !decide (x = t)) = A)) (fun v i wr => l.length - (intOf i).toNat)
  case atStart => exact ⟨0, [], Nat.zero_le _, Nat.le_refl _, rfl, hm0, hb0, rfl⟩
  case round =>
    clear hm0 hb0
    obtain ⟨k, A, hk, hA, rfl, hacc, hbl, HS⟩ := hrel
    by_cases hlt : k < l.length
    · obtain ⟨b, off, rfl, hb, hat⟩ := hrB.cases.resolve_left (fun e => by simp [e] at hlt)
      obtain ⟨a1, cap1, d0, rx⟩ := list_at hat (Below.refl _ _) hlt
      have c0 := keep d0 hbl
      have r1 := rx.below hbl
      have t1 := htB.below hbl
      obtain ⟨q, hq⟩ : ∃ q, (fun x => !decide (x = t)) l[k] = q := ⟨_, rfl⟩
      have HQ := mkHid hq
      have HD : Hid (decide (l[k] = t) = !q) := by rw [Hid, ← hq]; simp
      clear hq
      cases q with
      | false =>
        have HT : Hid ((l.take (k + 1)).filter (fun x => !decide (x = t)) = A) := by rw [Hid, filt_no hlt HQ.out, HS.out]
        clear HS
        go_wp2_with fail
        refine (refsameF_is (d := true) r1 t1 HD).mono ?_; rintro e w4 ⟨rfl, hb1⟩
        have hacc1 := hacc.below hb1
        have hbl1 := hbl.then hb1
        go_wp2_with fail
        go_round
        case rel => exact ⟨k + 1, A, by omega, by omega, by go_num, hacc1, hbl1, HT⟩
        case measure => simp [intOf]; omega
      | true =>
        have HT : Hid ((l.take (k + 1)).filter (fun x => !decide (x = t)) = A ++ [l[k]]) := by rw [Hid, filt_yes hlt HQ.out, HS.out]
        clear HS
        go_wp2_with fail
        refine (refsameF_is (d := false) r1 t1 HD).mono ?_; rintro e w4 ⟨rfl, hb1⟩
        have hacc1 := hacc.below hb1
        have hbl1 := hbl.then hb1
        have hsz1 := hbl1.size
        have c1 := keep c0 hb1
        have hrh := rx.keeps (hacc1.fresh hbl1)
        go_wp2_with (at_builtin; refine wpList_acc (α := List Cel) rfl _ _ 22 rfl w2.heap.size 23 24 _ Tryz.underlying22 Tryz.infoSl rfl (by decide) _ A hacc1 (by rfl) _ #[.slice a1 l[k].length cap1] l[k] ⟨a1, cap1, rfl, hrh⟩ (by rfl) (by omega) hsz1 ?_; intro v9 w9 hacc9 hb9)
        go_round
        case rel => exact ⟨k + 1, A ++ [l[k]], by omega, by simp; omega, by go_num, hacc9, hbl1.trans hb9, HT⟩
        case measure => simp [intOf]; omega
    · have HT : Hid (l.filter (fun x => !decide (x = t)) = A) := by rw [Hid, ← HS.out, List.take_of_length_le (by omega)]
      obtain ⟨a9, c9, rfl, r9⟩ := hacc.row
      clear HS
      go_wp2_with fail
      go_ret2
      rw [HE.out, HL.out, HT.out]
      exact ⟨a9, c9, rfl, r9, hbB.then hbl⟩

set_option maxHeartbeats 3200000 in
set_option maxRecDepth 100000 in
theorem reffindF_any (a : Option Addr) (cap : Nat) (l : List (List Cel)) (a' : Option Addr) (cap' : Nat) (t : List Cel) (w : World) (hrB : Row w a cap l) (htB : Row w a' cap' t) (hF : FR l) (rt : rightB t = true) :
    Calls Tryz.prog 23 #[.slice a l.length cap, .slice a' t.length cap'] w fun e w' => ∃ a2 c2, e = .returned (.slice a2 (l.filter (matchB t)).length c2) ∧ Row w' a2 c2 (l.filter (matchB t)) ∧ Below w.heap.size w w' := by
  have hm := hrB.max
  have hm2 := hrB.le
  have hl := hF.len
  have HF := mkHid hF
  have RT := mkHid rt
  clear hF rt
  go_enter Tryz.func23, Tryz.ntmps23
  have hm0 := AccInv.made (α := List Cel) (B := w.heap.size) (e := 23) (T := 23) w (Nat.le_refl _) rfl
  have hb0 := (Below.refl w.heap.size w).new (.cells #[] 23)
  go_wp2_with fail
  go_loopw [5, 6] (fun v i wr => ∃ (k : Nat) (A : List (List Cel)), k ≤ l.length ∧ A.length ≤ k ∧ i = .int .i64 k ∧ AccInv w.heap.size 23 A v wr ∧ Below w.heap.size w wr ∧ Hid ((l.take k).filter (matchB t) = A)) (fun v i wr => l.length - (intOf i).toNat)
  case atStart => exact ⟨0, [], Nat.zero_le _, Nat.le_refl _, rfl, hm0, hb0, rfl⟩
  case round =>
    clear hm0 hb0
    obtain ⟨k, A, hk, hA, rfl, hacc, hbl, HS⟩ := hrel
    by_cases hlt : k < l.length
    · obtain ⟨b, off, rfl, hb, hat⟩ := hrB.cases.resolve_left (fun e => by simp [e] at hlt)
      obtain ⟨a1, cap1, d0, rx⟩ := list_at hat (Below.refl _ _) hlt
      have c0 := keep d0 hbl
      have r1 := rx.below hbl
      have t1 := htB.below hbl
      obtain ⟨q, hq⟩ : ∃ q, (matchB t) l[k] = q := ⟨_, rfl⟩
      have HQ := mkHid hq
      have RX : Hid (rightB l[k] = true) := fact_right (HF.out.all _ (List.getElem_mem hlt))
      clear hq
      cases q with
      | false =>
        have HT : Hid ((l.take (k + 1)).filter (matchB t) = A) := by rw [Hid, filt_no hlt HQ.out, HS.out]
        clear HS
        go_wp2_with fail
        refine (match3_any a' cap' a1 cap1 wr t l[k] t1 r1 RT.out RX.out).mono ?_; rintro e w4 ⟨⟨a4, c4, rfl, _⟩, hb1⟩; rw [HQ.out]
        have hacc1 := hacc.below hb1
        have hbl1 := hbl.then hb1
        go_wp2_with fail
        go_round
        case rel => exact ⟨k + 1, A, by omega, by omega, by go_num, hacc1, hbl1, HT⟩
        case measure => simp [intOf]; omega
      | true =>
        have HT : Hid ((l.take (k + 1)).filter (matchB t) = A ++ [l[k]]) := by rw [Hid, filt_yes hlt HQ.out, HS.out]
        clear HS
        go_wp2_with fail
        refine (match3_any a' cap' a1 cap1 wr t l[k] t1 r1 RT.out RX.out).mono ?_; rintro e w4 ⟨⟨a4, c4, rfl, _⟩, hb1⟩; rw [HQ.out]
        have hacc1 := hacc.below hb1
        have hbl1 := hbl.then hb1
        have hsz1 := hbl1.size
        have c1 := keep c0 hb1
        have hrh := rx.keeps (hacc1.fresh hbl1)
        go_wp2_with (at_builtin; refine wpList_acc (α := List Cel) rfl _ _ 22 rfl w.heap.size 23 24 _ Tryz.underlying22 Tryz.infoSl rfl (by decide) _ A hacc1 (by rfl) _ #[.slice a1 l[k].length cap1] l[k] ⟨a1, cap1, rfl, hrh⟩ (by rfl) (by omega) hsz1 ?_; intro v9 w9 hacc9 hb9)
        go_round
        case rel => exact ⟨k + 1, A ++ [l[k]], by omega, by simp; omega, by go_num, hacc9, hbl1.trans hb9, HT⟩
        case measure => simp [intOf]; omega
    · have HT : Hid (l.filter (matchB t) = A) := by rw [Hid, ← HS.out, List.take_of_length_le (by omega)]
      obtain ⟨a9, c9, rfl, r9⟩ := hacc.row
      clear HS
      go_wp2_with fail
      go_ret
      rw [HT.out]
      exact ⟨a9, c9, rfl, r9, hbl⟩

set_option maxHeartbeats 3200000 in
set_option maxRecDepth 100000 in
theorem reflessF_any (a : Option Addr) (cap : Nat) (l : List (List Cel)) (a' : Option Addr) (cap' : Nat) (m : List (List Cel)) (w : World) (hrB : Row w a cap l) (htB : Row w a' cap' m) (hl : l.length ≤ 512) :
    Calls Tryz.prog 45 #[.slice a l.length cap, .slice a' m.length cap'] w fun e w' => ∃ a2 c2, e = .returned (.slice a2 (lessF l m).length c2) ∧ Row w' a2 c2 (lessF l m) ∧ Below w.heap.size w w' := by
  have hm := hrB.max
  have hm2 := hrB.le
  have HL : Hid (lessF l m = l.filter (fun x => !decide (x ∈ m))) := rfl
  go_enter Tryz.func45, Tryz.ntmps45
  have hm0 := AccInv.made (α := List Cel) (B := w.heap.size) (e := 23) (T := 23) w (Nat.le_refl _) rfl
  have hb0 := (Below.refl w.heap.size w).new (.cells #[] 23)
  go_wp2_with fail
  go_loopw [5, 6] (fun v i wr => ∃ (k : Nat) (A : List (List Cel)), k ≤ l.length ∧ A.length ≤ k ∧ i = .int .i64 k ∧ AccInv w.heap.size 23 A v wr ∧ Below w.heap.size w wr ∧ Hid ((l.take k).filter (fun x => !decide (x ∈ m)) = A)) (fun v i wr => l.length - (intOf i).toNat)
  case atStart => exact ⟨0, [], Nat.zero_le _, Nat.le_refl _, rfl, hm0, hb0, rfl⟩
  case round =>
    clear hm0 hb0
    obtain ⟨k, A, hk, hA, rfl, hacc, hbl, HS⟩ := hrel
    by_cases hlt : k < l.length
    · obtain ⟨b, off, rfl, hb, hat⟩ := hrB.cases.resolve_left (fun e => by simp [e] at hlt)
      obtain ⟨a1, cap1, d0, rx⟩ := list_at hat (Below.refl _ _) hlt
      have c0 := keep d0 hbl
      have r1 := rx.below hbl
      have t1 := htB.below hbl
      obtain ⟨q, hq⟩ : ∃ q, (fun x => !decide (x ∈ m)) l[k] = q := ⟨_, rfl⟩
      have HQ := mkHid hq
      have HD : Hid (decide (l[k] ∈ m) = !q) := by rw [Hid, ← hq]; simp
      clear hq
      cases q with
      | false =>
        have HT : Hid ((l.take (k + 1)).filter (fun x => !decide (x ∈ m)) = A) := by rw [Hid, filt_no hlt HQ.out, HS.out]
        clear HS
        go_wp2_with fail
        refine (refhasK (b := true) t1 r1 HD).mono ?_; rintro e w4 ⟨rfl, hb1⟩
        have hacc1 := hacc.below hb1
        have hbl1 := hbl.then hb1
        go_wp2_with fail
        go_round
        case rel => exact ⟨k + 1, A, by omega, by omega, by go_num, hacc1, hbl1, HT⟩
        case measure => simp [intOf]; omega
      | true =>
        have HT : Hid ((l.take (k + 1)).filter (fun x => !decide (x ∈ m)) = A ++ [l[k]]) := by rw [Hid, filt_yes hlt HQ.out, HS.out]
        clear HS
        go_wp2_with fail
        refine (refhasK (b := false) t1 r1 HD).mono ?_; rintro e w4 ⟨rfl, hb1⟩
        have hacc1 := hacc.below hb1
        have hbl1 := hbl.then hb1
        have hsz1 := hbl1.size
        have c1 := keep c0 hb1
        have hrh := rx.keeps (hacc1.fresh hbl1)
        go_wp2_with (at_builtin; refine wpList_acc (α := List Cel) rfl _ _ 22 rfl w.heap.size 23 24 _ Tryz.underlying22 Tryz.infoSl rfl (by decide) _ A hacc1 (by rfl) _ #[.slice a1 l[k].length cap1] l[k] ⟨a1, cap1, rfl, hrh⟩ (by rfl) (by omega) hsz1 ?_; intro v9 w9 hacc9 hb9)
        go_round
        case rel => exact ⟨k + 1, A ++ [l[k]], by omega, by simp; omega, by go_num, hacc9, hbl1.trans hb9, HT⟩
        case measure => simp [intOf]; omega
    · have HT : Hid (l.filter (fun x => !decide (x ∈ m)) = A) := by rw [Hid, ← HS.out, List.take_of_length_le (by omega)]
      obtain ⟨a9, c9, rfl, r9⟩ := hacc.row
      clear HS
      go_wp2_with fail
      go_ret
      rw [HL.out, HT.out]
      exact ⟨a9, c9, rfl, r9, hbl⟩

set_option maxHeartbeats 1600000 in
set_option maxRecDepth 100000 in
theorem refdiffF_any (a : Option Addr) (cap : Nat) (l : List (List Cel)) (a' : Option Addr) (cap' : Nat) (m : List (List Cel)) (w : World) (hr : Row w a cap l) (ht : Row w a' cap' m) (hl : l.length ≤ 512) (hl2 : m.length ≤ 512) :
    Calls Tryz.prog 18 #[.slice a l.length cap, .slice a' m.length cap'] w fun e w' => ∃ a2 c2 a3 c3, e = .returned (.tuple #[.slice a2 (lessF m l).length c2, .slice a3 (lessF l m).length c3]) ∧ Row w' a2 c2 (lessF m l) ∧ Row w' a3 c3 (lessF l m) ∧ Below w.heap.size w w' := by
  go_enter Tryz.func18, Tryz.ntmps18
  go_wp2_with fail
  refine (reflessF_any a' cap' m a cap l w ht hr hl2).mono ?_; rintro e w1 ⟨a1, c1, rfl, hr1, hb1⟩
  go_wp2_with fail
  with_reducible refine (reflessF_any a cap l a' cap' m w1 (hr.below hb1) (ht.below hb1) hl).mono ?_
  rintro e w2 ⟨a2, c2, rfl, hr2, hb2⟩
  go_wp2_with fail
  go_ret2
  exact ⟨a1, c1, a2, c2, rfl, hr1.below hb2, hr2, hb1.then hb2⟩
end Go.Proofs.YtmmnfkggfnokjaaGreat
namespace Go.Proofs.YtmmnfkggfnokjaaGreat
open Go.RowKit Go.ChangeShapes Go.WideShapes Go.Deep Go.ChangeAt

theorem Tryz.own : ownKnob Tryz.prog.godebug = none := by kernel_rfl
theorem Tryz.laidOut : laidOutB Tryz.prog = true := by kernel_rfl
theorem Tryz.cells42 : Tryz.prog.cellsOf 42 = 3 := by kernel_rfl
theorem Tryz.cells23 : Tryz.prog.cellsOf 23 = 1 := by kernel_rfl
theorem Tryz.cells3 : Tryz.prog.cellsOf 3 = 1 := by kernel_rfl
theorem Tryz.cells9 : Tryz.prog.cellsOf 9 = 1 := by kernel_rfl

theorem i64_wf {n : Int} (h : (Lit.int .i64 n).wf = true) : -9223372036854775808 ≤ n ∧ n ≤ 9223372036854775807 := by
  simp [Lit.wf, IntKind.min, IntKind.max, IntKind.signed, IntKind.bits] at h
  omega
theorem add_lit (b o j : Nat) : (Addr.mk b o none).add j = ⟨b, o + j, none⟩ := by unfold Addr.add; split <;> simp_all

section
variable {H : Type} {enc : TypeId × Value → H} {w : World} {spare : Nat → Bool} {held : Bool}
set_option maxRecDepth 100000 in
/-- three cells that read as a cell of a term -/
theorem open_cell {n : Nat} {cs : List Value} {x : DataW H × List MemPlace} (h : DataW.trod enc Tryz.prog w 0 spare held n 42 cs = some x) :
    ∃ c : Cel, cs = [.int .i64 c.k, .string c.s, .int .i64 c.n] ∧ c.fit := by
  obtain ⟨ys, m, _, _, hlen, hyl, hf⟩ := DataW.trod_struct Tryz.underlying42 h
  rw [Tryz.cells42] at hlen
  match cs, hlen with
  | [v0, v1, v2], _ =>
    have h0 : DataW.trod enc Tryz.prog w 0 spare held m 3 (([v0, v1, v2].drop 0).take (Tryz.prog.cellsOf 3)) = ys[0]? := hf 0 _ rfl
    have h1 : DataW.trod enc Tryz.prog w 0 spare held m 9 (([v0, v1, v2].drop 1).take (Tryz.prog.cellsOf 9)) = ys[1]? := hf 1 _ rfl
    have h2 : DataW.trod enc Tryz.prog w 0 spare held m 3 (([v0, v1, v2].drop 2).take (Tryz.prog.cellsOf 3)) = ys[2]? := hf 2 _ rfl
    rw [Tryz.cells3] at h0 h2
    rw [Tryz.cells9] at h1
    have hy : ∀ i : Nat, i < 3 → ∃ y, ys[i]? = some y := fun i hi => ⟨_, List.getElem?_eq_getElem (by rw [hyl]; exact hi)⟩
    obtain ⟨y0, e0⟩ := hy 0 (by omega)
    obtain ⟨y1, e1⟩ := hy 1 (by omega)
    obtain ⟨y2, e2⟩ := hy 2 (by omega)
    rw [e0] at h0
    rw [e1] at h1
    rw [e2] at h2
    obtain ⟨a0, q0, _, f0⟩ := DataW.trod_int Tryz.underlying3 h0
    obtain ⟨a1, q1, _, f1⟩ := DataW.trod_string Tryz.underlying9 h1
    obtain ⟨a2, q2, _, f2⟩ := DataW.trod_int Tryz.underlying3 h2
    simp at q0 q1 q2
    refine ⟨⟨a0, a1, a2⟩, by rw [q0, q1, q2], ⟨(i64_wf f0).1, (i64_wf f0).2, (i64_wf f2).1, (i64_wf f2).2, by unfold maxLen at f1; exact f1⟩⟩

/-- what rows of a kind are made of -/
theorem open_rows {α : Type} [Rep α] {t e : TypeId} (ht : Tryz.prog.underlying t = some (.slice e)) (hC : Tryz.prog.cellsOf e = Rep.sz α)
    (hE : ∀ (n : Nat) (a : Addr) (cs : List Value) (x : DataW H × List MemPlace), w.cells? 0 a (Rep.sz α) = some cs → DataW.trod enc Tryz.prog w 0 (fun _ => true) held n e cs = some x → ∃ (b o : Nat) (y : α), a = ⟨b, o, none⟩ ∧ Rep.E w b o y)
    {fuel : Nat} {a : Option Addr} {len cap : Nat} {x : DataW H × List MemPlace} (h : DataW.trod enc Tryz.prog w 0 (fun _ => true) held fuel t [.slice a len cap] = some x) :
    ∃ xs : List α, xs.length = len ∧ Row w a cap xs := by
  rcases open_slice ht h with ⟨hcs, _⟩ | ⟨ad, l, c, m, n, D, Pl, hcs, _, hl, hm, hmm, _, hi⟩
  · simp at hcs
    obtain ⟨rfl, rfl, rfl⟩ := hcs
    exact ⟨[], rfl, Row.empty _ _ _ (by omega) (fun _ => rfl)⟩
  · simp at hcs
    obtain ⟨rfl, rfl, rfl⟩ := hcs
    simp only [if_true] at hmm
    subst hmm
    have key : ∀ i, i < len → ∃ (b o : Nat) (y : α), ad.add (i * Rep.sz α) = ⟨b, o, none⟩ ∧ Rep.E w b o y := by
      intro i hil
      obtain ⟨cs', hc, ht'⟩ := hi i (by omega)
      rw [hC] at hc
      exact hE n _ cs' _ hc ht'
    have hy : ∀ i : Fin len, ∃ y : α, ∃ b o, ad.add (i.val * Rep.sz α) = ⟨b, o, none⟩ ∧ Rep.E w b o y := fun i => by
      obtain ⟨b, o, y, e1, e2⟩ := key i.val i.isLt
      exact ⟨y, b, o, e1, e2⟩
    let f : Fin len → α := fun i => Classical.choose (hy i)
    have hf : ∀ i : Fin len, ∃ b o, ad.add (i.val * Rep.sz α) = ⟨b, o, none⟩ ∧ Rep.E w b o (f i) := fun i => Classical.choose_spec (hy i)
    refine ⟨List.ofFn f, List.length_ofFn, ⟨by rw [List.length_ofFn]; exact hl, by unfold maxLen at hm; omega, (fun e => by cases e), fun i x hx => ?_⟩⟩
    have hil : i < len := by
      have := (List.getElem?_eq_some_iff.1 hx).1; rwa [List.length_ofFn] at this
    have hx' : f ⟨i, hil⟩ = x := by
      rw [List.getElem?_eq_getElem (by rw [List.length_ofFn]; exact hil), List.getElem_ofFn] at hx
      exact Option.some.inj hx
    obtain ⟨b, o, e1, e2⟩ := hf ⟨i, hil⟩
    obtain ⟨b0, o0, s0⟩ := ad
    have hz := hf ⟨0, by omega⟩
    obtain ⟨b1, o1, e3, _⟩ := hz
    simp only [Nat.zero_mul, Addr.add, if_true] at e3
    injection e3 with e3 e4 e5
    subst e5
    rw [add_lit] at e1
    injection e1 with e1 e6
    subst e1
    refine ⟨b0, o0, rfl, ?_⟩
    rw [hx'] at e2
    rw [← e6] at e2
    exact e2

theorem spot_none {a : Addr} {v : Value} (h : w.cell? a = some v) : ∃ b o, a = ⟨b, o, none⟩ := by
  have := World.cell?_spot h
  obtain ⟨b, o, s⟩ := a
  simp at this
  subst this
  exact ⟨b, o, rfl⟩
theorem E_cell (n : Nat) (a : Addr) (cs : List Value) (x : DataW H × List MemPlace) (hc : w.cells? 0 a 3 = some cs) (h : DataW.trod enc Tryz.prog w 0 spare held n 42 cs = some x) : ∃ (b o : Nat) (y : Cel), a = ⟨b, o, none⟩ ∧ Rep.E w b o y := by
  obtain ⟨c, rfl, hf⟩ := open_cell h
  obtain ⟨_, _, hat⟩ := World.cells?_some hc
  have h0 := hat 0 (by omega)
  obtain ⟨b, o, rfl⟩ : ∃ b o, a = ⟨b, o, none⟩ := spot_none (by simpa [Addr.add] using h0)
  refine ⟨b, o, c, rfl, ?_⟩
  have h1 := hat 1 (by omega)
  have h2 := hat 2 (by omega)
  rw [add_lit] at h0 h1 h2
  exact ⟨h0, h1, h2, hf⟩
/-- []Cell -/
theorem open_cells {fuel : Nat} {a : Option Addr} {len cap : Nat} {x : DataW H × List MemPlace} (h : DataW.trod enc Tryz.prog w 0 (fun _ => true) held fuel 23 [.slice a len cap] = some x) :
    ∃ xs : List Cel, xs.length = len ∧ Row w a cap xs :=
  open_rows Tryz.underlying23 Tryz.cells42 (fun n a cs x h1 h2 => E_cell n a cs x h1 h2) h
theorem E_list {α : Type} [Rep α] {e : TypeId} {el : TypeId} (he : Tryz.prog.underlying e = some (.slice el))
    (hop : ∀ {fuel : Nat} {a : Option Addr} {len cap : Nat} {x : DataW H × List MemPlace}, DataW.trod enc Tryz.prog w 0 (fun _ => true) held fuel e [.slice a len cap] = some x → ∃ xs : List α, xs.length = len ∧ Row w a cap xs)
    (n : Nat) (a : Addr) (cs : List Value) (x : DataW H × List MemPlace) (hc : w.cells? 0 a 1 = some cs) (h : DataW.trod enc Tryz.prog w 0 (fun _ => true) held n e cs = some x) : ∃ (b o : Nat) (y : List α), a = ⟨b, o, none⟩ ∧ Rep.E w b o y := by
  obtain ⟨_, hl, hat⟩ := World.cells?_some hc
  have h0 := hat 0 (by omega)
  match cs, hl with
  | [v], _ =>
    have hv : ∃ a' len cap, v = .slice a' len cap := by
      rcases open_slice he h with ⟨hcs, _⟩ | ⟨ad, l, c, m, n, D, Pl, hcs, _⟩
      · simp at hcs; exact ⟨_, _, _, hcs⟩
      · simp at hcs; exact ⟨_, _, _, hcs⟩
    obtain ⟨a', len, cap, rfl⟩ := hv
    obtain ⟨xs, rfl, hr⟩ := hop h
    obtain ⟨b, o, rfl⟩ : ∃ b o, a = ⟨b, o, none⟩ := spot_none (by simpa [Addr.add] using h0)
    rw [add_lit] at h0
    exact ⟨b, o, xs, rfl, ⟨a', cap, h0, hr⟩⟩
/-- [][]Cell -/
theorem open_cellss {fuel : Nat} {a : Option Addr} {len cap : Nat} {x : DataW H × List MemPlace} (h : DataW.trod enc Tryz.prog w 0 (fun _ => true) held fuel 22 [.slice a len cap] = some x) :
    ∃ xs : List (List Cel), xs.length = len ∧ Row w a cap xs :=
  open_rows Tryz.underlying22 Tryz.cells23 (fun n a cs x h1 h2 => E_list (α := Cel) Tryz.underlying23 open_cells n a cs x h1 h2) h
end
end Go.Proofs.YtmmnfkggfnokjaaGreat
namespace Go.Proofs.YtmmnfkggfnokjaaGreat
open Go.RowKit Go.ChangeShapes Go.WideShapes Go.Deep Go.ChangeAt

theorem Tryz.cells44 : Tryz.prog.cellsOf 44 = 2 := by kernel_rfl
section
variable {H : Type} {enc : TypeId × Value → H} {w : World} {held : Bool}
set_option maxRecDepth 100000 in
/-- two cells that read as a binding -/
theorem open_bind {n : Nat} {cs : List Value} {x : DataW H × List MemPlace} (h : DataW.trod enc Tryz.prog w 0 (fun _ => true) held n 44 cs = some x) :
    ∃ (v : Int) (t : List Cel) (a : Option Addr) (cap : Nat), cs = [.int .i64 v, .slice a t.length cap] ∧ Row w a cap t ∧ -9223372036854775808 ≤ v ∧ v ≤ 9223372036854775807 := by
  obtain ⟨ys, m, _, _, hlen, hyl, hf⟩ := DataW.trod_struct Tryz.underlying44 h
  rw [Tryz.cells44] at hlen
  match cs, hlen with
  | [v0, v1], _ =>
    have h0 : DataW.trod enc Tryz.prog w 0 (fun _ => true) held m 3 (([v0, v1].drop 0).take (Tryz.prog.cellsOf 3)) = ys[0]? := hf 0 _ rfl
    have h1 : DataW.trod enc Tryz.prog w 0 (fun _ => true) held m 23 (([v0, v1].drop 1).take (Tryz.prog.cellsOf 23)) = ys[1]? := hf 1 _ rfl
    rw [Tryz.cells3] at h0
    rw [Tryz.cells23] at h1
    have hy : ∀ i : Nat, i < 2 → ∃ y, ys[i]? = some y := fun i hi => ⟨_, List.getElem?_eq_getElem (by rw [hyl]; exact hi)⟩
    obtain ⟨y0, e0⟩ := hy 0 (by omega)
    obtain ⟨y1, e1⟩ := hy 1 (by omega)
    rw [e0] at h0
    rw [e1] at h1
    obtain ⟨a0, q0, _, f0⟩ := DataW.trod_int Tryz.underlying3 h0
    simp at q0
    have h1' : DataW.trod enc Tryz.prog w 0 (fun _ => true) held m 23 [v1] = some y1 := by simpa using h1
    have hv : ∃ a' len cap, v1 = .slice a' len cap := by
      rcases open_slice Tryz.underlying23 h1' with ⟨hcs, _⟩ | ⟨ad, l, c, m, n, D, Pl, hcs, _⟩
      · simp at hcs; exact ⟨_, _, _, hcs⟩
      · simp at hcs; exact ⟨_, _, _, hcs⟩
    obtain ⟨a', len, cap, rfl⟩ := hv
    obtain ⟨xs, rfl, hr⟩ := open_cells h1'
    exact ⟨a0, xs, a', cap, by rw [q0], hr, (i64_wf f0).1, (i64_wf f0).2⟩
theorem E_bind (n : Nat) (a : Addr) (cs : List Value) (x : DataW H × List MemPlace) (hc : w.cells? 0 a 2 = some cs) (h : DataW.trod enc Tryz.prog w 0 (fun _ => true) held n 44 cs = some x) : ∃ (b o : Nat) (y : Bnd), a = ⟨b, o, none⟩ ∧ Rep.E w b o y := by
  obtain ⟨v, t, a', cap, rfl, hr, hl, hh⟩ := open_bind h
  obtain ⟨_, _, hat⟩ := World.cells?_some hc
  have h0 := hat 0 (by omega)
  obtain ⟨b, o, rfl⟩ : ∃ b o, a = ⟨b, o, none⟩ := spot_none (by simpa [Addr.add] using h0)
  refine ⟨b, o, ⟨v, t⟩, rfl, ?_⟩
  have h1 := hat 1 (by omega)
  rw [add_lit] at h0 h1
  exact ⟨⟨a', cap, h0, h1, hr⟩, hl, hh⟩
/-- []Bind -/
theorem open_binds {fuel : Nat} {a : Option Addr} {len cap : Nat} {x : DataW H × List MemPlace} (h : DataW.trod enc Tryz.prog w 0 (fun _ => true) held fuel 40 [.slice a len cap] = some x) :
    ∃ xs : List Bnd, xs.length = len ∧ Row w a cap xs :=
  open_rows Tryz.underlying40 Tryz.cells44 (fun n a cs x h1 h2 => E_bind n a cs x h1 h2) h
end
end Go.Proofs.YtmmnfkggfnokjaaGreat
namespace Go.Proofs.YtmmnfkggfnokjaaGreat
end Go.Proofs.YtmmnfkggfnokjaaGreat
