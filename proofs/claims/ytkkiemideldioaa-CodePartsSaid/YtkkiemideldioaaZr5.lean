import Derived.Test.YtkkiemideldioaaZr4
import Derived.ArgAppend
import Derived.Deep.LoopGhost
import Derived.OrdersHeld
import Derived.Deep.RegionHeld3
set_option linter.unusedVariables false
namespace Go.Proofs.Ytkkiemideldioaa
open Go.RowKit

/-! ### a row of nodes that wait, taken from the front -/
def ptv (x : PtN) : Value := .pointer (some ⟨x.p, 0, none⟩)
structure RowQ (W : World) (B : Nat) (xs : List PtN) (v : Value) : Prop where
  ex : (v = .slice none 0 0 ∧ xs = []) ∨ ∃ g off cap cur, v = .slice (some ⟨g, off, none⟩) xs.length cap ∧ B ≤ g ∧ W.heap[g]? = some (.cells cur 196 (0, 0)) ∧ xs.length ≤ cap ∧ cap ≤ 9223372036854775807 ∧ off + cap ≤ cur.size ∧ (cur.toList.drop off).take xs.length = xs.map ptv
theorem RowQ.nil (W : World) (B : Nat) : RowQ W B [] (.slice none 0 0) := ⟨.inl ⟨rfl, rfl⟩⟩
section
variable {W W' : World} {B : Nat} {xs ys : List PtN} {v v' : Value}
theorem RowQ.block (h : RowQ W B xs v) (hb : ∀ b, v.ownBlock = some b → W'.heap[b]? = W.heap[b]?) : RowQ W' B xs v := by
  refine ⟨h.ex.imp id fun ⟨g, off, cap, cur, e, hB, hg, rest⟩ => ⟨g, off, cap, cur, e, hB, (hb g (by rw [e]; rfl)).trans hg, rest⟩⟩
theorem RowQ.lt (h : RowQ W B xs v) : ∀ b, v.ownBlock = some b → B ≤ b ∧ b < W.heap.size := by
  intro b hb
  rcases h.ex with ⟨e, _⟩ | ⟨g, off, cap, cur, e, hB, hg, _⟩
  · rw [e] at hb; cases hb
  · rw [e] at hb; cases hb
    exact ⟨hB, (Array.getElem?_eq_some_iff.1 hg).1⟩
theorem RowQ.below (h : RowQ W B xs v) (hb : Below W.heap.size W W') : RowQ W' B xs v := h.block fun b e => hb.block b (h.lt b e).2
theorem RowQ.fr {us : List Nat} (h : RowQ W B xs v) (hf : Fr us W W') (hu : ∀ b, v.ownBlock = some b → b ∉ us) : RowQ W' B xs v := h.block fun b e => hf.block b (h.lt b e).2 (hu b e)
theorem RowQ.frP {P : Nat → Prop} (h : RowQ W B xs v) (hf : FrP P W W') (hu : offP P v) : RowQ W' B xs v := h.block fun b e => hf.block b (h.lt b e).2 (hu b e)
theorem RowQ.mono {B' : Nat} (h : RowQ W B xs v) (hB : B' ≤ B) : RowQ W B' xs v := ⟨h.ex.imp id fun ⟨g, off, cap, cur, e, h1, rest⟩ => ⟨g, off, cap, cur, e, Nat.le_trans hB h1, rest⟩⟩
theorem RowQ.slice (h : RowQ W B xs v) : ∃ a cap, v = .slice a xs.length cap ∧ xs.length ≤ cap ∧ cap ≤ 9223372036854775807 := by
  rcases h.ex with ⟨rfl, rfl⟩ | ⟨g, off, cap, cur, rfl, hB, hg, h1, h2, _⟩
  · exact ⟨none, 0, rfl, Nat.le_refl _, by omega⟩
  · exact ⟨_, cap, rfl, h1, h2⟩
theorem ptv_rows {w : World} : ∀ {vs : List Value} {xs : List PtN}, CRows w vs xs → vs = xs.map ptv
  | _, _, .nil => rfl
  | _, _, .cons hx hr => by
    have h1 := ptv_rows hr
    have h2 : _ = [ptv _] := hx
    rw [h1, h2]; rfl
theorem RowQ.ofAcc {w : World} {v : Value} {xs : List PtN} (h : AccInv B 196 xs v w) : RowQ w B xs v := by
  obtain ⟨vs, ho, hc⟩ := h.ex
  have hv := ptv_rows hc
  rcases ho.2 with ⟨e1, h0⟩ | ⟨g, cap, cur, e1, hb2, hgg, h1, h2, h3, h4⟩
  · exact ⟨.inl ⟨e1, List.eq_nil_of_length_eq_zero h0⟩⟩
  · refine ⟨.inr ⟨g, 0, cap, cur, e1, hb2, hgg, h1, by unfold maxLen at h2; omega, ?_, ?_⟩⟩
    · have h3' := h3
      change cur.size = cap * 1 at h3'
      omega
    · rw [List.drop_zero, ← hv, ← h4]
      change _ = cur.toList.take (xs.length * 1)
      rw [Nat.mul_one]
theorem RowQ.cells {g off : Nat} {cur : Array Value} (hb : W.heap[g]? = some (.cells cur 196 (0, 0))) (h4 : (cur.toList.drop off).take xs.length = xs.map ptv) : ∀ j u, (xs.map ptv)[j]? = some u → W.cell? ⟨g, off + j, none⟩ = some u := by
  intro j u hj
  rw [← h4, List.getElem?_take] at hj
  split at hj
  · rw [List.getElem?_drop] at hj
    rw [cell_of_row W g (off + j) _ _ _ hb, ← Array.getElem?_toList]
    exact hj
  · cases hj
theorem RowQ.head {x : PtN} (h : RowQ W B (x :: xs) v) : ∃ g off cap, v = .slice (some ⟨g, off, none⟩) (xs.length + 1) cap ∧ W.cell? ⟨g, off, none⟩ = some (.pointer (some ⟨x.p, 0, none⟩)) := by
  rcases h.ex with ⟨_, e⟩ | ⟨g, off, cap, cur, e, hB, hb, h1, h2, h3, h4⟩
  · cases e
  · exact ⟨g, off, cap, e, RowQ.cells hb h4 0 _ rfl⟩
theorem RowQ.tail {x : PtN} {g off cap : Nat} (h : RowQ W B (x :: xs) (.slice (some ⟨g, off, none⟩) (xs.length + 1) cap)) {off' : Nat} (ho : off' = off + 1 ∨ cap - 1 = 0 ∧ off' = off) : RowQ W B xs (.slice (some ⟨g, off', none⟩) xs.length (cap - 1)) := by
  rcases h.ex with ⟨_, e⟩ | ⟨g', off1, cap', cur, e, hB, hb, h1, h2, h3, h4⟩
  · cases e
  · cases e
    simp only [List.length_cons] at h1 h4
    refine ⟨.inr ⟨g, off', cap - 1, cur, rfl, hB, hb, by omega, by omega, by omega, ?_⟩⟩
    rcases ho with rfl | ⟨h0, rfl⟩
    · have e2 := congrArg (List.drop 1) h4
      rw [List.drop_take, List.drop_drop, List.map_cons, List.drop_one, List.tail_cons] at e2
      rw [← e2]; congr 1
    · have hx0 : xs = [] := List.eq_nil_of_length_eq_zero (by omega)
      subst hx0; simp
theorem run_append_nilQ (w : World) (ty : TypeId) (ao : Option Addr) (n cap : Nat) (h : n ≤ cap) : (Builtin.append_ #[198, 198] ty #[.slice ao n cap, .slice none 0 0]).run Try.prog w = .ok (.slice ao n cap) w := by
  obtain ⟨i, hi, hz0, hz1, hz2⟩ := info_parts Try.infoPtN
  cases ao with
  | none => simp [Builtin.append_, run_underlying Try.underlying198, sizeOf, typeInfo, hi, Builtin.lenOf, Builtin.firstCells, loadCells, loadCellsFrom, h]
  | some a => simp [Builtin.append_, run_underlying Try.underlying198, sizeOf, typeInfo, hi, Builtin.lenOf, Builtin.firstCells, loadCells, loadCellsFrom, h, storeCells]
end
set_option maxRecDepth 100000 in
set_option maxHeartbeats 1600000 in
theorem RowQ.run_append {W : World} {B : Nat} {xs ys : List PtN} {v : Value} (h : RowQ W B xs v) (hB : B ≤ W.heap.size) (ty : TypeId) {a : Addr} {m c : Nat} (hm : m = ys.length)
    (hnews : ∀ j u, (ys.map ptv)[j]? = some u → W.cell? (a.add j) = some u) (hmax : xs.length + ys.length ≤ 1000000) :
    ∃ v' W', (Builtin.append_ #[198, 198] ty #[v, .slice (some a) m c]).run Try.prog W = .ok v' W' ∧ RowQ W' B (xs ++ ys) v' ∧ W.grownBy W' v.ownBlock ∧ NewAtN W v v' := by
  subst hm
  obtain ⟨i, hi, hz0, hz1, hz2⟩ := info_parts Try.infoPtN
  have hnl : (ys.map ptv).length = ys.length := List.length_map _
  have hone : ∀ u ∈ ys.map ptv, u.oneCell' = true := fun u hu => by
    obtain ⟨x, _, rfl⟩ := List.mem_map.1 hu
    rfl
  have hbytes : (xs.length + ys.length) * 8 ≤ 140737488355328 := by omega
  rcases h.ex with ⟨rfl, rfl⟩ | ⟨g, off, cap, cur, rfl, hgB, hb, h1, h2, h3, h4⟩
  · obtain ⟨v', W', hr, ho, hg, hw⟩ := run_append_where (P := Try.prog) W W.heap.size 198 ty 196 i (.pointer none) 1 8 Try.underlying198 hi hz0 hz1 hz2 rfl (by decide) (.slice none 0 0) 0 [] (World.ownsRow_nil _ _ _ _) a ys.length c (ys.map ptv) (by omega) hnews hone (by unfold maxLen; omega) (by simpa using hbytes) (Nat.le_refl _)
    refine ⟨v', W', hr, ?_, hg, hw.elim .inl (fun e => .inr ⟨_, e, Nat.le_refl _⟩)⟩
    simp only [List.nil_append, Nat.zero_add] at ho ⊢
    rcases ho.2 with ⟨e1, h0⟩ | ⟨g, cap, cur, rfl, hb2, hgg, h1, h2, h3, h4⟩
    · exact ⟨.inl ⟨e1, List.eq_nil_of_length_eq_zero h0⟩⟩
    · refine ⟨.inr ⟨g, 0, cap, cur, rfl, by omega, hgg, h1, by unfold maxLen at h2; omega, by omega, ?_⟩⟩
      rw [List.drop_zero, ← h4, Nat.mul_one]
  · by_cases hroom : xs.length + ys.length ≤ cap
    · have hin : ∀ j, j < (ys.map ptv).length → (W.cell? ⟨g, off + xs.length * i.size + j, none⟩).isSome = true ∧ W.frozen? ⟨g, off + xs.length * i.size + j, none⟩ = false := fun j hj => by
        rw [hz1]
        have hlt : off + xs.length * 1 + j < cur.size := by omega
        refine ⟨?_, by simp [World.frozen?, hb]⟩
        rw [cell_of_row W g _ _ _ _ hb, Array.getElem?_eq_getElem hlt]; rfl
      have hr := run_append_room_cells (P := Try.prog) W 198 ty 196 i Try.underlying198 hi g off xs.length cap a ys.length c (ys.map ptv) (by rw [hz1]; omega) hnews hone hroom (fun j hj => (hin j hj).1) (fun j hj => (hin j hj).2)
      rw [hz1, Nat.mul_one] at hr
      have hset : ∀ (vs : List Value) (o : Nat) (w : World), (w.setCells g o vs).heap.size = w.heap.size ∧ (∀ k, k ≠ g → (w.setCells g o vs).heap[k]? = w.heap[k]?) ∧ (w.setCells g o vs).os = w.os ∧ (w.setCells g o vs).tape = w.tape ∧ (w.setCells g o vs).output = w.output ∧ (∀ cur : Array Value, w.heap[g]? = some (.cells cur 196 (0, 0)) → o + vs.length ≤ cur.size → ∃ cur' : Array Value, (w.setCells g o vs).heap[g]? = some (.cells cur' 196 (0, 0)) ∧ cur'.size = cur.size ∧ cur'.toList = cur.toList.take o ++ vs ++ cur.toList.drop (o + vs.length)) := by
        intro vs
        induction vs with
        | nil => intro o w; exact ⟨rfl, fun _ _ => rfl, rfl, rfl, rfl, fun cur h _ => ⟨cur, h, rfl, by simp⟩⟩
        | cons x vs ih =>
          intro o w
          obtain ⟨i1, i2, i3, i4, i5, i6⟩ := ih (o + 1) (w.setCell ⟨g, o, none⟩ x)
          refine ⟨i1.trans (by simp [World.setCell]), fun k hk => (i2 k hk).trans (Below.heap_setCell w ⟨g, o, none⟩ x k hk), i3, i4, i5, fun cur hcur hle => ?_⟩
          simp only [List.length_cons] at hle
          have hb' : (w.setCell ⟨g, o, none⟩ x).heap[g]? = some (.cells (cur.set! o x) 196 (0, 0)) := by
            simp only [World.setCell, Array.getElem?_modify, if_true, hcur, Option.map_some]
            simp
          obtain ⟨cur', h1, h2, h3⟩ := i6 (cur.set! o x) hb' (by simp; omega)
          refine ⟨cur', h1, by rw [h2]; simp, ?_⟩
          rw [h3]
          have e1 : (cur.set! o x).toList = cur.toList.set o x := by simp
          rw [e1]
          have htl : cur.toList.length = cur.size := by simp
          have hol : o < cur.toList.length := by omega
          rw [List.take_set, List.drop_set_of_lt (by omega)]
          rw [show (cur.toList.take (o + 1)).set o x = cur.toList.take o ++ [x] by
            rw [List.take_succ_eq_append_getElem hol, List.set_append]
            have h9 : (cur.toList.take o).length = o := by rw [List.length_take]; omega
            simp [h9]]
          simp [List.append_assoc, Nat.add_assoc, Nat.add_comm 1]
      obtain ⟨s1, s2, s3, s4, s5, s6⟩ := hset (ys.map ptv) (off + xs.length) W
      obtain ⟨cur', t1, t2, t3⟩ := s6 cur hb (by omega)
      refine ⟨_, _, hr, ?_, ⟨s3, s4, s5, by rw [s1]; exact Nat.le_refl _, fun k hk hne => s2 k (fun e => hne (by rw [e]; rfl))⟩, .inl rfl⟩
      refine ⟨.inr ⟨g, off, cap, cur', by rw [List.length_append], hgB, t1, by rw [List.length_append]; omega, h2, by omega, ?_⟩⟩
      have hcl : off + xs.length ≤ cur.toList.length := by simp; omega
      rw [t3, List.append_assoc, List.drop_append_of_le_length (by rw [List.length_take]; omega), List.length_append, List.map_append, ← h4]
      have e1 : (cur.toList.take (off + xs.length)).drop off = (cur.toList.drop off).take xs.length := by rw [List.drop_take]; congr 1; omega
      rw [e1]
      have hl1 : ((cur.toList.drop off).take xs.length).length = xs.length := by rw [h4, List.length_map]
      rw [List.take_append, hl1, List.take_of_length_le (by omega), List.take_append, hnl]
      simp
      exact List.take_of_length_le (by rw [List.length_map]; exact Nat.le_refl _)
    · obtain ⟨v', W', hr, ho, hg⟩ := run_append_arg_grows (P := Try.prog) W 198 ty 196 i (.pointer none) 1 8 Try.underlying198 hi hz0 hz1 hz2 rfl (by decide) ⟨g, off, none⟩ xs.length cap (xs.map ptv) (by rw [List.length_map]; omega) (fun j u hj => by rw [Addr.add_lit]; exact RowQ.cells hb h4 j u hj) a ys.length c (ys.map ptv) (by omega) hnews (by omega) (by unfold maxLen; omega) hbytes
      refine ⟨v', W', hr, ?_, ⟨hg.os, hg.tape, hg.output, hg.size, fun k hk _ => hg.block k hk (by simp)⟩, ?_⟩
      · rcases ho.2 with ⟨_, h0⟩ | ⟨g', cap', cur', rfl, hb2, hgg, q1, q2, q3, q4⟩
        · omega
        · refine ⟨.inr ⟨g', 0, cap', cur', by rw [List.length_append], by omega, hgg, by rw [List.length_append]; omega, by unfold maxLen at q2; omega, by omega, ?_⟩⟩
          rw [List.drop_zero, List.length_append, List.map_append, ← q4, Nat.mul_one]
      · rcases ho.2 with ⟨_, h0⟩ | ⟨g', cap', cur', rfl, hb2, _⟩
        · omega
        · exact .inr ⟨g', rfl, hb2⟩
theorem RowQ.join {W : World} {B B1 : Nat} {xs ys : List PtN} {v v2 : Value} (h : RowQ W B xs v) (h2 : RowQ W B1 ys v2) (hB : B ≤ W.heap.size) (ty : TypeId) (hmax : xs.length + ys.length ≤ 1000000) :
    ∃ v' W', (Builtin.append_ #[198, 198] ty #[v, v2]).run Try.prog W = .ok v' W' ∧ RowQ W' B (xs ++ ys) v' ∧ W.grownBy W' v.ownBlock ∧ NewAtN W v v' := by
  rcases h2.ex with ⟨rfl, rfl⟩ | ⟨g, off, cap, cur, rfl, hB2, hb, h3, h4, h5, h6⟩
  · obtain ⟨a, cap, rfl, hle, hmx⟩ := h.slice
    exact ⟨_, _, run_append_nilQ W ty a xs.length cap hle, by rw [List.append_nil]; exact h, ⟨rfl, rfl, rfl, Nat.le_refl _, fun _ _ _ => rfl⟩, .inl rfl⟩
  · exact h.run_append hB ty (a := ⟨g, off, none⟩) (m := ys.length) (c := cap) rfl (fun j u hj => by rw [Addr.add_lit]; exact RowQ.cells hb h6 j u hj) hmax
end Go.Proofs.Ytkkiemideldioaa
set_option linter.unusedVariables false
namespace Go.Proofs.Ytkkiemideldioaa
open Go.RowKit

/-! ### between two terms of a head's row -/
theorem flats_split (n : Nat) (ts : List Tm) : (flats ts).length = (flats (ts.take n)).length + (flats (ts.drop n)).length := by
  have h : ∀ a b : List Tm, (flats (a ++ b)).length = (flats a).length + (flats b).length := by
    intro a
    induction a with
    | nil => intro b; simp [flats]
    | cons t a ih => intro b; simp [flats, ih]; omega
  rw [← h, List.take_append_drop]
structure HP (S : TS) (put : Ins) (ps : List Nat) (fill : List Tm → Tm) (rest : List Ins) (bad : Bool) : Prop where
  len : ∃ K, K + ps.length + rest.length ≤ 7 + S.rest.length + (if bad = true then 1 else 0) ∧ ∀ ts : List Tm, ts.length = ps.length → (fill ts).flat.length = K + (flats ts).length
  comp : ∀ (ch0 : List Ins) (us0 : List Tm) (r2 : List Ins), S.rest = ch0 ++ r2 → HeadR S.funs ch0 us0 → us0.length = put.n.toNat → bad = false ∧ ∃ ch us, rest = ch ++ r2 ∧ HeadR S.funs ch us ∧ us.length = ps.length ∧ fill us = .mk (funI put) us0
theorem HP.start {S : TS} {put : Ins} {ps : List Nat} (hp : ps.length = put.n.toNat) (h6 : put.n ≤ 6) (hb : S.bad = false) : HP S put ps (fun ts => .mk (funI put) ts) S.rest S.bad := by
  refine ⟨⟨1, by omega, fun ts h => by simp [Tm.flat]; omega⟩, fun ch0 us0 r2 h1 h2 h3 => ⟨hb, ch0, us0, h1, h2, by omega, rfl⟩⟩
theorem getM_len (funs : Int → Bool) (c0 : Cel) (l : List Ins) : (getM funs c0 l).2.1.length + (getM funs c0 l).2.2.1.length ≤ l.length + (if (getM funs c0 l).2.2.2 = true then 1 else 0) := by
  have ht := List.length_tail (l := l)
  unfold getM
  split
  · simp; 
  · split
    · simp
    · split
      · have := unisM_len funs (nextI l).n.toNat l.tail
        simp only
        omega
      · simp; omega
theorem getM_less (funs : Int → Bool) (c0 : Cel) (l : List Ins) (h : (getM funs c0 l).2.2.2 = false) : (getM funs c0 l).2.1.length + (getM funs c0 l).2.2.1.length ≤ l.length := by
  have := getM_len funs c0 l
  rw [h] at this
  simpa using this
theorem count_le : ∀ fs : List Bool, (fs.filter id).length ≤ fs.length := fun fs => List.length_filter_le _ _
theorem HP.step {S : TS} {put : Ins} {p : Nat} {ps : List Nat} {fill : List Tm → Tm} {rest : List Ins} (h : HP S put (p :: ps) fill rest false) (c0 : Cel) {qs : List Nat} (hq : qs.length = (getM S.funs c0 rest).2.1.length) :
    HP S put (ps ++ opensOf qs ((getM S.funs c0 rest).2.1.map Prod.snd)) (fillN fill ps.length (getM S.funs c0 rest).1 ((getM S.funs c0 rest).2.1.map Prod.fst) ((getM S.funs c0 rest).2.1.map Prod.snd)) (getM S.funs c0 rest).2.2.1 (getM S.funs c0 rest).2.2.2 := by
  have hoc := opens_count qs ((getM S.funs c0 rest).2.1.map Prod.snd) (by rw [List.length_map]; exact hq)
  have hcl := count_le ((getM S.funs c0 rest).2.1.map Prod.snd)
  rw [List.length_map] at hcl
  have hgl := getM_len S.funs c0 rest
  obtain ⟨K, hK, hF⟩ := h.len
  simp only [Bool.false_eq_true, if_false, List.length_cons, Nat.add_zero] at hK
  refine ⟨⟨K + 1 + (getM S.funs c0 rest).2.1.length - (opensOf qs ((getM S.funs c0 rest).2.1.map Prod.snd)).length, ?_, fun ts hts => ?_⟩, fun ch0 us0 r2 h1 h2 h3 => ?_⟩
  · rw [List.length_append]; omega
  · rw [List.length_append] at hts
    have hpl := plug_len ((getM S.funs c0 rest).2.1.map Prod.fst) ((getM S.funs c0 rest).2.1.map Prod.snd) (ts.drop ps.length) (by simp) (by rw [List.length_drop]; omega)
    have hsp := flats_split ps.length ts
    unfold fillN
    rw [hF _ (by simp; omega)]
    simp only [flats, Tm.flat, List.length_append, List.length_cons]
    rw [List.length_map] at hpl
    omega
  · obtain ⟨_, ch, us, e1, e2, e3, e4⟩ := h.comp ch0 us0 r2 h1 h2 h3
    subst e1
    cases e2 with
    | nil => simp at e3
    | @vr i l ts hop hr =>
      have en : nextI (i :: l ++ r2) = i := rfl
      have hg : getM S.funs c0 (i :: l ++ r2) = (varI i, ([], l ++ r2, false)) := by unfold getM; rw [en, if_pos hop]; rfl
      rw [hg] at hq ⊢
      simp only [List.length_cons] at e3
      have e3' : ts.length = ps.length := by omega
      have hq0 : qs = [] := List.eq_nil_of_length_eq_zero hq
      subst hq0
      refine ⟨rfl, l, ts, rfl, hr, by simpa [opensOf] using e3', ?_⟩
      unfold fillN
      rw [← e4, ← e3', List.take_length]
      simp [plug, vT, varI]
    | @int i l ts hop hr =>
      have en : nextI (i :: l ++ r2) = i := rfl
      have hg : getM S.funs c0 (i :: l ++ r2) = (intI i, ([], l ++ r2, false)) := by unfold getM; rw [en, if_neg (by omega), if_pos hop]; rfl
      rw [hg] at hq ⊢
      simp only [List.length_cons] at e3
      have e3' : ts.length = ps.length := by omega
      have hq0 : qs = [] := List.eq_nil_of_length_eq_zero hq
      subst hq0
      refine ⟨rfl, l, ts, rfl, hr, by simpa [opensOf] using e3', ?_⟩
      unfold fillN
      rw [← e4, ← e3', List.take_length]
      simp [plug, intI]
    | @fn i us l os az ts hop hn hu hr =>
      have en : nextI (i :: (us ++ l) ++ r2) = i := rfl
      obtain ⟨u1, u2, u3⟩ := hu.told (l ++ r2)
      have hg : getM S.funs c0 (i :: (us ++ l) ++ r2) = (funI i, unisM S.funs us.length (us ++ (l ++ r2))) := by
        unfold getM
        rw [en, if_neg (by omega), if_neg (by omega), if_pos hop, hn]
        simp
      rw [hg] at hq hoc ⊢
      simp only [List.length_cons] at e3
      have e3' : ts.length = ps.length := by omega
      refine ⟨by rw [u1], l, ts ++ os, by rw [u1], hr, by rw [List.length_append, List.length_append, hoc, u3]; omega, ?_⟩
      unfold fillN
      simp only
      rw [← e4, ← e3', List.take_left, List.drop_left, u2]
      rfl
structure HGo (W0 w : World) (R fm bm : Nat) (S : TS) (kv : Nat → Value) (put : Ins) (p0 : Nat) (ps : List Nat) (fill : List Tm → Tm) (rest : List Ins) (bad : Bool) (H1 : Nat → Option NdS) (kv1 : Nat → Value) (vo : Value) (W : World) : Prop where
  tr : Tr W0 w R fm bm S kv W { S with rest := rest, bad := bad, H := H1 } kv1
  hq : HQ H1 p0 ps fill
  hp : HP S put ps fill rest bad
  op : RowQ W w.heap.size (ps.map PtN.mk) vo
  off : offP (Own R fm bm { S with rest := rest, bad := bad, H := H1 } kv1) vo
  w0 : W0.heap.size ≤ w.heap.size
/-- the term at the row's front was got, and what waits put behind the others -/
theorem HGo.step {W0 w wr W w5 w6 : World} {R fm bm : Nat} {S : TS} {kv kv1 kv5 : Nat → Value} {put : Ins} {p0 p : Nat} {ps qs : List Nat} {fill : List Tm → Tm} {rest : List Ins} {H1 H5 : Nat → Option NdS} {vo vt vo6 : Value} {c0 : Cel}
    (h : HGo W0 w R fm bm S kv put p0 (p :: ps) fill rest false H1 kv1 vo wr) (hbd : Below wr.heap.size wr W) (hto : vt.ownBlock = vo.ownBlock)
    (hT : TW W0 w5 R fm bm { S with rest := (getM S.funs c0 rest).2.2.1, bad := (getM S.funs c0 rest).2.2.2, H := H5 } kv5) (hk : KidsOf H1 H5 p (getM S.funs c0 rest).1 qs ((getM S.funs c0 rest).2.1.map Prod.fst) W.heap.size)
    (hf : FrP (Own R fm bm { S with rest := rest, bad := false, H := H1 } kv1) W w5) (hn : ∀ b, Own R fm bm { S with rest := (getM S.funs c0 rest).2.2.1, bad := (getM S.funs c0 rest).2.2.2, H := H5 } kv5 b → Own R fm bm { S with rest := rest, bad := false, H := H1 } kv1 b ∨ W.heap.size ≤ b)
    (hp6 : RowQ w6 w.heap.size (ps.map PtN.mk ++ (opensOf qs ((getM S.funs c0 rest).2.1.map Prod.snd)).map PtN.mk) vo6) (hg : w5.grownBy w6 vt.ownBlock) (hn6 : NewAtN w5 vt vo6) :
    HGo W0 w R fm bm S kv put p0 (ps ++ opensOf qs ((getM S.funs c0 rest).2.1.map Prod.snd)) (fillN fill ps.length (getM S.funs c0 rest).1 ((getM S.funs c0 rest).2.1.map Prod.fst) ((getM S.funs c0 rest).2.1.map Prod.snd)) (getM S.funs c0 rest).2.2.1 (getM S.funs c0 rest).2.2.2 H5 kv5 vo6 w6 := by
  have hf2 : Fr vt.ownBlock.toList w5 w6 := grown_frN hg
  have hoff : ∀ b, vt.ownBlock = some b → ¬ Own R fm bm { S with rest := (getM S.funs c0 rest).2.2.1, bad := (getM S.funs c0 rest).2.2.2, H := H5 } kv5 b := fun b hb e => by
    rw [hto] at hb
    have hl := h.op.lt b hb
    rcases hn b e with e | e
    · exact h.off b hb e
    · have := hbd.size
      omega
  have hW0w : ∀ b, vt.ownBlock = some b → W0.heap.size ≤ b := fun b hb => by
    rw [hto] at hb
    exact Nat.le_trans h.w0 (h.op.lt b hb).1
  have htr : Tr W0 w R fm bm S kv w5 { S with rest := (getM S.funs c0 rest).2.2.1, bad := (getM S.funs c0 rest).2.2.2, H := H5 } kv5 := (h.tr.below hbd).trans ⟨hT, hf, hn⟩
  refine ⟨?_, ?_, h.hp.step c0 (by rw [hk.len, List.length_map]), by rw [List.map_append]; exact hp6, fun b hb e => ?_, h.w0⟩
  · refine ⟨hT.fr hf2 (fun b hb => by simp at hb; exact hoff b hb) (fun b hb => by simp at hb; exact hW0w b hb), ?_, htr.new⟩
    refine ⟨hf2.os.trans htr.fr.os, hf2.tape.trans htr.fr.tape, hf2.output.trans htr.fr.output, Nat.le_trans htr.fr.size hf2.size, fun k hk hp => ?_⟩
    refine (hf2.block k (Nat.lt_of_lt_of_le hk htr.fr.size) (fun e => ?_)).trans (htr.fr.block k hk hp)
    simp at e
    rw [hto] at e
    have := (h.op.lt k e).1
    omega
  · exact h.hq.step hk (by simp) (fun b d hb => Nat.lt_of_lt_of_le (h.tr.tw.ownB b (.inr (.inr (.inr (.inl ⟨d, hb⟩))))).2 hbd.size)
  · rcases hn6 with e6 | ⟨b', e6, hb'⟩
    · exact hoff b (by rw [← e6]; exact hb) e
    · rw [hb] at e6; injection e6 with e6
      have := (hT.ownB b e).2
      omega
/-- what a head is told of -/
def HeadPost (W0 w : World) (R fm bm : Nat) (S : TS) (kv : Nat → Value) (put : Ins) (e : Ending) (W' : World) : Prop :=
  ∃ (a : Option Addr) (n c : Nat) (t : Tm) (rest : List Ins) (bad : Bool) (H1 : Nat → Option NdS) (kv1 : Nat → Value), e = .returned (.slice a n c) ∧ Tr W0 w R fm bm S kv W' { S with rest := rest, bad := bad, H := H1 } kv1 ∧ AccInv w.heap.size 45 t.flat (.slice a n c) W' ∧ offP (Own R fm bm { S with rest := rest, bad := bad, H := H1 } kv1) (.slice a n c) ∧ t.flat.length + rest.length ≤ 8 + S.rest.length ∧
    ∀ (ch0 : List Ins) (us0 : List Tm) (r2 : List Ins), S.rest = ch0 ++ r2 → HeadR S.funs ch0 us0 → us0.length = put.n.toNat → bad = false ∧ rest = r2 ∧ t = .mk (funI put) us0
theorem HGo.ends {W0 w W : World} {R fm bm : Nat} {S : TS} {kv kv1 : Nat → Value} {put : Ins} {p0 : Nat} {ps : List Nat} {fill : List Tm → Tm} {rest : List Ins} {bad : Bool} {H1 : Nat → Option NdS} {vo : Value} (h : HGo W0 w R fm bm S kv put p0 ps fill rest bad H1 kv1 vo W) (he : bad = true ∨ ps = []) :
    ∃ t, TrH H1 p0 t ∧ t.flat.length + rest.length ≤ 8 + S.rest.length ∧ ∀ (ch0 : List Ins) (us0 : List Tm) (r2 : List Ins), S.rest = ch0 ++ r2 → HeadR S.funs ch0 us0 → us0.length = put.n.toNat → bad = false ∧ rest = r2 ∧ t = .mk (funI put) us0 := by
  obtain ⟨ts, h1, h2, h3⟩ := h.hq.ends
  obtain ⟨K, hK, hF⟩ := h.hp.len
  refine ⟨fill ts, h3, ?_, fun ch0 us0 r2 q1 q2 q3 => ?_⟩
  · rw [hF ts h1]
    split at hK <;> omega
  · obtain ⟨e1, ch, us, e2, e3, e4, e5⟩ := h.hp.comp ch0 us0 r2 q1 q2 q3
    subst e1
    rcases he with he | rfl
    · cases he
    · have hu : us = [] := List.eq_nil_of_length_eq_zero e4
      have ht : ts = [] := List.eq_nil_of_length_eq_zero h1
      subst hu
      subst ht
      cases e3
      exact ⟨rfl, e2, e5⟩
/-- a fresh row of the head's cells -/
theorem HeadPost.of {W0 w W W' : World} {R fm bm : Nat} {S : TS} {kv kv1 : Nat → Value} {put : Ins} {t : Tm} {rest : List Ins} {bad : Bool} {H1 : Nat → Option NdS} {e : Ending} (hT : Tr W0 w R fm bm S kv W { S with rest := rest, bad := bad, H := H1 } kv1) (hl : t.flat.length + rest.length ≤ 8 + S.rest.length)
    (hc : ∀ (ch0 : List Ins) (us0 : List Tm) (r2 : List Ins), S.rest = ch0 ++ r2 → HeadR S.funs ch0 us0 → us0.length = put.n.toNat → bad = false ∧ rest = r2 ∧ t = .mk (funI put) us0) (h : CellsPost W t e W') : HeadPost W0 w R fm bm S kv put e W' := by
  obtain ⟨a, n, c, rfl, hA, hb⟩ := h
  refine ⟨a, n, c, t, rest, bad, H1, kv1, rfl, hT.below hb, hA.baseN hT.fr.size, fun b h1 h2 => ?_, hl, hc⟩
  have := (hA.lt b h1).1
  have := (hT.tw.ownB b h2).2
  omega
end Go.Proofs.Ytkkiemideldioaa
set_option linter.unusedVariables false
namespace Go.Proofs.Ytkkiemideldioaa
open Go.RowKit

theorem wpList_appQ {w : World} {ops : Array Oper} {rest : List Oper} {o : Oper} {a : Act} {Q : Exit → Act → World → Prop} (hgd : o.guard = none) (s x : Operand)
    (ho : o.op = .call { callee := .builtin .append, args := #[s, x], argTypes := #[198, 198] }) {B B1 : Nat} {v v2 : Value} {xs ys : List PtN} (h : RowQ w B xs v) (h2 : RowQ w B1 ys v2) (hB : B ≤ w.heap.size)
    (hs : a.eval s = v) (hx : a.eval x = v2) (hmax : xs.length + ys.length ≤ 1000000)
    (hK : ∀ v' w', RowQ w' B (xs ++ ys) v' → w.grownBy w' v.ownBlock → NewAtN w v v' → wpList Try.prog ops Q rest (a.put o.dst v') w') :
    wpList Try.prog ops Q (o :: rest) a w := by
  refine wpList_plain hgd fun K hK' => ?_
  obtain ⟨v', w', hr, h3, h4, h5⟩ := h.join h2 hB o.type hmax
  unfold Oper.wp execOp
  simp only [ho, resolve, invoke, builtin, Sem.run_bind, Sem.run_pure, Result.andThen_ok, List.map_toArray, List.map_cons, List.map_nil, hs, hx, hr]
  exact hK' _ _ (hK v' w' h3 h4 h5)
/-- the head's arguments, before anything is told of them -/
theorem HQ.start {H H1 : Nat → Option NdS} {p : Nat} {c : Cel} {qs : List Nat} {cs : List Cel} {B : Nat} (h : KidsOf H H1 p c qs cs B) : HQ H1 p qs (fun ts => .mk c ts) :=
  ⟨fun x hx => by
    obtain ⟨k, hk, e⟩ := List.getElem_of_mem hx
    obtain ⟨d, _, hd⟩ := h.leaf k x (by rw [List.getElem?_eq_getElem hk, e])
    exact ⟨d, hd⟩, h.nodup, fun H2 ts ha ht => .mk (ha p _ (fun e => by have := h.new p e; have := h.pB; omega) h.at_) ht⟩
structure HGo1 (W0 w w1 : World) (R fm bm : Nat) (S : TS) (kv : Nat → Value) (p : Nat) (c : Cel) (k : Nat) (qs : List Nat) (H1 : Nat → Option NdS) (kv1 : Nat → Value) (W : World) : Prop where
  tr : Tr W0 w R fm bm S kv W { S with rest := S.rest, bad := S.bad, H := H1 } kv1
  kid : KidsOf (updH S.H p ⟨c, []⟩) H1 p c qs (List.replicate k zeroC) w1.heap.size
  gr : w1.heap.size ≤ W.heap.size
set_option maxRecDepth 100000 in
set_option maxHeartbeats 12800000 in
theorem thead_any (W0 w : World) (R fm bm : Nat) (S : TS) (kv : Nat → Value) (hT : TW W0 w R fm bm S kv) (put : Ins) (hfit : put.fit) (h6 : put.n ≤ 6) (hbad : S.bad = false) :
    Calls Try.prog 124 #[.pointer (some ⟨R, 0, none⟩), put.v] w (HeadPost W0 w R fm bm S kv put) := by
  obtain ⟨o1, o2, x1', x2', a1, a2, hsz, hn1, hn2⟩ := hfit
  have hbx := (Below.refl w.heap.size w).new (.cells #[.int .i64 put.op, .int .i64 put.x, .int .i64 put.a, .string put.s, .int .i64 put.n, .bool put.neg] 48)
  have HT := mkHid hT
  have HBX0 := mkHid hbx
  have HW0 := mkHid hT.B0
  have HSL : Hid (S.rest.length ≤ 100000) := by obtain ⟨n, hn, _⟩ := hT.bt; exact hn.2
  have HBAD := mkHid hbad
  have HCF : Hid ((funI put).fit) := ⟨by show _ ≤ (3 : Int); omega, by show (3 : Int) ≤ _; omega, hn1, hn2, hsz⟩
  clear hT hbad hbx
  go_enter Try.func124, Try.ntmps124
  dsimp only [Ins.v]
  go_wp2_with fail
  refine (funC_any _ put).mono ?_
  rintro e w2 ⟨rfl, hb2⟩
  have HB2 := mkHid (HBX0.out.then hb2)
  have bx : w2.cell? ⟨w.heap.size, 4, none⟩ = some (.int .i64 put.n) := keep (World.cell?_alloc_at _ _ w.heap.size 4 rfl) hb2
  have HT2 := mkHid ((Tr.refl HT.out).below HB2.out)
  have HN2 := mkHid (Tr.newN HT2.out.tw (funI put) HCF.out)
  have HNB : Hid (w2.cell? ⟨w.heap.size, 4, none⟩ = some (.int .i64 put.n)) := bx
  have hlt : w.heap.size < w2.heap.size := by have := hb2.size; simp at this; omega
  have hne : ¬ w2.heap.size = w.heap.size := by omega
  have hne' : ¬ w.heap.size = w2.heap.size := by omega
  clear hb2
  have hG0 : HGo1 W0 w (w2.alloc (.cells #[.int .i64 3, .string put.s, .int .i64 put.n, .slice none 0 0] 200)) R fm bm S kv w2.heap.size (funI put) 0 [] (updH S.H w2.heap.size ⟨funI put, []⟩) (updV kv w2.heap.size (.slice none 0 0)) (w2.alloc (.cells #[.int .i64 3, .string put.s, .int .i64 put.n, .slice none 0 0] 200)) := by
    refine ⟨HT2.out.trans HN2.out, ?_, Nat.le_refl _⟩
    exact KidsOf.nil (updH_at _ _ _) (by simp)
  have HG0 := mkHid hG0
  clear hG0
  go_wp2_with fail
  obtain ⟨w3, hw3⟩ : ∃ X, (w2.alloc (.cells #[.int .i64 3, .string put.s, .int .i64 put.n, .slice none 0 0] 200)) = X := ⟨_, rfl⟩
  have hs3 : w3.heap.size = w2.heap.size + 1 := by rw [← hw3]; simp
  have HG0' := HG0.out
  rw [hw3] at HG0' ⊢
  clear HG0 hw3 bx
  have HG0 := mkHid HG0'
  clear HG0'
  obtain ⟨p, hpp⟩ : ∃ x, w2.heap.size = x := ⟨_, rfl⟩
  rw [hpp] at HG0 hs3 ⊢
  have HS3 := mkHid hs3
  clear hs3 hne hne' hlt HN2 HNB HT2
  go_loopw [13] (fun i wr => ∃ (k : Nat) (qs : List Nat) (H1 : Nat → Option NdS) (kv1 : Nat → Value), i = .int .i64 k ∧ k ≤ put.n.toNat ∧ Hid (HGo1 W0 w w3 R fm bm S kv p (funI put) k qs H1 kv1 wr)) (fun i wr => put.n.toNat - (intOf i).toNat)
  case atStart => exact ⟨0, [], _, _, rfl, Nat.zero_le _, HG0⟩
  case round =>
    clear HG0
    obtain ⟨k, qs, H1, kv1, rfl, hk, HU⟩ := hrel
    have HD := mkHid HU.out.kid.at_
    have HQL : Hid (qs.length = k) := by have := HU.out.kid.len; rw [List.length_replicate] at this; exact this
    obtain ⟨ka, kc, hkv, hk1, hk2⟩ := HU.out.tr.tw.kid_lit HD.out
    rw [List.length_map] at hkv hk1
    obtain ⟨_, _, _, n3, nfz⟩ := HU.out.tr.tw.cN HD.out
    rw [hkv] at n3
    have f3 := nfz 3
    have HKV := mkHid hkv
    clear hkv nfz
    by_cases hlt : (k : Int) < put.n
    · have hqp2 : p ≠ wr.heap.size := by have h1 := HU.out.kid.pB; have := HU.out.gr; omega
      have hqp : wr.heap.size ≠ p := fun e => hqp2 e.symm
      have HQP := mkHid hqp
      have HQP2 := mkHid hqp2
      clear hqp hqp2
      have hN1 := Tr.newN HU.out.tr.tw zeroC ⟨by decide, by decide, by decide, by decide, by decide⟩
      have hA1 : AccInv W0.heap.size 196 (qs.map PtN.mk) (kv1 p) (wr.alloc (.cells #[.int .i64 0, .string ⟨#[]⟩, .int .i64 0, .slice none 0 0] 200)) := (HU.out.tr.tw.nd p _ HD.out).2.2.2.below ((Below.refl _ _).new _)
      rw [HKV.out] at hA1
      have n3' := keep n3 ((Below.refl wr.heap.size wr).new (.cells #[.int .i64 0, .string ⟨#[]⟩, .int .i64 0, .slice none 0 0] 200))
      have HN1 := mkHid hN1
      have HA1 := mkHid hA1
      have hB1 : W0.heap.size ≤ (wr.alloc (.cells #[.int .i64 0, .string ⟨#[]⟩, .int .i64 0, .slice none 0 0] 200)).heap.size := hN1.tw.B0
      have hql9 : qs.length ≤ 100 := by have := HQL.out; omega
      clear hN1 hA1
      go_wp2_with (at_builtin; go_loud (refine wpList_accN (α := PtN) rfl _ _ 198 rfl W0.heap.size 196 8 _ Try.underlying198 Try.infoPtN rfl (by decide) _ (qs.map PtN.mk) HA1.out (by rfl) _ #[.pointer (some ⟨wr.heap.size, 0, none⟩)] ⟨wr.heap.size⟩ rfl (by rw [World.size_alloc]; rfl) (by rw [List.length_map]; omega) hB1 ?_; intro v' w3' ha3 hg3 hw3; obtain ⟨a3, n9, c3, rfl⟩ := slice_ofN ha3; obtain ⟨hT3, x3, y3⟩ := Tr.push HN1.out.tw (p := p) (d := ⟨funI put, qs.map PtN.mk⟩) (vp := .slice ka qs.length kc) (by show updH H1 wr.heap.size _ p = _; rw [updH_ne _ HQP2.out]; exact HD.out) (by rw [updV_ne _ HQP2.out]; exact HKV.out) ha3 hg3 hw3; have HT3 := mkHid (HU.out.tr.trans (HN1.out.trans hT3)); have HSZ := mkHid (HN1.out.trans hT3).fr.size; clear ha3 hg3 hw3 hT3))
      have HQ : Hid (wr.heap.size ∉ qs) := fun e => by
        obtain ⟨kq, hkq, e2⟩ := List.getElem_of_mem e
        obtain ⟨d9, _, h9⟩ := HU.out.kid.leaf kq wr.heap.size (by rw [List.getElem?_eq_getElem hkq, e2])
        have := (HU.out.tr.tw.ownB _ (.inr (.inr (.inr (.inl ⟨_, h9⟩))))).2
        omega
      have hqn : (updH (updH H1 wr.heap.size ⟨zeroC, []⟩) p ⟨funI put, qs.map PtN.mk ++ [⟨wr.heap.size⟩]⟩) wr.heap.size = some ⟨zeroC, []⟩ := by rw [updH_ne _ HQP.out, updH_at]
      have hH : updH (updH (updH H1 wr.heap.size ⟨zeroC, []⟩) p ⟨funI put, qs.map PtN.mk ++ [⟨wr.heap.size⟩]⟩) wr.heap.size ⟨zeroC, []⟩ = updH (updH H1 wr.heap.size ⟨zeroC, []⟩) p ⟨funI put, qs.map PtN.mk ++ [⟨wr.heap.size⟩]⟩ := funext fun b => by
        by_cases e : b = wr.heap.size
        · rw [e, updH_at, hqn]
        · rw [updH_ne _ e]
      have hks := HU.out.kid.snoc (d := zeroC) HU.out.gr HQ.out
      rw [hH] at hks
      have hks' : KidsOf (updH S.H p ⟨funI put, []⟩) (updH (updH H1 wr.heap.size ⟨zeroC, []⟩) p ⟨funI put, qs.map PtN.mk ++ [⟨wr.heap.size⟩]⟩) p (funI put) (qs ++ [wr.heap.size]) (List.replicate (k + 1) zeroC) w3.heap.size := by rw [List.replicate_succ']; exact hks
      have HKS := mkHid hks'
      clear hks hks' hH hqn x3 y3 n3 n3'
      go_wp2_with fail
      go_round
      case rel => exact ⟨k + 1, qs ++ [wr.heap.size], _, _, by go_num, by omega, mkHid ⟨HT3.out, HKS.out, by have := HU.out.gr; have := HSZ.out; omega⟩⟩
      case measure => simp [intOf]; omega
    · have hkn : k = put.n.toNat := by omega
      have HACC : Hid (AccInv W0.heap.size 196 (qs.map PtN.mk) (.slice ka qs.length kc) wr) := by
        have h := (HU.out.tr.tw.nd p _ HD.out).2.2.2
        rw [HKV.out] at h
        exact h
      have hwr : w.heap.size ≤ wr.heap.size := HU.out.tr.fr.size
      have hql9 : qs.length ≤ 6 := by have := HQL.out; omega
      have HKN : Hid (qs.length = put.n.toNat) := HQL.out.trans hkn
      clear hkn f3
      go_wp2_with (at_builtin; go_loud (refine wpList_appQ rfl _ _ rfl (RowQ.nil _ w.heap.size) (RowQ.ofAcc HACC.out) hwr (by rfl) (by rfl) (by simp; omega) ?_; intro v' w4 hp4 hg4 hn4))
      have hb4 : Below wr.heap.size wr w4 := ⟨hg4.os, hg4.tape, hg4.output, hg4.size, fun k hk => hg4.block k hk (fun e => by cases e)⟩
      have hG1 : HGo W0 w R fm bm S kv put p qs (fun ts => .mk (funI put) ts) S.rest S.bad H1 kv1 v' w4 := by
        refine ⟨HU.out.tr.below hb4, HQ.start HU.out.kid, HP.start HKN.out h6 HBAD.out, by simpa using hp4, fun b hb e => ?_, HW0.out⟩
        rcases hn4 with e4 | ⟨b', e4, hb'⟩
        · rw [e4] at hb; cases hb
        · rw [hb] at e4; injection e4 with e4
          have := (HU.out.tr.tw.ownB b e).2
          omega
      rw [HBAD.out] at hG1
      have HG1 := mkHid hG1
      clear hG1 hb4 hp4 hg4 hn4 HACC hk hlt n3
      go_wp2_with fail
      go_loopg [6] (1 + qs.length + S.rest.length) (fun kk vo wz => ∃ (ps : List Nat) (fill : List Tm → Tm) (rest : List Ins) (bad : Bool) (H2 : Nat → Option NdS) (kv2 : Nat → Value), Hid (HGo W0 w R fm bm S kv put p ps fill rest bad H2 kv2 vo wz) ∧ Hid (bad = false → kk = 1 + ps.length + rest.length))
      case atStart => exact ⟨qs, _, S.rest, false, H1, kv1, HG1, fun _ => rfl⟩
      case round =>
        clear HG1
        obtain ⟨ps, fill, rest, bad, H2, kv2, HG, HK⟩ := hrel
        obtain ⟨_, _, _, _, _, r3, rfz, _⟩ := HG.out.tr.tw.cR
        dsimp only at r3
        clear rfz
        have exit : bad = true ∨ ps = [] → ∃ t, Hid (TrH H2 p t) ∧ t.flat.length ≤ 900000000 ∧ ∀ e W', CellsPost wr t e W' → HeadPost W0 w R fm bm S kv put e W' := fun he => by
          obtain ⟨t, h1, h2, h3⟩ := HG.out.ends he
          have := HSL.out
          exact ⟨t, h1, by omega, fun e W' hc => HeadPost.of HG.out.tr h2 h3 hc⟩
        have EXIT := mkHid exit
        clear exit
        cases ps with
        | nil =>
          obtain ⟨so, sc, rfl, hs1, hs2⟩ := HG.out.op.slice
          obtain ⟨t, HTR, hfl, hpost⟩ := EXIT.out (.inr rfl)
          clear HK EXIT
          go_wp2_with fail
          refine (cells_any W0 _ R fm bm _ _ HG.out.tr.tw p t HTR.out hfl).mono ?_
          intro e w9 hc
          have hph := hpost e w9 hc
          obtain ⟨a9, n9, c9, rfl, _, _⟩ := hc
          have HPH := mkHid hph
          clear hph hpost
          go_wp2_with fail
          go_ret
          exact HPH.out
        | cons p1 ps =>
          obtain ⟨so, sc, rfl, hs1, hs2⟩ := HG.out.op.slice
          rw [List.map_cons, List.length_cons] at hs1 ⊢
          cases bad with
          | true =>
            obtain ⟨t, HTR, hfl, hpost⟩ := EXIT.out (.inl rfl)
            clear HK EXIT
            generalize hqs : ps.map PtN.mk = qs2 at *
            have HQS := mkHid hqs
            clear hqs
            go_wp2_with fail
            refine (cells_any W0 _ R fm bm _ _ HG.out.tr.tw p t HTR.out hfl).mono ?_
            intro e w9 hc
            have hph := hpost e w9 hc
            obtain ⟨a9, n9, c9, rfl, _, _⟩ := hc
            have HPH := mkHid hph
            clear hph hpost
            go_wp2_with fail
            go_ret
            exact HPH.out
          | false =>
            clear EXIT
            have HKK := mkHid (HK.out rfl)
            clear HK
            have hG := HG.out
            obtain ⟨K9, hK9, _⟩ := hG.hp.len
            have hpl : ps.length ≤ 200000 := by have h1 := HSL.out; simp only [List.length_cons, Bool.false_eq_true, if_false] at hK9; omega
            have hrl : rest.length ≤ 200000 := by have h1 := HSL.out; simp only [List.length_cons, Bool.false_eq_true, if_false] at hK9; omega
            clear hK9
            have HGL := mkHid (getM_len S.funs)
            have hop := hG.op
            rw [List.map_cons] at hop
            have hln : (ps.map PtN.mk).length ≤ 200000 := by rw [List.length_map]; exact hpl
            generalize hqs : ps.map PtN.mk = qs2 at *
            have HQS := mkHid hqs
            clear hqs
            obtain ⟨gb, off, cq, hsl, c0⟩ := hop.head
            cases hsl
            have HOP := mkHid hop
            have hcap : qs2.length + 1 ≤ sc := hs1
            obtain ⟨cc, hcc⟩ := hG.hq.leaf p1 List.mem_cons_self
            have HCC := mkHid hcc
            have HG9 := mkHid hG
            clear hop hG hcc HG
            go_wp2_with fail
            refine wp_region_noPanic ?_
            refine wp_region_held_drew (S := fun _ => True) (by kernel_rfl) trivial (fun _ => ?_)
            have hbd : Below wr.heap.size wr wr.drew := (Below.refl _ _).drew
            have d0 := keep c0 hbd
            clear c0
            obtain ⟨v0, hx0⟩ : ∃ X, wr.drew = X := ⟨_, rfl⟩
            rw [hx0] at hbd d0 ⊢
            clear hx0
            obtain ⟨off', hoff⟩ : ∃ off', (sc = 1 → off' = off) ∧ (¬ sc = 1 → off' = off + 1) := by
              by_cases h : sc = 1
              · exact ⟨off, fun _ => rfl, fun h2 => absurd h h2⟩
              · exact ⟨off + 1, fun h2 => absurd h2 h, fun _ => rfl⟩
            have hlen1 : (1 : Int) ≤ (qs2.length : Int) + 1 := by omega
            refine wpAnyH_take (i := 0) (oi := _) (v := ?_) rfl (by kernel_rfl) (by kernel_rfl) (by kernel_rfl) (fun _ _ _ h => h) (Or.inl ⟨by rfl, ?_⟩) (by assumption) ?_
            rotate_left
            · (intro w' _; go_simp; try with_reducible rfl)
            (try simp only [List.getElem_toArray, List.getElem_cons_succ, List.getElem_cons_zero, Act.put, List.setIfInBounds_toArray, List.set_cons_zero, List.set_cons_succ])
            have hoff2 : off' = off + 1 ∨ sc - 1 = 0 ∧ off' = off := by
              by_cases h : sc = 1
              · exact .inr ⟨by omega, hoff.1 h⟩
              · exact .inl (hoff.2 h)
            have HOF : Hid ((if sc = 1 then some (⟨gb, off, none⟩ : Addr) else some ⟨gb, off + 1, none⟩) = some ⟨gb, off', none⟩) := by
              by_cases h : sc = 1
              · rw [Hid, if_pos h, hoff.1 h]
              · rw [Hid, if_neg h, hoff.2 h]
            refine wpAnyH_take (i := 1) (oi := _) (v := .slice (some ⟨gb, off', none⟩) qs2.length (sc - 1)) rfl (by kernel_rfl) (by kernel_rfl) (by kernel_rfl) (fun _ _ _ h => h) (Or.inl ⟨by rfl, ?_⟩) (by assumption) ?_
            · (intro w' _; go_simp; try (first | with_reducible rfl | (exact HOF.out)))
            (try simp only [List.getElem_toArray, List.getElem_cons_succ, List.getElem_cons_zero, Act.put, List.setIfInBounds_toArray, List.set_cons_zero, List.set_cons_succ])
            refine wpAnyH_take (i := 2) (oi := _) (v := ?_) rfl (by kernel_rfl) (by kernel_rfl) (by kernel_rfl) (fun _ _ _ h => h) (Or.inl ⟨by rfl, ?_⟩) (by assumption) ?_
            rotate_left
            · (intro w' _; go_simp; try with_reducible rfl)
            (try simp only [List.getElem_toArray, List.getElem_cons_succ, List.getElem_cons_zero, Act.put, List.setIfInBounds_toArray, List.set_cons_zero, List.set_cons_succ])
            refine wpAnyH_take (i := 3) (oi := _) (v := ?_) rfl (by kernel_rfl) (by kernel_rfl) (by kernel_rfl) (fun _ _ _ h => h) (Or.inl ⟨by rfl, ?_⟩) (by assumption) ?_
            rotate_left
            · (intro w' _; go_simp; try with_reducible rfl)
            (try simp only [List.getElem_toArray, List.getElem_cons_succ, List.getElem_cons_zero, Act.put, List.setIfInBounds_toArray, List.set_cons_zero, List.set_cons_succ])
            refine wpAnyH_take (i := 4) (oi := _) (v := ?_) rfl (by kernel_rfl) (by kernel_rfl) (by kernel_rfl) (fun _ _ _ h => h) (Or.inl ⟨by rfl, ?_⟩) (by assumption) ?_
            rotate_left
            · (intro w' _; go_simp; try with_reducible rfl)
            (try simp only [List.getElem_toArray, List.getElem_cons_succ, List.getElem_cons_zero, Act.put, List.setIfInBounds_toArray, List.set_cons_zero, List.set_cons_succ])
            refine wpAnyH_ready (rs := [5]) (by kernel_rfl) (by simp) ?_
            refine AllReadyH.cons (o := _) rfl (fun K hK => ?_) AllReadyH.nil
            go_simp
            try dsimp only
            refine hK.out _ _ trivial (fun _ => ?_)
            clear hK K
            (try simp only [List.getElem_toArray, List.getElem_cons_succ, List.getElem_cons_zero, Act.put, List.setIfInBounds_toArray, List.set_cons_zero, List.set_cons_succ])
            refine wpAnyH_ready (rs := [6]) (by kernel_rfl) (by simp) ?_
            refine AllReadyH.cons (o := _) rfl (fun K hK => ?_) AllReadyH.nil
            go_simp
            have HT0 := mkHid (HG9.out.tr.tw.below hbd)
            have HTL : Hid (RowQ v0 w.heap.size qs2 (.slice (some ⟨gb, off', none⟩) qs2.length (sc - 1))) := (HOP.out.tail hoff2).below hbd
            refine (tget_any W0 v0 R fm bm _ kv2 HT0.out p1 cc HCC.out rfl).mono ?_
            rintro e w5 ⟨qs5, vo5, kv5, H5, rfl, hT5, hk5, ho5, hof5, hF5, hN5⟩
            dsimp only at hT5 hk5 ho5 hof5 hF5 hN5
            have hTL5 : RowQ w5 w.heap.size qs2 (.slice (some ⟨gb, off', none⟩) qs2.length (sc - 1)) := HTL.out.frP hF5 (fun b hb => HG9.out.off b hb)
            have hgl := HGL.out cc rest
            have hol : (opensOf qs5 ((getM S.funs cc rest).2.1.map Prod.snd)).length ≤ 300000 := by
              have h1 := opensOf_len qs5 ((getM S.funs cc rest).2.1.map Prod.snd)
              have h2 := hk5.len
              rw [List.length_map] at h2
              split at hgl <;> omega
            obtain ⟨v6, w6, hrun, hP6, hg6, hn6⟩ := hTL5.join (RowQ.ofAcc ho5) (Nat.le_trans HG9.out.tr.fr.size (Nat.le_trans hbd.size hF5.size)) 198 (by rw [List.length_map]; omega)
            rw [← HQS.out] at hP6
            have hG6 := HG9.out.step (vt := .slice (some ⟨gb, off', none⟩) qs2.length (sc - 1)) hbd rfl hT5 hk5 hF5 hN5 hP6 hg6 hn6
            have HML := mkHid (fun h => getM_less S.funs cc rest h)
            have HOL : Hid ((opensOf qs5 ((getM S.funs cc rest).2.1.map Prod.snd)).length ≤ (getM S.funs cc rest).2.1.length) := by
              have h1 := opensOf_len qs5 ((getM S.funs cc rest).2.1.map Prod.snd)
              have h2 := hk5.len
              rw [List.length_map] at h2
              rw [Hid]; omega
            have HG6 := mkHid hG6
            clear hG6 hP6 hg6 hn6 hT5 hk5 hF5 hN5 ho5 hof5 hTL5 hgl hol
            try dsimp only
            refine hK.out _ _ trivial (fun _ => ?_)
            clear hK K
            (try simp only [List.getElem_toArray, List.getElem_cons_succ, List.getElem_cons_zero, Act.put, List.setIfInBounds_toArray, List.set_cons_zero, List.set_cons_succ])
            refine wpAnyH_ready (rs := [7]) (by kernel_rfl) (by simp) ?_
            refine AllReadyH.cons (o := _) rfl (fun K hK => ?_) AllReadyH.nil
            (rw [if_pos (by rfl)]; simp [Oper.wp, execOp, resolve, invoke, builtin, Oper.upon, Act.eval, hrun, Result.andThen, Sem.run_bind])
            refine hK.out _ _ trivial (fun _ => ?_)
            clear hK K
            (try simp only [List.getElem_toArray, List.getElem_cons_succ, List.getElem_cons_zero, Act.put, List.setIfInBounds_toArray, List.set_cons_zero, List.set_cons_succ])
            refine wpAnyH_take (i := 8) (oi := _) (v := ?_) rfl (by kernel_rfl) (by kernel_rfl) (by kernel_rfl) (fun _ _ _ h => h) (Or.inl ⟨by rfl, ?_⟩) (by assumption) ?_
            rotate_left
            · (intro w' _; go_simp; try with_reducible rfl)
            (try simp only [List.getElem_toArray, List.getElem_cons_succ, List.getElem_cons_zero, Act.put, List.setIfInBounds_toArray, List.set_cons_zero, List.set_cons_succ])
            refine wpAnyH_done (by kernel_rfl) (NoPanic.normal ?_) _
            clear hrun d0
            go_wp2_with fail
            go_roundg (if (getM S.funs cc rest).2.2.2 = true then 0 else 1 + (ps ++ opensOf qs5 ((getM S.funs cc rest).2.1.map Prod.snd)).length + (getM S.funs cc rest).2.2.1.length)
            case rel => exact ⟨_, _, _, _, _, _, HG6, fun h => by rw [h]; simp⟩
            case measure =>
              have h1 := HKK.out
              have h2 := HML.out
              have h3 := HOL.out
              split
              · omega
              · rename_i hb
                have h4 := h2 (by simpa using hb)
                rw [List.length_append]; rw [List.length_cons] at h1; omega
end Go.Proofs.Ytkkiemideldioaa
set_option linter.unusedVariables false
namespace Go.Proofs.Ytkkiemideldioaa
open Go.RowKit

/-! ### taken -/
theorem MapV.run_delN {P : Program} {k e t : TypeId} {w : World} {b n : Nat} {f : Int → Option Value} (h : MapV P k w b n f) (hk : P.underlying k = some (.int .i64)) (ht : P.underlying t = some (.map k e)) {i : Int} (hi : (Lit.int .i64 i).wf = true) (ty : TypeId) :
    ∃ w', (Builtin.delete_ #[t, k] ty #[.map (some b), .int .i64 i]).run P w = .ok (.tuple #[]) w' ∧ MapV P k w' b n (fun j => if j = i then none else f j) ∧ w.grownBy w' (some b) := by
  obtain ⟨D, h, hf⟩ := h.ex
  obtain ⟨w', hrun, h1, h2⟩ := h.drop (Go.Maps.int_keyed hk) ht (Go.Maps.keyOf_int_mk hk hi) ty
  refine ⟨w', hrun, ⟨_, h1, fun j hj => ?_⟩, h2.grown⟩
  by_cases e : j = i
  · subst e
    rw [if_pos rfl]
    exact ⟨Go.Maps.has_del_same, fun z => Go.Maps.atKey_del_same _⟩
  · rw [if_neg e]
    obtain ⟨h1, h2⟩ := hf j hj
    exact ⟨by rw [← h1]; exact Go.Maps.has_del_other (by simp; exact e), fun z => by rw [← h2 z]; exact Go.Maps.atKey_del_other (by simp; exact e) _⟩
def delP (f : Int → Option Nat) (x : Int) : Int → Option Nat := fun j => if j = x then none else f j
def ptO : Option Nat → Value
  | some p => .pointer (some ⟨p, 0, none⟩)
  | none => .pointer none
theorem Try.zeroPtN (w : World) : (zeroValue 196).run Try.prog w = .ok (.pointer none) w := by kernel_rfl
set_option maxHeartbeats 3200000 in
theorem taken_any (W0 w : World) (R fm bm : Nat) (S : TS) (kv : Nat → Value) (hT : TW W0 w R fm bm S kv) (x : Int) (h1 : -9223372036854775808 ≤ x) (h2 : x ≤ 9223372036854775807) :
    Calls Try.prog 171 #[.pointer (some ⟨R, 0, none⟩), .int .i64 x] w fun e W' => e = .returned (.tuple #[ptO (S.built x), .bool (S.built x).isSome]) ∧ Tr W0 w R fm bm S kv W' { S with built := delP S.built x } kv := by
  obtain ⟨_, _, _, _, c2, _, _, _⟩ := hT.cR
  obtain ⟨n, hn, hm⟩ := hT.bt
  have hlk := hm.run_ok (t := 175) (e := 196) Try.underlying3 Try.underlying175 (Try.zeroPtN _) (wf64 h1 h2)
  obtain ⟨w5, hrun, hm5, hg5⟩ := hm.run_delN (t := 175) (e := 196) Try.underlying3 Try.underlying175 (wf64 h1 h2) 0
  have hf5 : Fr [bm] w w5 := grown_frN hg5
  have hT5 := Tr.of (hT.blkB hf5 (built := delP S.built x) hn (hm5.congr fun i => by unfold MapP delP; split <;> rfl))
  have hv : ((MapP S.built x).getD (.pointer none)) = ptO (S.built x) := by unfold MapP; cases S.built x <;> rfl
  have hi : (MapP S.built x).isSome = (S.built x).isSome := by unfold MapP; cases S.built x <;> rfl
  rw [hv, hi] at hlk
  have HT5 := mkHid hT5
  clear hT5 hf5 hg5 hm5 hv hi hm hT
  go_enter Try.func171, Try.ntmps171
  go_wp2_with fail
  exact bodyPost_ret (v := .tuple #[ptO (S.built x), .bool (S.built x).isSome]) (by simp [results, Try.results171, go_sem]) rfl ⟨rfl, HT5.out⟩
end Go.Proofs.Ytkkiemideldioaa
set_option linter.unusedVariables false
namespace Go.Proofs.Ytkkiemideldioaa
open Go.RowKit

/-! ### structures: what is plain of them -/
abbrev BL := List (Int × Tm)
def getB (B : BL) (x : Int) : Option Tm := (B.find? fun e => e.1 == x).map (·.2)
def dropB (B : BL) (x : Int) : BL := B.filter fun e => !(e.1 == x)
def sumB (B : BL) : Nat := (B.map fun e => e.2.flat.length).sum
theorem getB_drop (B : BL) (x j : Int) : getB (dropB B x) j = if j = x then none else getB B j := by
  induction B with
  | nil => simp [getB, dropB]
  | cons e B ih =>
    unfold getB dropB at *
    by_cases h : e.1 = x
    · subst h
      simp only [List.filter_cons, beq_self_eq_true, Bool.not_true, Bool.false_eq_true, if_false]
      rw [ih]
      split
      · rfl
      · rename_i hj
        rw [List.find?_cons_of_neg (by simpa using fun e => hj e.symm)]
    · have h' : (e.1 == x) = false := by simpa using h
      simp only [List.filter_cons, h', Bool.not_false, if_true]
      by_cases h2 : e.1 = j
      · subst h2
        rw [List.find?_cons_of_pos (by simp), List.find?_cons_of_pos (by simp), if_neg h]
      · rw [List.find?_cons_of_neg (by simpa using h2), List.find?_cons_of_neg (by simpa using h2), ih]
theorem dropB_le (B : BL) (x : Int) : sumB (dropB B x) ≤ sumB B := by
  induction B with
  | nil => simp [sumB, dropB]
  | cons e B ih =>
    unfold sumB dropB at *
    rw [List.filter_cons]
    split <;> simp only [List.map_cons, List.sum_cons] <;> omega
theorem dropB_get {B : BL} {x : Int} {t : Tm} (h : getB B x = some t) : sumB (dropB B x) + t.flat.length ≤ sumB B := by
  induction B with
  | nil => simp [getB] at h
  | cons e B ih =>
    by_cases h2 : e.1 = x
    · have ht : e.2 = t := by
        unfold getB at h
        rw [List.find?_cons_of_pos (by simpa using h2)] at h
        simpa using h
      have h3 := dropB_le B x
      unfold sumB dropB at *
      rw [List.filter_cons, if_neg (by simp [h2])]
      simp only [List.map_cons, List.sum_cons, ht]
      omega
    · have h4 : getB B x = some t := by
        unfold getB at h ⊢
        rw [List.find?_cons_of_neg (by simpa using h2)] at h
        exact h
      have h3 := ih h4
      unfold sumB dropB at *
      rw [List.filter_cons, if_pos (by simp [h2])]
      simp only [List.map_cons, List.sum_cons]
      omega
def putB (B : BL) (x : Int) (t : Tm) : BL := (x, t) :: dropB B x
theorem getB_put (B : BL) (x : Int) (t : Tm) (j : Int) : getB (putB B x t) j = if j = x then some t else getB B j := by
  unfold putB
  by_cases h : j = x
  · subst h
    unfold getB
    rw [List.find?_cons_of_pos (by simp)]
    simp
  · rw [if_neg h]
    have := getB_drop B x j
    rw [if_neg h] at this
    rw [← this]
    unfold getB
    rw [List.find?_cons_of_neg (by simpa using fun e => h e.symm)]
theorem sumB_put (B : BL) (x : Int) (t : Tm) : sumB (putB B x t) ≤ sumB B + t.flat.length := by
  have := dropB_le B x
  unfold putB
  unfold sumB at *
  simp only [List.map_cons, List.sum_cons]
  omega
def stepD (i : Ins) (B : BL) : Tm × BL × Bool :=
  if i.op = 9 then (vT i.x, B, false)
  else if i.op = 10 then ((getB B i.x).getD (vT i.x), dropB B i.x, false)
  else if i.op = 11 then (.mk (intI i) [], B, false)
  else (.mk zeroC [], B, true)
theorem leaf_len (c : Cel) : (Tm.mk c []).flat.length = 1 := by simp [Tm.flat, flats]
theorem stepD_len (i : Ins) (B : BL) : (stepD i B).1.flat.length + sumB (stepD i B).2.1 ≤ sumB B + 1 := by
  unfold stepD
  split
  · simp only [vT, leaf_len]; omega
  · split
    · simp only
      cases h : getB B i.x with
      | none => have := dropB_le B i.x; simp only [Option.getD_none, vT, leaf_len]; omega
      | some t => have := dropB_get h; simp only [Option.getD_some]; omega
    · split
      · simp only [leaf_len]; omega
      · simp only [leaf_len]; omega
def setsM : Nat → BL → List Ins → List Tm × BL × List Ins × Bool
  | 0, B, l => ([], B, l, false)
  | m + 1, B, l => if (stepD (nextI l) B).2.2 = true then ([(stepD (nextI l) B).1], (stepD (nextI l) B).2.1, l.tail, true) else ((stepD (nextI l) B).1 :: (setsM m (stepD (nextI l) B).2.1 l.tail).1, (setsM m (stepD (nextI l) B).2.1 l.tail).2)
theorem setsM_step (m : Nat) (B : BL) (l : List Ins) : setsM (m + 1) B l = if (stepD (nextI l) B).2.2 = true then ([(stepD (nextI l) B).1], (stepD (nextI l) B).2.1, l.tail, true) else ((stepD (nextI l) B).1 :: (setsM m (stepD (nextI l) B).2.1 l.tail).1, (setsM m (stepD (nextI l) B).2.1 l.tail).2) := rfl
theorem stepD_nil (B : BL) (l : List Ins) (h : (stepD (nextI l) B).2.2 = false) : l.tail.length + 1 = l.length := by
  cases l with
  | nil => exact absurd h (by simp [stepD, nextI, zeroI])
  | cons a l => rfl
theorem setsM_len : ∀ (m : Nat) (B : BL) (l : List Ins), (flats (setsM m B l).1).length + sumB (setsM m B l).2.1 + (setsM m B l).2.2.1.length ≤ sumB B + l.length + (if (setsM m B l).2.2.2 = true then 1 else 0) ∧ (setsM m B l).2.2.1.length ≤ l.length
  | 0, B, l => by simp [setsM, flats]
  | m + 1, B, l => by
    rw [setsM_step]
    have h1 := stepD_len (nextI l) B
    have ht := List.length_tail (l := l)
    split
    · simp only [flats, List.append_nil, if_true]; omega
    · rename_i hb
      have h2 := stepD_nil B l (by simpa using hb)
      obtain ⟨h3, h4⟩ := setsM_len m (stepD (nextI l) B).2.1 l.tail
      simp only [flats, List.length_append]
      omega
/-- what is left to be told, behind what was -/
def SEq (M : Nat) (B0 : BL) (l0 : List Ins) (done : List Tm) (B : BL) (rest : List Ins) (bad : Bool) : Prop := setsM M B0 l0 = if bad = true then (done, B, rest, true) else (done ++ (setsM (M - done.length) B rest).1, (setsM (M - done.length) B rest).2)
theorem SEq.start (M : Nat) (B0 : BL) (l0 : List Ins) : SEq M B0 l0 [] B0 l0 false := by simp [SEq]
theorem SEq.step {M : Nat} {B0 : BL} {l0 : List Ins} {done : List Tm} {B : BL} {rest : List Ins} (h : SEq M B0 l0 done B rest false) (hm : done.length < M) : SEq M B0 l0 (done ++ [(stepD (nextI rest) B).1]) (stepD (nextI rest) B).2.1 rest.tail (stepD (nextI rest) B).2.2 := by
  unfold SEq at h ⊢
  simp only [Bool.false_eq_true, if_false] at h
  rw [h, show M - done.length = (M - (done.length + 1)) + 1 by omega, setsM_step]
  by_cases hb : (stepD (nextI rest) B).2.2 = true
  · simp [hb]
  · simp only [hb, if_false, Bool.false_eq_true, List.length_append, List.length_cons, List.length_nil]
    simp
theorem SEq.ends {M : Nat} {B0 : BL} {l0 : List Ins} {done : List Tm} {B : BL} {rest : List Ins} {bad : Bool} (h : SEq M B0 l0 done B rest bad) (hm : bad = true ∨ M ≤ done.length) : setsM M B0 l0 = (done, B, rest, bad) := by
  unfold SEq at h
  cases bad with
  | true => simpa using h
  | false =>
    rcases hm with e | hm
    · cases e
    · simp only [Bool.false_eq_true, if_false] at h
      rw [show M - done.length = 0 by omega] at h
      simpa [setsM] using h
theorem SetsR.told {us : List Ins} {G G' : Blt} {ts : List Tm} (h : SetsR us G ts G') : ∀ (B : BL) (l : List Ins), (∀ j, getB B j = G j) → ∃ B', setsM us.length B (us ++ l) = (ts, B', l, false) ∧ ∀ j, getB B' j = G' j := by
  induction h with
  | nil G => intro B l hB; exact ⟨B, rfl, hB⟩
  | @cons i us G G1 G2 t ts h hs ih =>
    intro B l hB
    have key : ∃ B1, stepD i B = (t, B1, false) ∧ ∀ j, getB B1 j = G1 j := by
      unfold setD at h
      unfold stepD
      split at h
      · rename_i h9
        cases h
        rw [if_pos h9]
        exact ⟨B, rfl, hB⟩
      · rename_i h9
        rw [if_neg h9]
        split at h
        · rename_i h10
          cases h
          rw [if_pos h10, hB]
          exact ⟨dropB B i.x, rfl, fun j => by rw [getB_drop, hB]; rfl⟩
        · rename_i h10
          rw [if_neg h10]
          split at h
          · rename_i h11
            cases h
            rw [if_pos h11]
            exact ⟨B, rfl, hB⟩
          · cases h
    obtain ⟨B1, e1, hB1⟩ := key
    obtain ⟨B2, e2, hB2⟩ := ih B1 l hB1
    refine ⟨B2, ?_, hB2⟩
    have en : nextI (i :: us ++ l) = i := rfl
    have et : (i :: us ++ l).tail = us ++ l := rfl
    rw [List.length_cons, setsM_step, en, et, e1]
    simp [e2]
/-! #### trees in memory while a node is put together -/
def hidH (H : Nat → Option NdS) (p : Nat) : Nat → Option NdS := fun b => if b = p then none else H b
mutual
theorem TrH.mono {H H' : Nat → Option NdS} (hH : ∀ b d, H b = some d → H' b = some d) : ∀ {p : Nat} {t : Tm}, TrH H p t → TrH H' p t
  | _, _, .mk h hs => .mk (hH _ _ h) (TrHs.mono hH hs)
theorem TrHs.mono {H H' : Nat → Option NdS} (hH : ∀ b d, H b = some d → H' b = some d) : ∀ {ks : List PtN} {ts : List Tm}, TrHs H ks ts → TrHs H' ks ts
  | _, _, .nil => .nil
  | _, _, .cons h hs => .cons (TrH.mono hH h) (TrHs.mono hH hs)
end
/-- what is built, as trees -/
def BtOk (H : Nat → Option NdS) (built : Int → Option Nat) (B : BL) : Prop := ∀ i, (built i = none ∧ getB B i = none) ∨ ∃ p t, built i = some p ∧ getB B i = some t ∧ TrH H p t
theorem BtOk.mono {H H' : Nat → Option NdS} {built : Int → Option Nat} {B : BL} (h : BtOk H built B) (hH : ∀ b d, H b = some d → H' b = some d) : BtOk H' built B := fun i => (h i).imp id fun ⟨p, t, a, b, c⟩ => ⟨p, t, a, b, c.mono hH⟩
theorem BtOk.drop {H : Nat → Option NdS} {built : Int → Option Nat} {B : BL} (h : BtOk H built B) (x : Int) : BtOk H (delP built x) (dropB B x) := fun i => by
  rw [getB_drop]
  unfold delP
  split
  · exact .inl ⟨rfl, rfl⟩
  · exact h i
theorem hidH_sub (H : Nat → Option NdS) (p : Nat) : ∀ b d, hidH H p b = some d → H b = some d := fun b d h => by
  unfold hidH at h
  split at h
  · cases h
  · exact h
theorem hidH_up {H H' : Nat → Option NdS} {p : Nat} (h : ∀ b d, b ≠ p → H b = some d → H' b = some d) : ∀ b d, hidH H p b = some d → hidH H' p b = some d := fun b d hb => by
  unfold hidH at hb ⊢
  split at hb
  · cases hb
  · rename_i hne
    rw [if_neg hne]
    exact h b d hne hb
end Go.Proofs.Ytkkiemideldioaa
set_option linter.unusedVariables false
namespace Go.Proofs.Ytkkiemideldioaa
open Go.RowKit

structure STGo (W0 w : World) (R fm bm : Nat) (S : TS) (kv : Nat → Value) (p : Nat) (c : Cel) (done : List Tm) (B : BL) (rest : List Ins) (bad : Bool) (built : Int → Option Nat) (qs : List Nat) (H1 : Nat → Option NdS) (kv1 : Nat → Value) (W : World) : Prop where
  tr : Tr W0 w R fm bm S kv W { S with rest := rest, built := built, bad := bad, H := H1 } kv1
  at_ : H1 p = some ⟨c, qs.map PtN.mk⟩
  ts : TrHs (hidH H1 p) (qs.map PtN.mk) done
  bt : BtOk (hidH H1 p) built B
  keep : ∀ b d, S.H b = some d → hidH H1 p b = some d
  pw : w.heap.size ≤ p
/-- what a structure is told of -/
def StPost (W0 w : World) (R fm bm : Nat) (S : TS) (kv : Nat → Value) (c : Cel) (r : List Tm × BL × List Ins × Bool) (e : Ending) (W' : World) : Prop :=
  ∃ (p : Nat) (built : Int → Option Nat) (H1 : Nat → Option NdS) (kv1 : Nat → Value), e = .returned (.pointer (some ⟨p, 0, none⟩)) ∧ Tr W0 w R fm bm S kv W' { S with rest := r.2.2.1, built := built, bad := r.2.2.2, H := H1 } kv1 ∧ w.heap.size ≤ p ∧ (∀ b d, S.H b = some d → H1 b = some d) ∧ TrH H1 p (.mk c r.1) ∧ BtOk H1 built r.2.1
theorem STGo.post {W0 w W : World} {R fm bm : Nat} {S : TS} {kv kv1 : Nat → Value} {p : Nat} {c : Cel} {done : List Tm} {B : BL} {rest : List Ins} {bad : Bool} {built : Int → Option Nat} {qs : List Nat} {H1 : Nat → Option NdS} (h : STGo W0 w R fm bm S kv p c done B rest bad built qs H1 kv1 W) : StPost W0 w R fm bm S kv c (done, B, rest, bad) (.returned (.pointer (some ⟨p, 0, none⟩))) W :=
  ⟨p, built, H1, kv1, rfl, h.tr, h.pw, fun b d hb => hidH_sub _ _ b d (h.keep b d hb), .mk h.at_ (h.ts.mono (hidH_sub _ _)), h.bt.mono (hidH_sub _ _)⟩
/-- the teller turned nodes other than this one -/
theorem STGo.turn {W0 w W W' : World} {R fm bm : Nat} {S : TS} {kv kv1 kv2 : Nat → Value} {p : Nat} {c : Cel} {done : List Tm} {B B' : BL} {rest rest' : List Ins} {bad bad' : Bool} {built built' : Int → Option Nat} {qs : List Nat} {H1 H2 : Nat → Option NdS} (h : STGo W0 w R fm bm S kv p c done B rest bad built qs H1 kv1 W)
    (ht : Tr W0 W R fm bm { S with rest := rest, built := built, bad := bad, H := H1 } kv1 W' { S with rest := rest', built := built', bad := bad', H := H2 } kv2) (hH : ∀ b d, H1 b = some d → H2 b = some d) (hb : BtOk (hidH H2 p) built' B') : STGo W0 w R fm bm S kv p c done B' rest' bad' built' qs H2 kv2 W' :=
  ⟨h.tr.trans ht, hH _ _ h.at_, h.ts.mono (hidH_up fun b d _ hd => hH b d hd), hb, fun b d hd => hidH_up (fun b d _ hd => hH b d hd) b d (h.keep b d hd), h.pw⟩
/-- a part more -/
theorem STGo.part {W0 w W W' : World} {R fm bm : Nat} {S : TS} {kv kv1 kv2 : Nat → Value} {p q : Nat} {c : Cel} {done : List Tm} {t : Tm} {B : BL} {rest : List Ins} {bad : Bool} {built : Int → Option Nat} {qs : List Nat} {H1 : Nat → Option NdS} (h : STGo W0 w R fm bm S kv p c done B rest bad built qs H1 kv1 W)
    (ht : Tr W0 W R fm bm { S with rest := rest, built := built, bad := bad, H := H1 } kv1 W' { S with rest := rest, built := built, bad := bad, H := updH H1 p ⟨c, qs.map PtN.mk ++ [⟨q⟩]⟩ } kv2) (hq : TrH (hidH H1 p) q t) : STGo W0 w R fm bm S kv p c (done ++ [t]) B rest bad built (qs ++ [q]) (updH H1 p ⟨c, qs.map PtN.mk ++ [⟨q⟩]⟩) kv2 W' := by
  have hu : ∀ b d, hidH H1 p b = some d → hidH (updH H1 p ⟨c, qs.map PtN.mk ++ [⟨q⟩]⟩) p b = some d := hidH_up fun b d hne hd => by rw [updH_ne _ hne]; exact hd
  refine ⟨h.tr.trans ht, by rw [updH_at, List.map_append]; rfl, ?_, h.bt.mono hu, fun b d hd => hu b d (h.keep b d hd), h.pw⟩
  rw [List.map_append]
  exact (h.ts.mono hu).append (.cons (hq.mono hu) .nil)
theorem updH_sub {H : Nat → Option NdS} {q : Nat} (d : NdS) (h : H q = none) : ∀ b x, H b = some x → updH H q d b = some x := fun b x hb => by
  rw [updH_ne _ (fun e => by rw [e, h] at hb; cases hb)]; exact hb
set_option maxRecDepth 100000 in
set_option maxHeartbeats 12800000 in
theorem structure_any (W0 w : World) (R fm bm : Nat) (S : TS) (kv : Nat → Value) (hT : TW W0 w R fm bm S kv) (put : Ins) (hfit : put.fit) (hbad : S.bad = false) (B : BL) (hB : BtOk S.H S.built B) :
    Calls Try.prog 156 #[.pointer (some ⟨R, 0, none⟩), put.v] w (StPost W0 w R fm bm S kv (funI put) (setsM put.n.toNat B S.rest)) := by
  obtain ⟨o1, o2, x1', x2', a1, a2, hsz, hn1, hn2⟩ := hfit
  obtain ⟨wb, hwb⟩ : ∃ X, (w.alloc (.cells #[.int .i64 put.op, .int .i64 put.x, .int .i64 put.a, .string put.s, .int .i64 put.n, .bool put.neg] 48)) = X := ⟨_, rfl⟩
  have hbx := (Below.refl w.heap.size w).new (.cells #[.int .i64 put.op, .int .i64 put.x, .int .i64 put.a, .string put.s, .int .i64 put.n, .bool put.neg] 48)
  have hbc : wb.cell? ⟨w.heap.size, 4, none⟩ = some (.int .i64 put.n) := by rw [← hwb]; exact World.cell?_alloc_at _ _ w.heap.size 4 rfl
  have hbs : wb.heap.size = w.heap.size + 1 := by rw [← hwb]; simp
  rw [hwb] at hbx
  have HT := mkHid (hT.below hbx)
  have HW0 := mkHid hT.B0
  have HBO : Hid (¬ Own R fm bm S kv w.heap.size) := fun e => by have := (hT.ownB _ e).2; omega
  have HSL : Hid (S.rest.length ≤ 100000) := by obtain ⟨n, hn, _⟩ := hT.bt; exact hn.2
  have HBAD := mkHid hbad
  have HB := mkHid hB
  have HCF : Hid ((funI put).fit) := ⟨by show _ ≤ (3 : Int); omega, by show (3 : Int) ≤ _; omega, hn1, hn2, hsz⟩
  have HTB : Hid (Tr W0 w R fm bm S kv wb S kv) := (Tr.refl hT).below hbx
  have POST : Hid (∀ e W', StPost W0 wb R fm bm S kv (funI put) (setsM put.n.toNat B S.rest) e W' → StPost W0 w R fm bm S kv (funI put) (setsM put.n.toNat B S.rest) e W') := by
    rintro e W' ⟨p, bt, H1, kv1, he, ht, hp, rest⟩
    exact ⟨p, bt, H1, kv1, he, HTB.out.trans ht, by omega, rest⟩
  have HWB := mkHid hwb
  have HBC := mkHid hbc
  have HBS := mkHid hbs
  have HPWB : Hid (w.heap.size < wb.heap.size) := by rw [Hid]; omega
  clear hT hbad hbx hB hwb hbc hbs
  go_enter Try.func156, Try.ntmps156
  dsimp only [Ins.v]
  go_wp2_with fail
  rw [HWB.out]
  refine (funC_any wb put).mono ?_
  rintro e w2 ⟨rfl, hb2⟩
  have HT2 := mkHid ((Tr.refl HT.out).below hb2)
  have HN2 := mkHid (Tr.newN HT2.out.tw (funI put) HCF.out)
  have h22 : wb.heap.size ≤ w2.heap.size := hb2.size
  have HNO : Hid (S.H w2.heap.size = none) := by
    cases h : S.H w2.heap.size with
    | none => rfl
    | some d => have := (HT2.out.tw.ownB w2.heap.size (.inr (.inr (.inr (.inl ⟨d, h⟩))))).2; omega
  have hG0 : STGo W0 wb R fm bm S kv w2.heap.size (funI put) [] B S.rest false S.built [] (updH S.H w2.heap.size ⟨funI put, []⟩) (updV kv w2.heap.size (.slice none 0 0)) (w2.alloc (.cells #[.int .i64 3, .string put.s, .int .i64 put.n, .slice none 0 0] 200)) := by
    have hk : ∀ b d, S.H b = some d → hidH (updH S.H w2.heap.size ⟨funI put, []⟩) w2.heap.size b = some d := fun b d hb => by
      have hne : b ≠ w2.heap.size := fun e => by rw [e, HNO.out] at hb; cases hb
      unfold hidH
      rw [if_neg hne, updH_ne _ hne]
      exact hb
    refine ⟨?_, updH_at _ _ _, .nil, HB.out.mono hk, hk, by omega⟩
    have h := HT2.out.trans HN2.out
    have e : ({ S with H := updH S.H w2.heap.size ⟨funI put, []⟩ } : TS) = { S with rest := S.rest, built := S.built, bad := false, H := updH S.H w2.heap.size ⟨funI put, []⟩ } := by rw [← HBAD.out]
    rw [← e]
    exact h
  have HG0 := mkHid hG0
  clear hb2 hG0 HNO HN2 HT2 h22 HTB HCF
  go_wp2_with fail
  obtain ⟨w3, hw3⟩ : ∃ X, (w2.alloc (.cells #[.int .i64 3, .string put.s, .int .i64 put.n, .slice none 0 0] 200)) = X := ⟨_, rfl⟩
  rw [hw3] at HG0 ⊢
  obtain ⟨p, hpp⟩ : ∃ x, w2.heap.size = x := ⟨_, rfl⟩
  rw [hpp] at HG0 ⊢
  clear hw3
  go_loopg [] (1 + put.n.toNat) (fun kk wr => ∃ (done : List Tm) (B1 : BL) (rest : List Ins) (bad : Bool) (built : Int → Option Nat) (qs : List Nat) (H1 : Nat → Option NdS) (kv1 : Nat → Value), Hid (STGo W0 wb R fm bm S kv p (funI put) done B1 rest bad built qs H1 kv1 wr) ∧ Hid (SEq put.n.toNat B S.rest done B1 rest bad) ∧ Hid (bad = false → kk = 1 + (put.n.toNat - done.length) ∧ done.length ≤ put.n.toNat ∧ done.length + rest.length ≤ S.rest.length))
  case atStart => exact ⟨[], B, S.rest, false, S.built, [], _, _, HG0, SEq.start _ _ _, fun _ => ⟨by simp, Nat.zero_le _, by simp⟩⟩
  case round =>
    clear HG0
    obtain ⟨done, B1, rest, bad, built, qs, H1, kv1, HG, HE, HK⟩ := hrel
    have HD := mkHid HG.out.at_
    have HQL : Hid (qs.length = done.length) := by have := HG.out.ts.length; rw [List.length_map] at this; exact this
    obtain ⟨ka, kc, hkv, hk1, hk2⟩ := HG.out.tr.tw.kid_lit HD.out
    rw [List.length_map] at hkv hk1
    obtain ⟨_, _, _, n3, _⟩ := HG.out.tr.tw.cN HD.out
    rw [hkv] at n3
    have HKV := mkHid hkv
    obtain ⟨_, _, _, _, _, r3, _, _⟩ := HG.out.tr.tw.cR
    dsimp only at r3
    have bx : wr.cell? ⟨w.heap.size, 4, none⟩ = some (.int .i64 put.n) := (World.cell?_of_block (w := wb) (a := ⟨w.heap.size, 4, none⟩) (HG.out.tr.fr.block w.heap.size (by have := HBS.out; omega) HBO.out)).trans HBC.out
    clear hkv
    have hbd : Below wr.heap.size wr wr.drew := (Below.refl _ _).drew
    have EXIT : Hid (bad = true ∨ ¬ (qs.length : Int) < put.n → StPost W0 w R fm bm S kv (funI put) (setsM put.n.toNat B S.rest) (.returned (.pointer (some ⟨p, 0, none⟩))) wr.drew) := fun hx => by
      have e := HE.out.ends (by
        rcases hx with e | e
        · exact .inl e
        · exact .inr (by have := HQL.out; omega))
      refine POST.out _ _ ?_
      rw [e]
      have hg : STGo W0 wb R fm bm S kv p (funI put) done B1 rest bad built qs H1 kv1 wr.drew := HG.out.turn ((Tr.refl HG.out.tr.tw).below hbd) (fun _ _ h => h) HG.out.bt
      exact hg.post
    by_cases hm : (qs.length : Int) < put.n
    · cases bad with
      | true =>
        have HP := mkHid (EXIT.out (.inl rfl))
        clear EXIT HK HE
        go_wp2_with fail
        refine wp_region_noPanic ?_
        refine wp_region_held_drew (S := fun X => X.cell? ⟨p, 3, none⟩ = some (.slice ka qs.length kc) ∧ X.cell? ⟨R, 3, none⟩ = some (.bool true) ∧ X.cell? ⟨w.heap.size, 4, none⟩ = some (.int .i64 put.n)) (by kernel_rfl) ⟨keep n3 hbd, keep r3 hbd, keep bx hbd⟩ (fun hSd => ?_)
        refine wpAnyH_take (i := 0) (oi := _) (v := ?_) rfl (by kernel_rfl) (by kernel_rfl) (by kernel_rfl) (fun _ _ _ h => h) (Or.inl ⟨by rfl, ?_⟩) (by assumption) ?_
        rotate_left
        · (intro w' hSw; obtain ⟨z0, z1, z2⟩ := hSw; go_simp; try with_reducible rfl)
        (try simp only [List.getElem_toArray, List.getElem_cons_succ, List.getElem_cons_zero, Act.put, List.setIfInBounds_toArray, List.set_cons_zero, List.set_cons_succ])
        refine wpAnyH_take (i := 1) (oi := _) (v := ?_) rfl (by kernel_rfl) (by kernel_rfl) (by kernel_rfl) (fun _ _ _ h => h) (Or.inl ⟨by rfl, ?_⟩) (by assumption) ?_
        rotate_left
        · (intro w' hSw; obtain ⟨z0, z1, z2⟩ := hSw; go_simp; try with_reducible rfl)
        (try simp only [List.getElem_toArray, List.getElem_cons_succ, List.getElem_cons_zero, Act.put, List.setIfInBounds_toArray, List.set_cons_zero, List.set_cons_succ])
        refine wpAnyH_take (i := 2) (oi := _) (v := ?_) rfl (by kernel_rfl) (by kernel_rfl) (by kernel_rfl) (fun _ _ _ h => h) (Or.inl ⟨by rfl, ?_⟩) (by assumption) ?_
        rotate_left
        · (intro w' hSw; obtain ⟨z0, z1, z2⟩ := hSw; go_simp; try with_reducible rfl)
        (try simp only [List.getElem_toArray, List.getElem_cons_succ, List.getElem_cons_zero, Act.put, List.setIfInBounds_toArray, List.set_cons_zero, List.set_cons_succ])
        refine wpAnyH_take (i := 3) (oi := _) (v := ?_) rfl (by kernel_rfl) (by kernel_rfl) (by kernel_rfl) (fun _ _ _ h => h) (Or.inl ⟨by rfl, ?_⟩) (by assumption) ?_
        rotate_left
        · (intro w' hSw; obtain ⟨z0, z1, z2⟩ := hSw; go_simp; try with_reducible rfl)
        (try simp only [List.getElem_toArray, List.getElem_cons_succ, List.getElem_cons_zero, Act.put, List.setIfInBounds_toArray, List.set_cons_zero, List.set_cons_succ])
        refine wpAnyH_take (i := 4) (oi := _) (v := ?_) rfl (by kernel_rfl) (by kernel_rfl) (by kernel_rfl) (fun _ _ _ h => h) (Or.inl ⟨by rfl, ?_⟩) (by assumption) ?_
        rotate_left
        · (intro w' hSw; obtain ⟨z0, z1, z2⟩ := hSw; go_simp; try with_reducible rfl)
        (try simp only [List.getElem_toArray, List.getElem_cons_succ, List.getElem_cons_zero, Act.put, List.setIfInBounds_toArray, List.set_cons_zero, List.set_cons_succ])
        refine wpAnyH_take (i := 5) (oi := _) (v := ?_) rfl (by kernel_rfl) (by kernel_rfl) (by kernel_rfl) (fun _ _ _ h => h) (Or.inl ⟨by rfl, ?_⟩) (by assumption) ?_
        rotate_left
        · (intro w' hSw; obtain ⟨z0, z1, z2⟩ := hSw; go_simp; try with_reducible rfl)
        (try simp only [List.getElem_toArray, List.getElem_cons_succ, List.getElem_cons_zero, Act.put, List.setIfInBounds_toArray, List.set_cons_zero, List.set_cons_succ])
        refine wpAnyH_take (i := 6) (oi := _) (v := ?_) rfl (by kernel_rfl) (by kernel_rfl) (by kernel_rfl) (fun _ _ _ h => h) (Or.inl ⟨by rfl, ?_⟩) (by assumption) ?_
        rotate_left
        · (intro w' hSw; obtain ⟨z0, z1, z2⟩ := hSw; go_simp; try with_reducible rfl)
        (try simp only [List.getElem_toArray, List.getElem_cons_succ, List.getElem_cons_zero, Act.put, List.setIfInBounds_toArray, List.set_cons_zero, List.set_cons_succ])
        refine wpAnyH_take (i := 7) (oi := _) (v := .bool true) rfl (by kernel_rfl) (by kernel_rfl) (by kernel_rfl) (fun _ _ _ h => h) (Or.inl ⟨by rfl, ?_⟩) (by assumption) ?_
        · (intro w' hSw; obtain ⟨z0, z1, z2⟩ := hSw; go_simp; try (first | with_reducible rfl | simp [hm]))
        (try simp only [List.getElem_toArray, List.getElem_cons_succ, List.getElem_cons_zero, Act.put, List.setIfInBounds_toArray, List.set_cons_zero, List.set_cons_succ])
        refine wpAnyH_take (i := 8) (oi := _) (v := .bool true) rfl (by kernel_rfl) (by kernel_rfl) (by kernel_rfl) (fun _ _ _ h => h) (Or.inl ⟨by rfl, ?_⟩) (by assumption) ?_
        · (intro w' hSw; obtain ⟨z0, z1, z2⟩ := hSw; go_simp; try (first | with_reducible rfl | simp [hm]))
        (try simp only [List.getElem_toArray, List.getElem_cons_succ, List.getElem_cons_zero, Act.put, List.setIfInBounds_toArray, List.set_cons_zero, List.set_cons_succ])
        refine wpAnyH_take (i := 9) (oi := _) (v := ?_) rfl (by kernel_rfl) (by kernel_rfl) (by kernel_rfl) (fun _ _ _ h => h) (Or.inl ⟨by rfl, ?_⟩) (by assumption) ?_
        rotate_left
        · (intro w' hSw; obtain ⟨z0, z1, z2⟩ := hSw; go_simp; try with_reducible rfl)
        (try simp only [List.getElem_toArray, List.getElem_cons_succ, List.getElem_cons_zero, Act.put, List.setIfInBounds_toArray, List.set_cons_zero, List.set_cons_succ])
        refine wpAnyH_take (i := 10) (oi := _) (v := ?_) rfl (by kernel_rfl) (by kernel_rfl) (by kernel_rfl) (fun _ _ _ h => h) (Or.inl ⟨by rfl, ?_⟩) (by assumption) ?_
        rotate_left
        · (intro w' hSw; obtain ⟨z0, z1, z2⟩ := hSw; go_simp; try with_reducible rfl)
        (try simp only [List.getElem_toArray, List.getElem_cons_succ, List.getElem_cons_zero, Act.put, List.setIfInBounds_toArray, List.set_cons_zero, List.set_cons_succ])
        refine wpAnyH_take (i := 11) (oi := _) (v := ?_) rfl (by kernel_rfl) (by kernel_rfl) (by kernel_rfl) (fun _ _ _ h => h) (Or.inl ⟨by rfl, ?_⟩) (by assumption) ?_
        rotate_left
        · (intro w' hSw; obtain ⟨z0, z1, z2⟩ := hSw; go_simp; try with_reducible rfl)
        (try simp only [List.getElem_toArray, List.getElem_cons_succ, List.getElem_cons_zero, Act.put, List.setIfInBounds_toArray, List.set_cons_zero, List.set_cons_succ])
        refine wpAnyH_take (i := 12) (oi := _) (v := ?_) rfl (by kernel_rfl) (by kernel_rfl) (by kernel_rfl) (fun _ _ _ h => h) (Or.inl ⟨by rfl, ?_⟩) (by assumption) ?_
        rotate_left
        · (intro w' hSw; obtain ⟨z0, z1, z2⟩ := hSw; go_simp; try with_reducible rfl)
        (try simp only [List.getElem_toArray, List.getElem_cons_succ, List.getElem_cons_zero, Act.put, List.setIfInBounds_toArray, List.set_cons_zero, List.set_cons_succ])
        refine wpAnyH_take (i := 13) (oi := _) (v := ?_) rfl (by kernel_rfl) (by kernel_rfl) (by kernel_rfl) (fun _ _ _ h => h) (Or.inl ⟨by rfl, ?_⟩) (by assumption) ?_
        rotate_left
        · (intro w' hSw; obtain ⟨z0, z1, z2⟩ := hSw; go_simp; try with_reducible rfl)
        (try simp only [List.getElem_toArray, List.getElem_cons_succ, List.getElem_cons_zero, Act.put, List.setIfInBounds_toArray, List.set_cons_zero, List.set_cons_succ])
        refine wpAnyH_take (i := 14) (oi := _) (v := ?_) rfl (by kernel_rfl) (by kernel_rfl) (by kernel_rfl) (fun _ _ _ h => h) (Or.inl ⟨by rfl, ?_⟩) (by assumption) ?_
        rotate_left
        · (intro w' hSw; obtain ⟨z0, z1, z2⟩ := hSw; go_simp; try with_reducible rfl)
        (try simp only [List.getElem_toArray, List.getElem_cons_succ, List.getElem_cons_zero, Act.put, List.setIfInBounds_toArray, List.set_cons_zero, List.set_cons_succ])
        refine wpAnyH_done (by kernel_rfl) (NoPanic.normal ?_) _
        go_wp2_with fail
        go_ret
        exact HP.out
      | false =>
        clear EXIT
        obtain ⟨hkk, hdm, hdr⟩ := HK.out rfl
        have hql := HQL.out
        have HES := mkHid (HE.out.step (by omega))
        have HKK : Hid (gk = 1 + (put.n.toNat - done.length) ∧ done.length ≤ put.n.toNat ∧ done.length + rest.length ≤ S.rest.length ∧ qs.length = done.length) := ⟨hkk, hdm, hdr, hql⟩
        have hql5 : qs.length ≤ 100000 := by have := HSL.out; omega
        clear hkk hdm hdr hql HK HE
        go_wp2_with fail
        refine wp_region_noPanic ?_
        refine wp_region_held_drew (S := fun X => X.cell? ⟨p, 3, none⟩ = some (.slice ka qs.length kc) ∧ X.cell? ⟨R, 3, none⟩ = some (.bool false) ∧ X.cell? ⟨w.heap.size, 4, none⟩ = some (.int .i64 put.n)) (by kernel_rfl) ⟨keep n3 hbd, keep r3 hbd, keep bx hbd⟩ (fun hSd => ?_)
        refine wpAnyH_take (i := 0) (oi := _) (v := ?_) rfl (by kernel_rfl) (by kernel_rfl) (by kernel_rfl) (fun _ _ _ h => h) (Or.inl ⟨by rfl, ?_⟩) (by assumption) ?_
        rotate_left
        · (intro w' hSw; obtain ⟨z0, z1, z2⟩ := hSw; go_simp; try with_reducible rfl)
        (try simp only [List.getElem_toArray, List.getElem_cons_succ, List.getElem_cons_zero, Act.put, List.setIfInBounds_toArray, List.set_cons_zero, List.set_cons_succ])
        refine wpAnyH_take (i := 1) (oi := _) (v := ?_) rfl (by kernel_rfl) (by kernel_rfl) (by kernel_rfl) (fun _ _ _ h => h) (Or.inl ⟨by rfl, ?_⟩) (by assumption) ?_
        rotate_left
        · (intro w' hSw; obtain ⟨z0, z1, z2⟩ := hSw; go_simp; try with_reducible rfl)
        (try simp only [List.getElem_toArray, List.getElem_cons_succ, List.getElem_cons_zero, Act.put, List.setIfInBounds_toArray, List.set_cons_zero, List.set_cons_succ])
        refine wpAnyH_take (i := 2) (oi := _) (v := ?_) rfl (by kernel_rfl) (by kernel_rfl) (by kernel_rfl) (fun _ _ _ h => h) (Or.inl ⟨by rfl, ?_⟩) (by assumption) ?_
        rotate_left
        · (intro w' hSw; obtain ⟨z0, z1, z2⟩ := hSw; go_simp; try with_reducible rfl)
        (try simp only [List.getElem_toArray, List.getElem_cons_succ, List.getElem_cons_zero, Act.put, List.setIfInBounds_toArray, List.set_cons_zero, List.set_cons_succ])
        refine wpAnyH_take (i := 3) (oi := _) (v := ?_) rfl (by kernel_rfl) (by kernel_rfl) (by kernel_rfl) (fun _ _ _ h => h) (Or.inl ⟨by rfl, ?_⟩) (by assumption) ?_
        rotate_left
        · (intro w' hSw; obtain ⟨z0, z1, z2⟩ := hSw; go_simp; try with_reducible rfl)
        (try simp only [List.getElem_toArray, List.getElem_cons_succ, List.getElem_cons_zero, Act.put, List.setIfInBounds_toArray, List.set_cons_zero, List.set_cons_succ])
        refine wpAnyH_take (i := 4) (oi := _) (v := ?_) rfl (by kernel_rfl) (by kernel_rfl) (by kernel_rfl) (fun _ _ _ h => h) (Or.inl ⟨by rfl, ?_⟩) (by assumption) ?_
        rotate_left
        · (intro w' hSw; obtain ⟨z0, z1, z2⟩ := hSw; go_simp; try with_reducible rfl)
        (try simp only [List.getElem_toArray, List.getElem_cons_succ, List.getElem_cons_zero, Act.put, List.setIfInBounds_toArray, List.set_cons_zero, List.set_cons_succ])
        refine wpAnyH_take (i := 5) (oi := _) (v := ?_) rfl (by kernel_rfl) (by kernel_rfl) (by kernel_rfl) (fun _ _ _ h => h) (Or.inl ⟨by rfl, ?_⟩) (by assumption) ?_
        rotate_left
        · (intro w' hSw; obtain ⟨z0, z1, z2⟩ := hSw; go_simp; try with_reducible rfl)
        (try simp only [List.getElem_toArray, List.getElem_cons_succ, List.getElem_cons_zero, Act.put, List.setIfInBounds_toArray, List.set_cons_zero, List.set_cons_succ])
        refine wpAnyH_take (i := 6) (oi := _) (v := ?_) rfl (by kernel_rfl) (by kernel_rfl) (by kernel_rfl) (fun _ _ _ h => h) (Or.inl ⟨by rfl, ?_⟩) (by assumption) ?_
        rotate_left
        · (intro w' hSw; obtain ⟨z0, z1, z2⟩ := hSw; go_simp; try with_reducible rfl)
        (try simp only [List.getElem_toArray, List.getElem_cons_succ, List.getElem_cons_zero, Act.put, List.setIfInBounds_toArray, List.set_cons_zero, List.set_cons_succ])
        refine wpAnyH_take (i := 7) (oi := _) (v := .bool true) rfl (by kernel_rfl) (by kernel_rfl) (by kernel_rfl) (fun _ _ _ h => h) (Or.inl ⟨by rfl, ?_⟩) (by assumption) ?_
        · (intro w' hSw; obtain ⟨z0, z1, z2⟩ := hSw; go_simp; try (first | with_reducible rfl | simp [hm]))
        (try simp only [List.getElem_toArray, List.getElem_cons_succ, List.getElem_cons_zero, Act.put, List.setIfInBounds_toArray, List.set_cons_zero, List.set_cons_succ])
        refine wpAnyH_take (i := 8) (oi := _) (v := .bool true) rfl (by kernel_rfl) (by kernel_rfl) (by kernel_rfl) (fun _ _ _ h => h) (Or.inl ⟨by rfl, ?_⟩) (by assumption) ?_
        · (intro w' hSw; obtain ⟨z0, z1, z2⟩ := hSw; go_simp; try (first | with_reducible rfl | simp [hm]))
        (try simp only [List.getElem_toArray, List.getElem_cons_succ, List.getElem_cons_zero, Act.put, List.setIfInBounds_toArray, List.set_cons_zero, List.set_cons_succ])
        refine wpAnyH_take (i := 9) (oi := _) (v := ?_) rfl (by kernel_rfl) (by kernel_rfl) (by kernel_rfl) (fun _ _ _ h => h) (Or.inl ⟨by rfl, ?_⟩) (by assumption) ?_
        rotate_left
        · (intro w' hSw; obtain ⟨z0, z1, z2⟩ := hSw; go_simp; try with_reducible rfl)
        (try simp only [List.getElem_toArray, List.getElem_cons_succ, List.getElem_cons_zero, Act.put, List.setIfInBounds_toArray, List.set_cons_zero, List.set_cons_succ])
        refine wpAnyH_take (i := 10) (oi := _) (v := ?_) rfl (by kernel_rfl) (by kernel_rfl) (by kernel_rfl) (fun _ _ _ h => h) (Or.inl ⟨by rfl, ?_⟩) (by assumption) ?_
        rotate_left
        · (intro w' hSw; obtain ⟨z0, z1, z2⟩ := hSw; go_simp; try with_reducible rfl)
        (try simp only [List.getElem_toArray, List.getElem_cons_succ, List.getElem_cons_zero, Act.put, List.setIfInBounds_toArray, List.set_cons_zero, List.set_cons_succ])
        refine wpAnyH_take (i := 11) (oi := _) (v := ?_) rfl (by kernel_rfl) (by kernel_rfl) (by kernel_rfl) (fun _ _ _ h => h) (Or.inl ⟨by rfl, ?_⟩) (by assumption) ?_
        rotate_left
        · (intro w' hSw; obtain ⟨z0, z1, z2⟩ := hSw; go_simp; try with_reducible rfl)
        (try simp only [List.getElem_toArray, List.getElem_cons_succ, List.getElem_cons_zero, Act.put, List.setIfInBounds_toArray, List.set_cons_zero, List.set_cons_succ])
        refine wpAnyH_take (i := 12) (oi := _) (v := ?_) rfl (by kernel_rfl) (by kernel_rfl) (by kernel_rfl) (fun _ _ _ h => h) (Or.inl ⟨by rfl, ?_⟩) (by assumption) ?_
        rotate_left
        · (intro w' hSw; obtain ⟨z0, z1, z2⟩ := hSw; go_simp; try with_reducible rfl)
        (try simp only [List.getElem_toArray, List.getElem_cons_succ, List.getElem_cons_zero, Act.put, List.setIfInBounds_toArray, List.set_cons_zero, List.set_cons_succ])
        refine wpAnyH_take (i := 13) (oi := _) (v := ?_) rfl (by kernel_rfl) (by kernel_rfl) (by kernel_rfl) (fun _ _ _ h => h) (Or.inl ⟨by rfl, ?_⟩) (by assumption) ?_
        rotate_left
        · (intro w' hSw; obtain ⟨z0, z1, z2⟩ := hSw; go_simp; try with_reducible rfl)
        (try simp only [List.getElem_toArray, List.getElem_cons_succ, List.getElem_cons_zero, Act.put, List.setIfInBounds_toArray, List.set_cons_zero, List.set_cons_succ])
        refine wpAnyH_take (i := 14) (oi := _) (v := ?_) rfl (by kernel_rfl) (by kernel_rfl) (by kernel_rfl) (fun _ _ _ h => h) (Or.inl ⟨by rfl, ?_⟩) (by assumption) ?_
        rotate_left
        · (intro w' hSw; obtain ⟨z0, z1, z2⟩ := hSw; go_simp; try with_reducible rfl)
        (try simp only [List.getElem_toArray, List.getElem_cons_succ, List.getElem_cons_zero, Act.put, List.setIfInBounds_toArray, List.set_cons_zero, List.set_cons_succ])
        refine wpAnyH_done (by kernel_rfl) (NoPanic.normal ?_) _
        have hGD : STGo W0 wb R fm bm S kv p (funI put) done B1 rest false built qs H1 kv1 wr.drew := HG.out.turn ((Tr.refl HG.out.tr.tw).below hbd) (fun _ _ h => h) HG.out.bt
        clear HG n3 r3 bx hbd hSd hk1 hk2
        obtain ⟨wd, hwd⟩ : ∃ X, wr.drew = X := ⟨_, rfl⟩
        rw [hwd] at hGD ⊢
        clear hwd
        have HG := mkHid hGD
        clear hGD
        have hpl : p < wd.heap.size := (HG.out.tr.tw.ownB p (.inr (.inr (.inr (.inl ⟨_, HD.out⟩))))).2
        have HQP : Hid (wd.heap.size ≠ p) := by rw [Hid]; omega
        have HNO : Hid (H1 wd.heap.size = none) := by
          cases h : H1 wd.heap.size with
          | none => rfl
          | some d => have := (HG.out.tr.tw.ownB wd.heap.size (.inr (.inr (.inr (.inl ⟨d, h⟩))))).2; omega
        clear hpl
        have HN1 := mkHid (Tr.newN HG.out.tr.tw zeroC ⟨by decide, by decide, by decide, by decide, by decide⟩)
        go_wp2_with fail
        have hift := nextI_fit HG.out.tr.tw
        have HIF := mkHid hift
        dsimp only at hift
        refine (next_any W0 _ R fm bm _ _ HN1.out.tw).mono ?_
        rintro e w4 ⟨rfl, kv4, hT4, hF4, hN4⟩
        have HT4 := mkHid (HN1.out.trans ⟨hT4, hF4, hN4⟩)
        clear hT4 hF4 hN4 HN1
        dsimp only
        have HNE : Hid ((nextI rest).op ≠ 0 → 1 ≤ rest.length) := by
          cases rest with
          | nil => intro h; exact absurd rfl h
          | cons a l => intro _; simp
        obtain ⟨i, hi⟩ : ∃ x, nextI rest = x := ⟨_, rfl⟩
        rw [hi] at HES HIF HNE ⊢
        clear hi hift
        obtain ⟨o1, o2, x1', x2', a1, a2, hsz, hn1, hn2⟩ := HIF.out
        have hb9 := (Below.refl w4.heap.size w4).new (.cells #[.int .i64 i.op, .int .i64 i.x, .int .i64 i.a, .string i.s, .int .i64 i.n, .bool i.neg] 48)
        have HT5 := mkHid (HT4.out.below hb9)
        clear hb9
        dsimp only [Ins.v]
        obtain ⟨io, ix, ia, is_, inn, ing⟩ := i
        dsimp only at o1 o2 x1' x2' a1 a2 hsz hn1 hn2 HES HT5 HNE ⊢
        have HUP : Hid (∀ c' b d, H1 b = some d → updH (updH H1 wd.heap.size ⟨zeroC, []⟩) wd.heap.size ⟨c', []⟩ b = some d) := fun c' b d hb => by
          have hne : b ≠ wd.heap.size := fun e => by rw [e, HNO.out] at hb; cases hb
          rw [updH_ne _ hne, updH_ne _ hne]; exact hb
        have HLF : Hid (∀ c', TrH (hidH (updH (updH H1 wd.heap.size ⟨zeroC, []⟩) wd.heap.size ⟨c', []⟩) p) wd.heap.size (.mk c' [])) := fun c' => .mk (by unfold hidH; rw [if_neg HQP.out, updH_at]) .nil
        by_cases h9 : io = 9
        · subst h9
          replace HES : Hid (SEq put.n.toNat B S.rest (done ++ [vT ix]) B1 rest.tail false) := by have h := HES.out; rw [Hid]; simpa [stepD, intI] using h
          go_wp2_with fail
          refine (varC_any _ ⟨9, ix, ia, is_, inn, ing⟩).mono ?_
          rintro e w5 ⟨rfl, hb5⟩
          have HT6 := mkHid (HT5.out.below hb5)
          obtain ⟨q0, q1, q2, _, qf⟩ := HT6.out.tw.cN (p := wd.heap.size) (updH_at _ _ _)
          have qf0 := qf 0
          have qf1 := qf 1
          have qf2 := qf 2
          have hcf : (⟨1, ⟨#[]⟩, ix⟩ : Cel).fit := celF (by omega) (by omega)
          have HT7 := mkHid (HT6.out.trans (Tr.of (HT6.out.tw.cellSet (p := wd.heap.size) (updH_at _ _ _) hcf)))
          clear hb5 qf hcf
          have hT7 := HT7.out
          try dsimp only at hT7
          have HT8 := mkHid hT7
          have hqp : ¬ wd.heap.size = p := HQP.out
          have hqp' : ¬ p = wd.heap.size := fun e => HQP.out e.symm
          have hfr8 : Fr [wd.heap.size] w5 (((w5.setCell ⟨wd.heap.size, 0, none⟩ (.int .i64 1)).setCell ⟨wd.heap.size, 1, none⟩ (.string ⟨#[]⟩)).setCell ⟨wd.heap.size, 2, none⟩ (.int .i64 ix)) := (((Fr.refl _ _).set (by simp) _).set (by simp) _).set (by simp) _
          have hpb := hfr8.block p (HT6.out.tw.ownB p (.inr (.inr (.inr (.inl ⟨_, (updH_sub _ HNO.out) p _ HD.out⟩))))).2 (by simp; exact hqp')
          clear hT7 HT7 hfr8 HT6
          have HS8 := mkHid (HG.out.turn (B' := B1) HT8.out (HUP.out _) (HG.out.bt.mono (hidH_up fun b d _ hb => HUP.out _ b d hb)))
          have HQ8 := mkHid (HLF.out ⟨1, ⟨#[]⟩, ix⟩)
          have HD8 := mkHid HS8.out.at_
          obtain ⟨ka8, kc8, hkv8, hk81, hk82⟩ := HS8.out.tr.tw.kid_lit HD8.out
          rw [List.length_map] at hkv8 hk81
          obtain ⟨_, _, _, n37, nf8⟩ := HS8.out.tr.tw.cN HD8.out
          rw [hkv8] at n37
          have n38 : (w5).cell? ⟨p, 3, none⟩ = some (.slice ka8 qs.length kc8) := (World.cell?_of_block (a := ⟨p, 3, none⟩) hpb).symm.trans n37
          have f38 : (w5).frozen? ⟨p, 3, none⟩ = false := (World.frozen?_of_block (a := ⟨p, 3, none⟩) hpb).symm.trans (nf8 3)
          have ha8 := (HS8.out.tr.tw.nd p _ HD8.out).2.2.2
          rw [hkv8] at ha8
          have HA8 := mkHid ha8
          have HKV8 := mkHid hkv8
          have HB8 := mkHid HS8.out.tr.tw.B0
          clear hkv8 nf8 ha8 n37 hpb
          go_wp2_with (at_builtin; go_loud (refine wpList_accN (α := PtN) rfl _ _ 198 rfl W0.heap.size 196 8 _ Try.underlying198 Try.infoPtN rfl (by decide) _ (qs.map PtN.mk) HA8.out (by rfl) _ #[.pointer (some ⟨wd.heap.size, 0, none⟩)] ⟨wd.heap.size⟩ rfl (by first | rfl | (simp only [World.size_setCell]; rfl) | (simp; rfl)) (by rw [List.length_map]; omega) HB8.out ?_; intro v' w3' ha3 hg3 hw3; obtain ⟨a3, n9, c3, rfl⟩ := slice_ofN ha3; obtain ⟨hT3, x3, y3⟩ := Tr.push HS8.out.tr.tw (p := p) (d := ⟨funI put, qs.map PtN.mk⟩) HD8.out HKV8.out ha3 hg3 hw3; have HS9 := mkHid (HS8.out.part (q := wd.heap.size) hT3 HQ8.out); clear ha3 hg3 hw3 hT3))
          go_wp2_with fail
          go_roundg (1 + (put.n.toNat - (done.length + 1)))
          case rel => exact ⟨_, _, _, _, _, _, _, _, HS9, HES, fun _ => ⟨by simp, by simp only [List.length_append, List.length_cons, List.length_nil]; have := HKK.out; omega, by simp only [List.length_append, List.length_cons, List.length_nil, List.length_tail]; have := HKK.out; have := HNE.out (by decide); omega⟩⟩
          case measure => have := HKK.out; omega
        · by_cases h10 : io = 10
          · subst h10
            go_wp2_with fail
            refine (taken_any W0 _ R fm bm _ _ HT5.out.tw ix x1' x2').mono ?_
            rintro e w6 ⟨rfl, hT6⟩
            have hbox := hT6.fr.block w4.heap.size (by simp) (fun e => by have := (HT4.out.tw.ownB _ (show Own R fm bm _ _ w4.heap.size from e)).2; omega)
            rw [heap_alloc_new] at hbox
            have HT6' := mkHid (HT5.out.trans hT6)
            clear hT6
            have HBX6 := mkHid hbox
            clear hbox
            dsimp only
            cases hbi : built ix with
            | some p' =>
              dsimp only [ptO, Option.isSome]
              have hbt := HG.out.bt ix
              rw [hbi] at hbt
              obtain ⟨p1, t1, e1, e2, e3⟩ : ∃ p1 t1, some p' = some p1 ∧ getB B1 ix = some t1 ∧ TrH (hidH H1 p) p1 t1 := by
                rcases hbt with ⟨e, _⟩ | h
                · cases e
                · exact h
              cases e1
              replace HES : Hid (SEq put.n.toNat B S.rest (done ++ [t1]) (dropB B1 ix) rest.tail false) := by have h := HES.out; rw [Hid]; simpa [stepD, e2] using h
              have HUP2 : Hid (∀ b d, H1 b = some d → updH H1 wd.heap.size ⟨zeroC, []⟩ b = some d) := updH_sub _ HNO.out
              obtain ⟨w7, hW7⟩ : ∃ V, w6 = V := ⟨_, rfl⟩
              rw [hW7] at HT6' ⊢
              clear hW7 hbt HBX6
              have hpb : w7.heap[p]? = w7.heap[p]? := rfl
              have HS8 := mkHid (HG.out.turn (B' := dropB B1 ix) HT6'.out HUP2.out ((HG.out.bt.drop ix).mono (hidH_up fun b d _ hb => HUP2.out b d hb)))
              have HQ8 := mkHid (e3.mono (hidH_up fun b d _ hb => HUP2.out b d hb))
              clear e3
              have HD8 := mkHid HS8.out.at_
              obtain ⟨ka8, kc8, hkv8, hk81, hk82⟩ := HS8.out.tr.tw.kid_lit HD8.out
              rw [List.length_map] at hkv8 hk81
              obtain ⟨_, _, _, n37, nf8⟩ := HS8.out.tr.tw.cN HD8.out
              rw [hkv8] at n37
              have n38 : (w7).cell? ⟨p, 3, none⟩ = some (.slice ka8 qs.length kc8) := (World.cell?_of_block (a := ⟨p, 3, none⟩) hpb).symm.trans n37
              have f38 : (w7).frozen? ⟨p, 3, none⟩ = false := (World.frozen?_of_block (a := ⟨p, 3, none⟩) hpb).symm.trans (nf8 3)
              have ha8 := (HS8.out.tr.tw.nd p _ HD8.out).2.2.2
              rw [hkv8] at ha8
              have HA8 := mkHid ha8
              have HKV8 := mkHid hkv8
              have HB8 := mkHid HS8.out.tr.tw.B0
              clear hkv8 nf8 ha8 n37 hpb
              go_wp2_with (at_builtin; go_loud (refine wpList_accN (α := PtN) rfl _ _ 198 rfl W0.heap.size 196 8 _ Try.underlying198 Try.infoPtN rfl (by decide) _ (qs.map PtN.mk) HA8.out (by rfl) _ #[.pointer (some ⟨p', 0, none⟩)] ⟨p'⟩ rfl (by first | rfl | (simp only [World.size_setCell]; rfl) | (simp; rfl)) (by rw [List.length_map]; omega) HB8.out ?_; intro v' w3' ha3 hg3 hw3; obtain ⟨a3, n9, c3, rfl⟩ := slice_ofN ha3; obtain ⟨hT3, x3, y3⟩ := Tr.push HS8.out.tr.tw (p := p) (d := ⟨funI put, qs.map PtN.mk⟩) HD8.out HKV8.out ha3 hg3 hw3; have HS9 := mkHid (HS8.out.part (q := p') hT3 HQ8.out); clear ha3 hg3 hw3 hT3))
              go_wp2_with fail
              go_roundg (1 + (put.n.toNat - (done.length + 1)))
              case rel => exact ⟨_, _, _, _, _, _, _, _, HS9, HES, fun _ => ⟨by simp, by simp only [List.length_append, List.length_cons, List.length_nil]; have := HKK.out; omega, by simp only [List.length_append, List.length_cons, List.length_nil, List.length_tail]; have := HKK.out; have := HNE.out (by decide); omega⟩⟩
              case measure => have := HKK.out; omega
            | none =>
              dsimp only [ptO, Option.isSome]
              have hbt := HG.out.bt ix
              rw [hbi] at hbt
              have e2 : getB B1 ix = none := by
                rcases hbt with ⟨_, e⟩ | ⟨_, _, e, _⟩
                · exact e
                · cases e
              replace HES : Hid (SEq put.n.toNat B S.rest (done ++ [vT ix]) (dropB B1 ix) rest.tail false) := by have h := HES.out; rw [Hid]; simpa [stepD, e2] using h
              have b0 : w6.cell? ⟨w4.heap.size, 0, none⟩ = some (.int .i64 10) := by rw [cell_of_row w6 _ 0 _ _ _ HBX6.out]; rfl
              have b1 : w6.cell? ⟨w4.heap.size, 1, none⟩ = some (.int .i64 ix) := by rw [cell_of_row w6 _ 1 _ _ _ HBX6.out]; rfl
              have b2 : w6.cell? ⟨w4.heap.size, 2, none⟩ = some (.int .i64 ia) := by rw [cell_of_row w6 _ 2 _ _ _ HBX6.out]; rfl
              have b3 : w6.cell? ⟨w4.heap.size, 3, none⟩ = some (.string is_) := by rw [cell_of_row w6 _ 3 _ _ _ HBX6.out]; rfl
              have b4 : w6.cell? ⟨w4.heap.size, 4, none⟩ = some (.int .i64 inn) := by rw [cell_of_row w6 _ 4 _ _ _ HBX6.out]; rfl
              have b5 : w6.cell? ⟨w4.heap.size, 5, none⟩ = some (.bool ing) := by rw [cell_of_row w6 _ 5 _ _ _ HBX6.out]; rfl
              clear hbt HBX6
              go_wp2_with fail
              refine (varC_any _ ⟨10, ix, ia, is_, inn, ing⟩).mono ?_
              rintro e w5 ⟨rfl, hb5⟩
              have HT6 := mkHid (HT6'.out.below hb5)
              obtain ⟨q0, q1, q2, _, qf⟩ := HT6.out.tw.cN (p := wd.heap.size) (updH_at _ _ _)
              have qf0 := qf 0
              have qf1 := qf 1
              have qf2 := qf 2
              have hcf : (⟨1, ⟨#[]⟩, ix⟩ : Cel).fit := celF (by omega) (by omega)
              have HT7 := mkHid (HT6.out.trans (Tr.of (HT6.out.tw.cellSet (p := wd.heap.size) (updH_at _ _ _) hcf)))
              clear hb5 qf hcf
              have hT7 := HT7.out
              try dsimp only at hT7
              have HT8 := mkHid hT7
              have hqp : ¬ wd.heap.size = p := HQP.out
              have hqp' : ¬ p = wd.heap.size := fun e => HQP.out e.symm
              have hfr8 : Fr [wd.heap.size] w5 (((w5.setCell ⟨wd.heap.size, 0, none⟩ (.int .i64 1)).setCell ⟨wd.heap.size, 1, none⟩ (.string ⟨#[]⟩)).setCell ⟨wd.heap.size, 2, none⟩ (.int .i64 ix)) := (((Fr.refl _ _).set (by simp) _).set (by simp) _).set (by simp) _
              have hpb := hfr8.block p (HT6.out.tw.ownB p (.inr (.inr (.inr (.inl ⟨_, (updH_sub _ HNO.out) p _ HD.out⟩))))).2 (by simp; exact hqp')
              clear hT7 HT7 hfr8 HT6
              clear b0 b1 b2 b3 b4 b5
              have HS8 := mkHid (HG.out.turn (B' := dropB B1 ix) HT8.out (HUP.out _) ((HG.out.bt.drop ix).mono (hidH_up fun b d _ hb => HUP.out _ b d hb)))
              have HQ8 := mkHid (HLF.out ⟨1, ⟨#[]⟩, ix⟩)
              have HD8 := mkHid HS8.out.at_
              obtain ⟨ka8, kc8, hkv8, hk81, hk82⟩ := HS8.out.tr.tw.kid_lit HD8.out
              rw [List.length_map] at hkv8 hk81
              obtain ⟨_, _, _, n37, nf8⟩ := HS8.out.tr.tw.cN HD8.out
              rw [hkv8] at n37
              have n38 : (w5).cell? ⟨p, 3, none⟩ = some (.slice ka8 qs.length kc8) := (World.cell?_of_block (a := ⟨p, 3, none⟩) hpb).symm.trans n37
              have f38 : (w5).frozen? ⟨p, 3, none⟩ = false := (World.frozen?_of_block (a := ⟨p, 3, none⟩) hpb).symm.trans (nf8 3)
              have ha8 := (HS8.out.tr.tw.nd p _ HD8.out).2.2.2
              rw [hkv8] at ha8
              have HA8 := mkHid ha8
              have HKV8 := mkHid hkv8
              have HB8 := mkHid HS8.out.tr.tw.B0
              clear hkv8 nf8 ha8 n37 hpb
              go_wp2_with (at_builtin; go_loud (refine wpList_accN (α := PtN) rfl _ _ 198 rfl W0.heap.size 196 8 _ Try.underlying198 Try.infoPtN rfl (by decide) _ (qs.map PtN.mk) HA8.out (by rfl) _ #[.pointer (some ⟨wd.heap.size, 0, none⟩)] ⟨wd.heap.size⟩ rfl (by first | rfl | (simp only [World.size_setCell]; rfl) | (simp; rfl)) (by rw [List.length_map]; omega) HB8.out ?_; intro v' w3' ha3 hg3 hw3; obtain ⟨a3, n9, c3, rfl⟩ := slice_ofN ha3; obtain ⟨hT3, x3, y3⟩ := Tr.push HS8.out.tr.tw (p := p) (d := ⟨funI put, qs.map PtN.mk⟩) HD8.out HKV8.out ha3 hg3 hw3; have HS9 := mkHid (HS8.out.part (q := wd.heap.size) hT3 HQ8.out); clear ha3 hg3 hw3 hT3))
              go_wp2_with fail
              go_roundg (1 + (put.n.toNat - (done.length + 1)))
              case rel => exact ⟨_, _, _, _, _, _, _, _, HS9, HES, fun _ => ⟨by simp, by simp only [List.length_append, List.length_cons, List.length_nil]; have := HKK.out; omega, by simp only [List.length_append, List.length_cons, List.length_nil, List.length_tail]; have := HKK.out; have := HNE.out (by decide); omega⟩⟩
              case measure => have := HKK.out; omega
          · by_cases h11 : io = 11
            · subst h11
              replace HES : Hid (SEq put.n.toNat B S.rest (done ++ [.mk ⟨2, ⟨#[]⟩, inn⟩ []]) B1 rest.tail false) := by have h := HES.out; rw [Hid]; simpa [stepD, intI] using h
              go_wp2_with fail
              refine (intC_any _ ⟨11, ix, ia, is_, inn, ing⟩).mono ?_
              rintro e w5 ⟨rfl, hb5⟩
              have HT6 := mkHid (HT5.out.below hb5)
              obtain ⟨q0, q1, q2, _, qf⟩ := HT6.out.tw.cN (p := wd.heap.size) (updH_at _ _ _)
              have qf0 := qf 0
              have qf1 := qf 1
              have qf2 := qf 2
              have hcf : (⟨2, ⟨#[]⟩, inn⟩ : Cel).fit := celF (by omega) (by omega)
              have HT7 := mkHid (HT6.out.trans (Tr.of (HT6.out.tw.cellSet (p := wd.heap.size) (updH_at _ _ _) hcf)))
              clear hb5 qf hcf
              have hT7 := HT7.out
              try dsimp only at hT7
              have HT8 := mkHid hT7
              have hqp : ¬ wd.heap.size = p := HQP.out
              have hqp' : ¬ p = wd.heap.size := fun e => HQP.out e.symm
              have hfr8 : Fr [wd.heap.size] w5 (((w5.setCell ⟨wd.heap.size, 0, none⟩ (.int .i64 2)).setCell ⟨wd.heap.size, 1, none⟩ (.string ⟨#[]⟩)).setCell ⟨wd.heap.size, 2, none⟩ (.int .i64 inn)) := (((Fr.refl _ _).set (by simp) _).set (by simp) _).set (by simp) _
              have hpb := hfr8.block p (HT6.out.tw.ownB p (.inr (.inr (.inr (.inl ⟨_, (updH_sub _ HNO.out) p _ HD.out⟩))))).2 (by simp; exact hqp')
              clear hT7 HT7 hfr8 HT6
              have HS8 := mkHid (HG.out.turn (B' := B1) HT8.out (HUP.out _) (HG.out.bt.mono (hidH_up fun b d _ hb => HUP.out _ b d hb)))
              have HQ8 := mkHid (HLF.out ⟨2, ⟨#[]⟩, inn⟩)
              have HD8 := mkHid HS8.out.at_
              obtain ⟨ka8, kc8, hkv8, hk81, hk82⟩ := HS8.out.tr.tw.kid_lit HD8.out
              rw [List.length_map] at hkv8 hk81
              obtain ⟨_, _, _, n37, nf8⟩ := HS8.out.tr.tw.cN HD8.out
              rw [hkv8] at n37
              have n38 : (w5).cell? ⟨p, 3, none⟩ = some (.slice ka8 qs.length kc8) := (World.cell?_of_block (a := ⟨p, 3, none⟩) hpb).symm.trans n37
              have f38 : (w5).frozen? ⟨p, 3, none⟩ = false := (World.frozen?_of_block (a := ⟨p, 3, none⟩) hpb).symm.trans (nf8 3)
              have ha8 := (HS8.out.tr.tw.nd p _ HD8.out).2.2.2
              rw [hkv8] at ha8
              have HA8 := mkHid ha8
              have HKV8 := mkHid hkv8
              have HB8 := mkHid HS8.out.tr.tw.B0
              clear hkv8 nf8 ha8 n37 hpb
              go_wp2_with (at_builtin; go_loud (refine wpList_accN (α := PtN) rfl _ _ 198 rfl W0.heap.size 196 8 _ Try.underlying198 Try.infoPtN rfl (by decide) _ (qs.map PtN.mk) HA8.out (by rfl) _ #[.pointer (some ⟨wd.heap.size, 0, none⟩)] ⟨wd.heap.size⟩ rfl (by first | rfl | (simp only [World.size_setCell]; rfl) | (simp; rfl)) (by rw [List.length_map]; omega) HB8.out ?_; intro v' w3' ha3 hg3 hw3; obtain ⟨a3, n9, c3, rfl⟩ := slice_ofN ha3; obtain ⟨hT3, x3, y3⟩ := Tr.push HS8.out.tr.tw (p := p) (d := ⟨funI put, qs.map PtN.mk⟩) HD8.out HKV8.out ha3 hg3 hw3; have HS9 := mkHid (HS8.out.part (q := wd.heap.size) hT3 HQ8.out); clear ha3 hg3 hw3 hT3))
              go_wp2_with fail
              go_roundg (1 + (put.n.toNat - (done.length + 1)))
              case rel => exact ⟨_, _, _, _, _, _, _, _, HS9, HES, fun _ => ⟨by simp, by simp only [List.length_append, List.length_cons, List.length_nil]; have := HKK.out; omega, by simp only [List.length_append, List.length_cons, List.length_nil, List.length_tail]; have := HKK.out; have := HNE.out (by decide); omega⟩⟩
              case measure => have := HKK.out; omega
            · replace HES : Hid (SEq put.n.toNat B S.rest (done ++ [.mk zeroC []]) B1 rest.tail true) := by have h := HES.out; rw [Hid]; simpa [stepD, h9, h10, h11] using h
              have t9 : (io == 9) = false := by simp [h9]
              have t10 : (io == 10) = false := by simp [h10]
              have t11 : (io == 11) = false := by simp [h11]
              obtain ⟨_, _, _, _, _, t3, tf, _⟩ := HT5.out.tw.cR
              have tf3 := tf 3
              have HT7 := mkHid (HT5.out.trans (Tr.of HT5.out.tw.setBad))
              have HUP2 : Hid (∀ b d, H1 b = some d → updH H1 wd.heap.size ⟨zeroC, []⟩ b = some d) := updH_sub _ HNO.out
              have hT7 := HT7.out
              try dsimp only at hT7
              have HT8 := mkHid hT7
              have hRp : ¬ R = p := fun e => HT5.out.tw.R_nd (p := p) ((updH_sub _ HNO.out) p _ HD.out) e.symm
              have hRp' : ¬ p = R := fun e => hRp e.symm
              have hpb : ((w4.alloc (.cells #[.int .i64 io, .int .i64 ix, .int .i64 ia, .string is_, .int .i64 inn, .bool ing] 48)).setCell ⟨R, 3, none⟩ (.bool true)).heap[p]? = (w4.alloc (.cells #[.int .i64 io, .int .i64 ix, .int .i64 ia, .string is_, .int .i64 inn, .bool ing] 48)).heap[p]? := Below.heap_setCell _ _ _ _ hRp'
              clear h9 h10 h11 tf hT7 HT7
              have HS8 := mkHid (HG.out.turn (B' := B1) HT8.out HUP2.out (HG.out.bt.mono (hidH_up fun b d _ hb => HUP2.out b d hb)))
              have HQ8 : Hid (TrH (hidH (updH H1 wd.heap.size ⟨zeroC, []⟩) p) wd.heap.size (.mk zeroC [])) := TrH.mk (by unfold hidH; rw [if_neg HQP.out, updH_at]) .nil
              have HD8 := mkHid HS8.out.at_
              obtain ⟨ka8, kc8, hkv8, hk81, hk82⟩ := HS8.out.tr.tw.kid_lit HD8.out
              rw [List.length_map] at hkv8 hk81
              obtain ⟨_, _, _, n37, nf8⟩ := HS8.out.tr.tw.cN HD8.out
              rw [hkv8] at n37
              have n38 : ((w4.alloc (.cells #[.int .i64 io, .int .i64 ix, .int .i64 ia, .string is_, .int .i64 inn, .bool ing] 48))).cell? ⟨p, 3, none⟩ = some (.slice ka8 qs.length kc8) := (World.cell?_of_block (a := ⟨p, 3, none⟩) hpb).symm.trans n37
              have f38 : ((w4.alloc (.cells #[.int .i64 io, .int .i64 ix, .int .i64 ia, .string is_, .int .i64 inn, .bool ing] 48))).frozen? ⟨p, 3, none⟩ = false := (World.frozen?_of_block (a := ⟨p, 3, none⟩) hpb).symm.trans (nf8 3)
              have ha8 := (HS8.out.tr.tw.nd p _ HD8.out).2.2.2
              rw [hkv8] at ha8
              have HA8 := mkHid ha8
              have HKV8 := mkHid hkv8
              have HB8 := mkHid HS8.out.tr.tw.B0
              clear hkv8 nf8 ha8 n37 hpb
              go_wp2_with (at_builtin; go_loud (refine wpList_accN (α := PtN) rfl _ _ 198 rfl W0.heap.size 196 8 _ Try.underlying198 Try.infoPtN rfl (by decide) _ (qs.map PtN.mk) HA8.out (by rfl) _ #[.pointer (some ⟨wd.heap.size, 0, none⟩)] ⟨wd.heap.size⟩ rfl (by first | rfl | (simp only [World.size_setCell]; rfl) | (simp; rfl)) (by rw [List.length_map]; omega) HB8.out ?_; intro v' w3' ha3 hg3 hw3; obtain ⟨a3, n9, c3, rfl⟩ := slice_ofN ha3; obtain ⟨hT3, x3, y3⟩ := Tr.push HS8.out.tr.tw (p := p) (d := ⟨funI put, qs.map PtN.mk⟩) HD8.out HKV8.out ha3 hg3 hw3; have HS9 := mkHid (HS8.out.part (q := wd.heap.size) hT3 HQ8.out); clear ha3 hg3 hw3 hT3))
              go_wp2_with fail
              go_roundg 0
              case rel => exact ⟨_, _, _, _, _, _, _, _, HS9, HES, fun h => (by cases h)⟩
              case measure => have := HKK.out; omega
    · have HP := mkHid (EXIT.out (.inr hm))
      clear EXIT HK HE
      go_wp2_with fail
      refine wp_region_noPanic ?_
      refine wp_region_held_drew (S := fun X => X.cell? ⟨p, 3, none⟩ = some (.slice ka qs.length kc) ∧ X.cell? ⟨R, 3, none⟩ = some (.bool bad) ∧ X.cell? ⟨w.heap.size, 4, none⟩ = some (.int .i64 put.n)) (by kernel_rfl) ⟨keep n3 hbd, keep r3 hbd, keep bx hbd⟩ (fun hSd => ?_)
      refine wpAnyH_take (i := 0) (oi := _) (v := ?_) rfl (by kernel_rfl) (by kernel_rfl) (by kernel_rfl) (fun _ _ _ h => h) (Or.inl ⟨by rfl, ?_⟩) (by assumption) ?_
      rotate_left
      · (intro w' hSw; obtain ⟨z0, z1, z2⟩ := hSw; go_simp; try with_reducible rfl)
      (try simp only [List.getElem_toArray, List.getElem_cons_succ, List.getElem_cons_zero, Act.put, List.setIfInBounds_toArray, List.set_cons_zero, List.set_cons_succ])
      refine wpAnyH_take (i := 1) (oi := _) (v := ?_) rfl (by kernel_rfl) (by kernel_rfl) (by kernel_rfl) (fun _ _ _ h => h) (Or.inl ⟨by rfl, ?_⟩) (by assumption) ?_
      rotate_left
      · (intro w' hSw; obtain ⟨z0, z1, z2⟩ := hSw; go_simp; try with_reducible rfl)
      (try simp only [List.getElem_toArray, List.getElem_cons_succ, List.getElem_cons_zero, Act.put, List.setIfInBounds_toArray, List.set_cons_zero, List.set_cons_succ])
      refine wpAnyH_take (i := 2) (oi := _) (v := ?_) rfl (by kernel_rfl) (by kernel_rfl) (by kernel_rfl) (fun _ _ _ h => h) (Or.inl ⟨by rfl, ?_⟩) (by assumption) ?_
      rotate_left
      · (intro w' hSw; obtain ⟨z0, z1, z2⟩ := hSw; go_simp; try with_reducible rfl)
      (try simp only [List.getElem_toArray, List.getElem_cons_succ, List.getElem_cons_zero, Act.put, List.setIfInBounds_toArray, List.set_cons_zero, List.set_cons_succ])
      refine wpAnyH_take (i := 3) (oi := _) (v := ?_) rfl (by kernel_rfl) (by kernel_rfl) (by kernel_rfl) (fun _ _ _ h => h) (Or.inl ⟨by rfl, ?_⟩) (by assumption) ?_
      rotate_left
      · (intro w' hSw; obtain ⟨z0, z1, z2⟩ := hSw; go_simp; try with_reducible rfl)
      (try simp only [List.getElem_toArray, List.getElem_cons_succ, List.getElem_cons_zero, Act.put, List.setIfInBounds_toArray, List.set_cons_zero, List.set_cons_succ])
      refine wpAnyH_take (i := 4) (oi := _) (v := ?_) rfl (by kernel_rfl) (by kernel_rfl) (by kernel_rfl) (fun _ _ _ h => h) (Or.inl ⟨by rfl, ?_⟩) (by assumption) ?_
      rotate_left
      · (intro w' hSw; obtain ⟨z0, z1, z2⟩ := hSw; go_simp; try with_reducible rfl)
      (try simp only [List.getElem_toArray, List.getElem_cons_succ, List.getElem_cons_zero, Act.put, List.setIfInBounds_toArray, List.set_cons_zero, List.set_cons_succ])
      refine wpAnyH_take (i := 5) (oi := _) (v := ?_) rfl (by kernel_rfl) (by kernel_rfl) (by kernel_rfl) (fun _ _ _ h => h) (Or.inl ⟨by rfl, ?_⟩) (by assumption) ?_
      rotate_left
      · (intro w' hSw; obtain ⟨z0, z1, z2⟩ := hSw; go_simp; try with_reducible rfl)
      (try simp only [List.getElem_toArray, List.getElem_cons_succ, List.getElem_cons_zero, Act.put, List.setIfInBounds_toArray, List.set_cons_zero, List.set_cons_succ])
      refine wpAnyH_take (i := 6) (oi := _) (v := ?_) rfl (by kernel_rfl) (by kernel_rfl) (by kernel_rfl) (fun _ _ _ h => h) (Or.inl ⟨by rfl, ?_⟩) (by assumption) ?_
      rotate_left
      · (intro w' hSw; obtain ⟨z0, z1, z2⟩ := hSw; go_simp; try with_reducible rfl)
      (try simp only [List.getElem_toArray, List.getElem_cons_succ, List.getElem_cons_zero, Act.put, List.setIfInBounds_toArray, List.set_cons_zero, List.set_cons_succ])
      refine wpAnyH_take (i := 7) (oi := _) (v := .bool false) rfl (by kernel_rfl) (by kernel_rfl) (by kernel_rfl) (fun _ _ _ h => h) (Or.inl ⟨by rfl, ?_⟩) (by assumption) ?_
      · (intro w' hSw; obtain ⟨z0, z1, z2⟩ := hSw; go_simp; try (first | with_reducible rfl | simp [hm]))
      (try simp only [List.getElem_toArray, List.getElem_cons_succ, List.getElem_cons_zero, Act.put, List.setIfInBounds_toArray, List.set_cons_zero, List.set_cons_succ])
      refine wpAnyH_take (i := 8) (oi := _) (v := .bool false) rfl (by kernel_rfl) (by kernel_rfl) (by kernel_rfl) (fun _ _ _ h => h) (Or.inl ⟨by rfl, ?_⟩) (by assumption) ?_
      · (intro w' hSw; obtain ⟨z0, z1, z2⟩ := hSw; go_simp; try (first | with_reducible rfl | simp [hm]))
      (try simp only [List.getElem_toArray, List.getElem_cons_succ, List.getElem_cons_zero, Act.put, List.setIfInBounds_toArray, List.set_cons_zero, List.set_cons_succ])
      refine wpAnyH_take (i := 9) (oi := _) (v := undef) rfl (by kernel_rfl) (by kernel_rfl) (by kernel_rfl) (fun _ _ _ h => h) (Or.inr ⟨by kernel_rfl, rfl⟩) (by assumption) ?_
      (try simp only [List.getElem_toArray, List.getElem_cons_succ, List.getElem_cons_zero, Act.put, List.setIfInBounds_toArray, List.set_cons_zero, List.set_cons_succ])
      refine wpAnyH_take (i := 10) (oi := _) (v := undef) rfl (by kernel_rfl) (by kernel_rfl) (by kernel_rfl) (fun _ _ _ h => h) (Or.inr ⟨by kernel_rfl, rfl⟩) (by assumption) ?_
      (try simp only [List.getElem_toArray, List.getElem_cons_succ, List.getElem_cons_zero, Act.put, List.setIfInBounds_toArray, List.set_cons_zero, List.set_cons_succ])
      refine wpAnyH_take (i := 11) (oi := _) (v := undef) rfl (by kernel_rfl) (by kernel_rfl) (by kernel_rfl) (fun _ _ _ h => h) (Or.inr ⟨by kernel_rfl, rfl⟩) (by assumption) ?_
      (try simp only [List.getElem_toArray, List.getElem_cons_succ, List.getElem_cons_zero, Act.put, List.setIfInBounds_toArray, List.set_cons_zero, List.set_cons_succ])
      refine wpAnyH_take (i := 12) (oi := _) (v := undef) rfl (by kernel_rfl) (by kernel_rfl) (by kernel_rfl) (fun _ _ _ h => h) (Or.inr ⟨by kernel_rfl, rfl⟩) (by assumption) ?_
      (try simp only [List.getElem_toArray, List.getElem_cons_succ, List.getElem_cons_zero, Act.put, List.setIfInBounds_toArray, List.set_cons_zero, List.set_cons_succ])
      refine wpAnyH_take (i := 13) (oi := _) (v := undef) rfl (by kernel_rfl) (by kernel_rfl) (by kernel_rfl) (fun _ _ _ h => h) (Or.inr ⟨by kernel_rfl, rfl⟩) (by assumption) ?_
      (try simp only [List.getElem_toArray, List.getElem_cons_succ, List.getElem_cons_zero, Act.put, List.setIfInBounds_toArray, List.set_cons_zero, List.set_cons_succ])
      refine wpAnyH_take (i := 14) (oi := _) (v := ?_) rfl (by kernel_rfl) (by kernel_rfl) (by kernel_rfl) (fun _ _ _ h => h) (Or.inl ⟨by rfl, ?_⟩) (by assumption) ?_
      rotate_left
      · (intro w' hSw; obtain ⟨z0, z1, z2⟩ := hSw; go_simp; try with_reducible rfl)
      (try simp only [List.getElem_toArray, List.getElem_cons_succ, List.getElem_cons_zero, Act.put, List.setIfInBounds_toArray, List.set_cons_zero, List.set_cons_succ])
      refine wpAnyH_done (by kernel_rfl) (NoPanic.normal ?_) _
      go_wp2_with fail
      go_ret
      exact HP.out

end Go.Proofs.Ytkkiemideldioaa
set_option linter.unusedVariables false
namespace Go.Proofs.Ytkkiemideldioaa
open Go.RowKit

/-- blocks that are none of the teller's, and were not there, turned -/
theorem Tr.other {W0 w W W' : World} {R fm bm : Nat} {S S1 : TS} {kv kv1 : Nat → Value} (h : Tr W0 w R fm bm S kv W S1 kv1) (h0 : W0.heap.size ≤ w.heap.size) {us : List Nat} (hf : Fr us W W') (hu : ∀ b ∈ us, ¬ Own R fm bm S1 kv1 b ∧ w.heap.size ≤ b) : Tr W0 w R fm bm S kv W' S1 kv1 := by
  refine ⟨h.tw.fr hf (fun b hb => (hu b hb).1) (fun b hb => Nat.le_trans h0 (hu b hb).2), ⟨hf.os.trans h.fr.os, hf.tape.trans h.fr.tape, hf.output.trans h.fr.output, Nat.le_trans h.fr.size hf.size, fun k hk hp => ?_⟩, h.new⟩
  refine (hf.block k (Nat.lt_of_lt_of_le hk h.fr.size) (fun e => ?_)).trans (h.fr.block k hk hp)
  have := (hu k e).2
  omega
/-- what a literal is told of -/
def LitPost (W0 w : World) (R fm bm : Nat) (S : TS) (kv : Nat → Value) (neg : Bool) (x : Int) (t : Tm) (e : Ending) (W' : World) : Prop :=
  (S.built x = none ∧ e = .returned (.agg #[.bool false, .slice none 0 0]) ∧ Tr W0 w R fm bm S kv W' { S with built := delP S.built x, bad := true } kv) ∨ ∃ (a : Option Addr) (n c : Nat), (S.built x).isSome = true ∧ e = .returned (.agg #[.bool neg, .slice a n c]) ∧ Tr W0 w R fm bm S kv W' { S with built := delP S.built x } kv ∧ AccInv w.heap.size 45 t.flat (.slice a n c) W'
set_option maxRecDepth 100000 in
set_option maxHeartbeats 6400000 in
theorem tlit_any (W0 w : World) (R fm bm : Nat) (S : TS) (kv : Nat → Value) (hT : TW W0 w R fm bm S kv) (i : Ins) (hfit : i.fit) (t : Tm) (ht : ∀ p, S.built i.a = some p → TrH S.H p t) (hl : t.flat.length ≤ 900000000) :
    Calls Try.prog 157 #[.pointer (some ⟨R, 0, none⟩), i.v] w (LitPost W0 w R fm bm S kv i.neg i.a t) := by
  obtain ⟨o1, o2, x1', x2', a1, a2, hsz, hn1, hn2⟩ := hfit
  have hbx := ((Below.refl w.heap.size w).new (.cells #[.int .i64 i.op, .int .i64 i.x, .int .i64 i.a, .string i.s, .int .i64 i.n, .bool i.neg] 48)).new (.cells #[.bool false, .slice none 0 0] 55)
  have HT := mkHid ((Tr.refl hT).below hbx)
  have HTW := mkHid hT
  have HTR := mkHid ht
  clear hbx hT ht
  go_enter Try.func157, Try.ntmps157
  dsimp only [Ins.v]
  go_wp2_with fail
  refine (taken_any W0 _ R fm bm _ _ HT.out.tw i.a a1 a2).mono ?_
  rintro e w6 ⟨rfl, hT6⟩
  have hbox := hT6.fr.block w.heap.size (by simp; omega) (fun e => by have := (HTW.out.ownB _ e).2; omega)
  have hlit := hT6.fr.block (w.heap.size + 1) (by simp) (fun e => by have := (HTW.out.ownB _ e).2; omega)
  rw [heap_alloc_old _ _ (by simp), heap_alloc_new] at hbox
  have hbs : (w.alloc (.cells #[.int .i64 i.op, .int .i64 i.x, .int .i64 i.a, .string i.s, .int .i64 i.n, .bool i.neg] 48)).heap.size = w.heap.size + 1 := by simp
  rw [← hbs, heap_alloc_new, hbs] at hlit
  have HT6 := mkHid (HT.out.trans hT6)
  have b5 : w6.cell? ⟨w.heap.size, 5, none⟩ = some (.bool i.neg) := by rw [cell_of_row w6 _ 5 _ _ _ hbox]; rfl
  have l0 : w6.cell? ⟨w.heap.size + 1, 0, none⟩ = some (.bool false) := by rw [cell_of_row w6 _ 0 _ _ _ hlit]; rfl
  have l1 : w6.cell? ⟨w.heap.size + 1, 1, none⟩ = some (.slice none 0 0) := by rw [cell_of_row w6 _ 1 _ _ _ hlit]; rfl
  have g0 : w6.frozen? ⟨w.heap.size + 1, 0, none⟩ = false := by simp [World.frozen?, hlit]
  have g1 : w6.frozen? ⟨w.heap.size + 1, 1, none⟩ = false := by simp [World.frozen?, hlit]
  have hwl : w.heap.size + 1 < w6.heap.size := (Array.getElem?_eq_some_iff.1 hlit).1
  have HLO : Hid (¬ Own R fm bm { S with built := delP S.built i.a } kv (w.heap.size + 1)) := fun e => by
    have hs := (hT6.new _ e)
    rcases hs with e | e
    · have := (HTW.out.ownB _ e).2; omega
    · simp at e; omega
  clear hT6 hbox hlit hbs
  cases hbi : S.built i.a with
  | none =>
    have HBI := mkHid hbi
    obtain ⟨_, _, _, _, _, t3, tf, _⟩ := HT6.out.tw.cR
    have tf3 := tf 3
    have hRl : ¬ R = w.heap.size + 1 := fun e => HLO.out (.inl e.symm)
    have hRl' : ¬ w.heap.size + 1 = R := fun e => hRl e.symm
    have HT7 := mkHid (HT6.out.trans (Tr.of HT6.out.tw.setBad))
    have hW0 := HTW.out.B0
    have HT8 := mkHid (HT7.out.other HTW.out.B0 (us := [w.heap.size + 1]) (W' := ((w6.setCell ⟨R, 3, none⟩ (.bool true)).setCell ⟨w.heap.size + 1, 0, none⟩ (.bool false)).setCell ⟨w.heap.size + 1, 1, none⟩ (.slice none 0 0)) (((Fr.refl _ _).set (by simp) _).set (by simp) _) (by simp; exact HLO.out))
    clear tf hW0
    dsimp only [ptO, Option.isSome]
    go_wp2_with fail
    exact bodyPost_ret (v := .agg #[.bool false, .slice none 0 0]) (by simp [results, Try.results157, go_sem, *]) rfl (.inl ⟨HBI.out, rfl, HT8.out⟩)
  | some p =>
    have hci := HTR.out p hbi
    have hsi : (S.built i.a).isSome = true := by rw [hbi]; rfl
    have HSI := mkHid hsi
    have HCI := mkHid hci
    clear hsi hci
    dsimp only [ptO, Option.isSome]
    go_wp2_with fail
    have hbd : Below w6.heap.size w6 w6.drew := (Below.refl _ _).drew
    refine wp_region_noPanic ?_
    refine wp_region_held_drew (S := fun X => X.cell? ⟨w.heap.size, 5, none⟩ = some (.bool i.neg)) (by kernel_rfl) (keep b5 hbd) (fun hSd => ?_)
    have l0d := keep l0 hbd
    have l1d := keep l1 hbd
    obtain ⟨v0, hx0⟩ : ∃ X, w6.drew = X := ⟨_, rfl⟩
    have g0d : w6.drew.frozen? ⟨w.heap.size + 1, 0, none⟩ = false := (hbd.frozen (by simpa using hwl)).trans g0
    have g1d : w6.drew.frozen? ⟨w.heap.size + 1, 1, none⟩ = false := (hbd.frozen (by simpa using hwl)).trans g1
    rw [hx0] at hbd hSd l0d l1d g0d g1d ⊢
    clear hx0 l0 l1 g0 g1 b5
    refine wpAnyH_take (i := 0) (oi := _) (v := ?_) rfl (by kernel_rfl) (by kernel_rfl) (by kernel_rfl) (fun _ _ _ h => h) (Or.inl ⟨by rfl, ?_⟩) (by assumption) ?_
    rotate_left
    · (intro w' hSw; go_simp; try with_reducible rfl)
    (try simp only [List.getElem_toArray, List.getElem_cons_succ, List.getElem_cons_zero, Act.put, List.setIfInBounds_toArray, List.set_cons_zero, List.set_cons_succ])
    refine wpAnyH_take (i := 1) (oi := _) (v := ?_) rfl (by kernel_rfl) (by kernel_rfl) (by kernel_rfl) (fun _ _ _ h => h) (Or.inl ⟨by rfl, ?_⟩) (by assumption) ?_
    rotate_left
    · (intro w' hSw; go_simp; try with_reducible rfl)
    (try simp only [List.getElem_toArray, List.getElem_cons_succ, List.getElem_cons_zero, Act.put, List.setIfInBounds_toArray, List.set_cons_zero, List.set_cons_succ])
    refine wpAnyH_take (i := 2) (oi := _) (v := ?_) rfl (by kernel_rfl) (by kernel_rfl) (by kernel_rfl) (fun _ _ _ h => h) (Or.inl ⟨by rfl, ?_⟩) (by assumption) ?_
    rotate_left
    · (intro w' hSw; go_simp; try with_reducible rfl)
    (try simp only [List.getElem_toArray, List.getElem_cons_succ, List.getElem_cons_zero, Act.put, List.setIfInBounds_toArray, List.set_cons_zero, List.set_cons_succ])
    refine wpAnyH_ready (rs := [3]) (by kernel_rfl) (by simp) ?_
    refine AllReadyH.cons (o := _) rfl (fun K hK => ?_) AllReadyH.nil
    go_simp
    have HT0 := mkHid (HT6.out.below hbd)
    refine (cells_any W0 v0 R fm bm _ _ HT0.out.tw p t HCI.out hl).mono ?_
    rintro e v1 ⟨ca, cn, cc, rfl, hA, hb1⟩
    have m0 := keep l0d hb1
    have m1 := keep l1d hb1
    have k0 : v1.frozen? ⟨w.heap.size + 1, 0, none⟩ = false := (hb1.frozen (by have := hbd.size; simp at this ⊢; omega)).trans g0d
    have k1 : v1.frozen? ⟨w.heap.size + 1, 1, none⟩ = false := (hb1.frozen (by have := hbd.size; simp at this ⊢; omega)).trans g1d
    have HA := mkHid hA
    have HT1 := mkHid ((HT0.out.below hb1).other HTW.out.B0 (us := [w.heap.size + 1]) (W' := (v1.setCell ⟨w.heap.size + 1, 0, none⟩ (.bool i.neg)).setCell ⟨w.heap.size + 1, 1, none⟩ (.slice ca cn cc)) (((Fr.refl _ _).set (by simp) _).set (by simp) _) (by simp; exact HLO.out))
    have HF1 : Hid (AccInv w.heap.size 45 t.flat (.slice ca cn cc) ((v1.setCell ⟨w.heap.size + 1, 0, none⟩ (.bool i.neg)).setCell ⟨w.heap.size + 1, 1, none⟩ (.slice ca cn cc))) := by
      have hf : Fr [w.heap.size + 1] v1 ((v1.setCell ⟨w.heap.size + 1, 0, none⟩ (.bool i.neg)).setCell ⟨w.heap.size + 1, 1, none⟩ (.slice ca cn cc)) := ((Fr.refl _ _).set (by simp) _).set (by simp) _
      refine (HA.out.baseN (by have := hbd.size; omega)).blockN (fun h => h) fun b hb => hf.block b (HA.out.lt b hb).2 (by
        have := (HA.out.lt b hb).1
        have h2 := hbd.size
        simp
        omega)
    have hS1 := keep hSd hb1
    clear HA hA HT0 hb1 l0d l1d g0d g1d
    try dsimp only
    refine hK.out _ _ hS1 (fun _ => ?_)
    clear hK K
    (try simp only [List.getElem_toArray, List.getElem_cons_succ, List.getElem_cons_zero, Act.put, List.setIfInBounds_toArray, List.set_cons_zero, List.set_cons_succ])
    refine wpAnyH_take (i := 4) (oi := _) (v := ?_) rfl (by kernel_rfl) (by kernel_rfl) (by kernel_rfl) (fun _ _ _ h => h) (Or.inl ⟨by rfl, ?_⟩) (by assumption) ?_
    rotate_left
    · (intro w' hSw; go_simp; try with_reducible rfl)
    (try simp only [List.getElem_toArray, List.getElem_cons_succ, List.getElem_cons_zero, Act.put, List.setIfInBounds_toArray, List.set_cons_zero, List.set_cons_succ])
    refine wpAnyH_ready (rs := [5]) (by kernel_rfl) (by simp) ?_
    refine AllReadyH.cons (o := _) rfl (fun K hK => ?_) AllReadyH.nil
    go_simp
    try dsimp only
    refine hK.out _ _ (by go_simp) (fun _ => ?_)
    clear hK K
    (try simp only [List.getElem_toArray, List.getElem_cons_succ, List.getElem_cons_zero, Act.put, List.setIfInBounds_toArray, List.set_cons_zero, List.set_cons_succ])
    refine wpAnyH_done (by kernel_rfl) (NoPanic.normal ?_) _
    go_wp2_with fail
    exact bodyPost_ret (v := .agg #[.bool i.neg, .slice ca cn cc]) (by simp [results, Try.results157, go_sem, *]) rfl (.inr ⟨ca, cn, cc, HSI.out, rfl, HT1.out, HF1.out⟩)
end Go.Proofs.Ytkkiemideldioaa
set_option linter.unusedVariables false
namespace Go.Proofs.Ytkkiemideldioaa
open Go.RowKit

/-! ### the body: what is plain of it -/
def updP (f : Int → Option Nat) (x : Int) (p : Nat) : Int → Option Nat := fun j => if j = x then some p else f j
theorem BtOk.put {H : Nat → Option NdS} {built : Int → Option Nat} {B : BL} (h : BtOk H built B) (x : Int) {p : Nat} {t : Tm} (ht : TrH H p t) : BtOk H (updP built x p) (putB B x t) := fun i => by
  rw [getB_put]
  unfold updP
  split
  · exact .inr ⟨p, t, rfl, rfl, ht⟩
  · exact h i
theorem MapV.run_updN {P : Program} {k e t : TypeId} {w : World} {b n : Nat} {f : Int → Option Value} (h : MapV P k w b n f) (hk : P.underlying k = some (.int .i64)) (ht : P.underlying t = some (.map k e)) (hn : n < 9223372036854775807) (i : Int) (hi : (Lit.int .i64 i).wf = true) (z : Value) :
    ∃ w', (Instr.mapUpdate t (.map (some b)) (.int .i64 i) z).run P w = .ok () w' ∧ MapV P k w' b (n + 1) (fun j => if j = i then some z else f j) ∧ w.grownBy w' (some b) := by
  obtain ⟨D, h, hf⟩ := h.ex
  obtain ⟨w', hrun, h1, h2⟩ := h.update (Go.Maps.int_keyed hk) ht (by unfold maxLen; omega) (Go.Maps.keyOf_int_mk hk hi) (show heldElem z = some (.held z, []) from rfl)
  exact ⟨w', hrun, ⟨_, h1, MapV.put_at h.isMap hf i z⟩, h2⟩
def sumT (l : List (Bool × Tm)) : Nat := (l.map fun x => x.2.flat.length).sum
structure BP (S : TS) (B : BL) (lits : List (Bool × Tm)) (rest : List Ins) (bad : Bool) : Prop where
  len : sumB B + sumT lits + rest.length ≤ S.rest.length + (if bad = true then 1 else 0)
  comp : ∀ bs0, BodyR S.rest (fun _ => none) bs0 → bad = false ∧ ∃ bs', BodyR rest (getB B) bs' ∧ bs0 = lits ++ bs'
theorem BP.start (S : TS) (h : S.bad = false) : BP S [] [] S.rest S.bad := by
  refine ⟨by simp [sumB, sumT], fun bs0 hb => ⟨h, bs0, ?_, rfl⟩⟩
  have e : getB [] = fun _ => none := funext fun j => rfl
  rw [e]; exact hb
theorem BP.put {S : TS} {B : BL} {lits : List (Bool × Tm)} {i : Ins} {l : List Ins} (h : BP S B lits (i :: l) false) (h8 : i.op = 8) : BP S (putB (setsM i.n.toNat B l).2.1 i.a (.mk (funI i) (setsM i.n.toNat B l).1)) lits (setsM i.n.toNat B l).2.2.1 (setsM i.n.toNat B l).2.2.2 := by
  have h1 := (setsM_len i.n.toNat B l).1
  have h2 := sumB_put (setsM i.n.toNat B l).2.1 i.a (.mk (funI i) (setsM i.n.toNat B l).1)
  have h3 := h.len
  simp only [Tm.flat, List.length_cons, Bool.false_eq_true, if_false] at h2 h3
  refine ⟨by omega, fun bs0 hb => ?_⟩
  obtain ⟨_, bs', e1, e2⟩ := h.comp bs0 hb
  generalize hG : getB B = G at e1
  cases e1 with
  | @put _ us rest2 _ B' ts _ hop hn hs hr =>
    obtain ⟨B2, e3, hB2⟩ := hs.told B rest2 (fun j => by rw [hG])
    rw [show i.n.toNat = us.length by omega, e3]
    refine ⟨rfl, bs', ?_, e2⟩
    have e : getB (putB B2 i.a (.mk (funI i) ts)) = updB B' i.a (.mk ⟨3, i.s, i.n⟩ ts) := funext fun j => by
      rw [getB_put, hB2]; rfl
    rw [e]
    exact hr
  | call hop _ _ => omega
theorem BP.call {S : TS} {B : BL} {lits : List (Bool × Tm)} {i : Ins} {l : List Ins} (h : BP S B lits (i :: l) false) (h12 : i.op = 12) {t : Tm} (ht : getB B i.a = some t) : BP S (dropB B i.a) (lits ++ [(i.neg, t)]) l false := by
  have h1 := dropB_get ht
  have h3 := h.len
  have h4 : sumT (lits ++ [(i.neg, t)]) = sumT lits + t.flat.length := by simp [sumT]
  simp only [List.length_cons, Bool.false_eq_true, if_false] at h3 ⊢
  refine ⟨by rw [h4]; simp only [Bool.false_eq_true, if_false]; omega, fun bs0 hb => ?_⟩
  obtain ⟨_, bs', e1, e2⟩ := h.comp bs0 hb
  generalize hG : getB B = G at e1
  cases e1 with
  | put hop _ _ _ => omega
  | @call _ _ _ t' bs2 hop ht' hr =>
    rw [← hG, ht] at ht'
    cases ht'
    refine ⟨rfl, bs2, ?_, by rw [e2]; simp⟩
    have e : getB (dropB B i.a) = delB G i.a := funext fun j => by rw [getB_drop, hG]; rfl
    rw [e]
    exact hr
theorem BP.lost {S : TS} {B B' : BL} {lits : List (Bool × Tm)} {i : Ins} {l : List Ins} (h : BP S B lits (i :: l) false) (hB : sumB B' ≤ sumB B) (h8 : i.op ≠ 8) (h12 : i.op = 12 → getB B i.a = none) : BP S B' lits l true := by
  have h3 := h.len
  simp only [List.length_cons, Bool.false_eq_true, if_false] at h3
  refine ⟨by simp only [if_true]; omega, fun bs0 hb => ?_⟩
  obtain ⟨_, bs', e1, e2⟩ := h.comp bs0 hb
  generalize hG : getB B = G at e1
  cases e1 with
  | put hop _ _ _ => exact absurd hop h8
  | call hop ht _ => rw [← hG, h12 hop] at ht; cases ht
theorem BP.ends {S : TS} {B : BL} {lits : List (Bool × Tm)} {rest : List Ins} {bad : Bool} (h : BP S B lits rest bad) (he : bad = true ∨ rest = []) : ∀ bs0, BodyR S.rest (fun _ => none) bs0 → bad = false ∧ bs0 = lits := fun bs0 hb => by
  obtain ⟨e1, bs', e2, e3⟩ := h.comp bs0 hb
  refine ⟨e1, ?_⟩
  rcases he with e | rfl
  · rw [e] at e1; cases e1
  · cases e2
    rw [e3, List.append_nil]
/-! #### literals in memory, their terms' rows each its own -/
structure LitV where
  neg : Bool
  v : Value
structure LitVE (w : World) (b o : Nat) (x : LitV) : Prop where
  c0 : w.cell? ⟨b, o, none⟩ = some (.bool x.neg)
  c1 : w.cell? ⟨b, o + 1, none⟩ = some x.v
  one : x.v.oneCell' = true
instance instRepCLitV : RepC LitV where
  sz := 2
  E := LitVE
  mono h hb := ⟨hb _ _ _ h.c0, hb _ _ _ h.c1, h.one⟩
  lt h := cell_lt h.c0
  C _ cs x := cs = [.bool x.neg, x.v] ∧ x.v.oneCell' = true
  len := by rintro w cs x ⟨rfl, _⟩; rfl
  one := by
    rintro w cs x ⟨rfl, h1⟩ u hu
    simp at hu
    rcases hu with rfl | rfl
    · rfl
    · exact h1
  cmono := by rintro w w' cs x h _; exact h
  toE := by
    rintro w cs x b o ⟨rfl, h1⟩ hat
    exact ⟨hat 0 _ rfl, hat 1 _ rfl, h1⟩
  ofE := by
    rintro w x b o ⟨h0, h1, h2⟩
    refine ⟨_, ⟨rfl, h2⟩, fun j u hj => ?_⟩
    match j with
    | 0 => simp at hj; subst hj; exact h0
    | 1 => simp at hj; subst hj; exact h1
    | j + 2 => simp at hj
  pos := by decide
theorem Try.infoLitN : (Try.prog.info? 55).map (fun i => (i.zero, i.size, i.bytes)) = some (some (.agg #[.bool false, .slice none 0 0]), 2, 32) := by kernel_rfl
structure LitsOk (P : Nat → Prop) (W : World) (B0 : Nat) (ls : List LitV) (lits : List (Bool × Tm)) : Prop where
  neg : ls.map LitV.neg = lits.map Prod.fst
  at_ : ∀ (k : Nat) l x, ls[k]? = some l → lits[k]? = some x → AccInv B0 45 x.2.flat l.v W
  off : ∀ l ∈ ls, offP P l.v
  sep : ls.Pairwise fun a b => ∀ g, a.v.ownBlock = some g → b.v.ownBlock ≠ some g
theorem LitsOk.nil (P : Nat → Prop) (W : World) (B0 : Nat) : LitsOk P W B0 [] [] := ⟨rfl, fun k l x h => by simp at h, fun l h => by simp at h, List.Pairwise.nil⟩
theorem LitsOk.len {P : Nat → Prop} {W : World} {B0 : Nat} {ls : List LitV} {lits : List (Bool × Tm)} (h : LitsOk P W B0 ls lits) : ls.length = lits.length := by
  have := congrArg List.length h.neg
  simpa using this
theorem LitsOk.of {P : Nat → Prop} {W : World} {B0 : Nat} {ls : List LitV} {lits : List (Bool × Tm)} (h : LitsOk P W B0 ls lits) {l : LitV} (hl : l ∈ ls) : ∃ x, AccInv B0 45 (Tm.flat x) l.v W := by
  obtain ⟨k, hk, e⟩ := List.getElem_of_mem hl
  have hk2 : k < lits.length := by rw [← h.len]; exact hk
  exact ⟨_, h.at_ k l lits[k] (by rw [List.getElem?_eq_getElem hk, e]) (List.getElem?_eq_getElem hk2)⟩
/-- the teller went on -/
theorem LitsOk.turn {P P' : Nat → Prop} {W W' : World} {B0 : Nat} {ls : List LitV} {lits : List (Bool × Tm)} (h : LitsOk P W B0 ls lits) (hf : FrP P W W') (hn : ∀ b, P' b → P b ∨ W.heap.size ≤ b) : LitsOk P' W' B0 ls lits := by
  refine ⟨h.neg, fun k l x h1 h2 => hf.acc (fun h => h) (h.at_ k l x h1 h2) (h.off l (List.mem_of_getElem? h1)), fun l hl b hb e => ?_, h.sep⟩
  rcases hn b e with e | e
  · exact h.off l hl b hb e
  · obtain ⟨x, hx⟩ := h.of hl
    have := (hx.lt b hb).2
    omega
/-- other blocks turned -/
theorem LitsOk.fr {P : Nat → Prop} {W W' : World} {B0 : Nat} {ls : List LitV} {lits : List (Bool × Tm)} (h : LitsOk P W B0 ls lits) {us : List Nat} (hf : Fr us W W') (hu : ∀ l ∈ ls, ∀ b, l.v.ownBlock = some b → b ∉ us) : LitsOk P W' B0 ls lits :=
  ⟨h.neg, fun k l x h1 h2 => (h.at_ k l x h1 h2).blockN (fun h => h) fun b hb => hf.block b ((h.at_ k l x h1 h2).lt b hb).2 (hu l (List.mem_of_getElem? h1) b hb), h.off, h.sep⟩
/-- a literal more, with a row of its own -/
theorem LitsOk.snoc {P : Nat → Prop} {W : World} {B0 B1 : Nat} {ls : List LitV} {lits : List (Bool × Tm)} (h : LitsOk P W B0 ls lits) {l : LitV} {x : Bool × Tm} (hn : l.neg = x.1) (ha : AccInv B1 45 x.2.flat l.v W) (hB : B0 ≤ B1) (ho : offP P l.v) (hl : ∀ y ∈ ls, ∀ b, y.v.ownBlock = some b → b < B1) : LitsOk P W B0 (ls ++ [l]) (lits ++ [x]) := by
  refine ⟨by simp [h.neg, hn], fun k l' x' h1 h2 => ?_, fun y hy => ?_, ?_⟩
  · by_cases hk : k < ls.length
    · rw [List.getElem?_append_left hk] at h1
      rw [List.getElem?_append_left (by rw [← h.len]; exact hk)] at h2
      exact h.at_ k l' x' h1 h2
    · rw [List.getElem?_append_right (by omega)] at h1
      rw [List.getElem?_append_right (by rw [← h.len]; omega), ← h.len] at h2
      have hk0 : k - ls.length = 0 := by
        cases hkk : k - ls.length with
        | zero => rfl
        | succ m => rw [hkk] at h1; simp at h1
      rw [hk0] at h1 h2
      simp at h1 h2
      subst h1; subst h2
      exact ha.baseN hB
  · rcases List.mem_append.1 hy with hy | hy
    · exact h.off y hy
    · simp at hy; subst hy; exact ho
  · rw [List.pairwise_append]
    refine ⟨h.sep, List.pairwise_singleton _ _, fun a hA b hb g h1 h2 => ?_⟩
    simp at hb
    subst hb
    have := hl a hA g h1
    have := (ha.lt g h2).1
    omega
end Go.Proofs.Ytkkiemideldioaa
