import Derived.Test.YtmmnfkggfnokjaaZt8
set_option linter.unusedVariables false
namespace Go.Proofs.Ytmmnfkggfnokjaa
open Go.RowKit
/-! ### register -/
section
variable {W : World} {k : Nat} {x0 x1 x2 x3 : Value} {T : Nat}
theorem st1_set (h : W.heap[k]? = some (.cells #[x0, x1, x2, x3] T (0, 0))) (v : Value) : (W.setCell ⟨k, 1, none⟩ v).heap[k]? = some (.cells #[x0, v, x2, x3] T (0, 0)) := by
  unfold World.setCell
  rw [Array.getElem?_modify, if_pos rfl, h]
  rfl
theorem st2_set (h : W.heap[k]? = some (.cells #[x0, x1, x2, x3] T (0, 0))) (v : Value) : (W.setCell ⟨k, 2, none⟩ v).heap[k]? = some (.cells #[x0, x1, v, x3] T (0, 0)) := by
  unfold World.setCell
  rw [Array.getElem?_modify, if_pos rfl, h]
  rfl
theorem st3_set (h : W.heap[k]? = some (.cells #[x0, x1, x2, x3] T (0, 0))) (v : Value) : (W.setCell ⟨k, 3, none⟩ v).heap[k]? = some (.cells #[x0, x1, x2, v] T (0, 0)) := by
  unfold World.setCell
  rw [Array.getElem?_modify, if_pos rfl, h]
  rfl
/-- all four cells stored -/
theorem st_all (h : W.heap[k]? = some (.cells #[x0, x1, x2, x3] T (0, 0))) (v0 v1 v2 v3 : Value) : ((((W.setCell ⟨k, 0, none⟩ v0).setCell ⟨k, 1, none⟩ v1).setCell ⟨k, 2, none⟩ v2).setCell ⟨k, 3, none⟩ v3).heap[k]? = some (.cells #[v0, v1, v2, v3] T (0, 0)) :=
  st3_set (st2_set (st1_set (st0_set h v0) v1) v2) v3
end
theorem Fr.four {us : List Nat} {w w' : World} (h : Fr us w w') {g : Nat} (hg : g ∈ us) (v0 v1 v2 v3 : Value) : Fr us w ((((w'.setCell ⟨g, 0, none⟩ v0).setCell ⟨g, 1, none⟩ v1).setCell ⟨g, 2, none⟩ v2).setCell ⟨g, 3, none⟩ v3) := (((h.set hg v0).set hg v1).set hg v2).set hg v3
theorem below_four {n : Nat} {w w' : World} (h : Below n w w') {g : Nat} (hg : n ≤ g) (v0 v1 v2 v3 : Value) : Below n w ((((w'.setCell ⟨g, 0, none⟩ v0).setCell ⟨g, 1, none⟩ v1).setCell ⟨g, 2, none⟩ v2).setCell ⟨g, 3, none⟩ v3) :=
  (((h.setCell (p := ⟨g, 0, none⟩) hg v0).setCell (p := ⟨g, 1, none⟩) hg v1).setCell (p := ⟨g, 2, none⟩) hg v2).setCell (p := ⟨g, 3, none⟩) hg v3
theorem wpList_run {P : Program} {w : World} {ops : Array Oper} {rest : List Oper} {o : Oper} {a : Act} {Q : Exit → Act → World → Prop} (hgd : o.guard = none) (s x : Operand) (t : TypeId)
    (ho : o.op = .call { callee := .builtin .append, args := #[s, x], argTypes := #[t, t] }) {v y v' : Value} {w' : World} (hs : a.eval s = v) (hx : a.eval x = y)
    (hr : (Builtin.append_ #[t, t] o.type #[v, y]).run P w = .ok v' w') (h : wpList P ops Q rest (a.put o.dst v') w') : wpList P ops Q (o :: rest) a w :=
  wpList_plain hgd fun K hK => by
    unfold Oper.wp execOp
    simp only [ho, resolve, invoke, builtin, Sem.run_bind, Sem.run_pure, Result.andThen_ok, List.map_toArray, List.map_cons, List.map_nil, hs, hx, hr]
    exact hK _ _ h
theorem int_cR {w : World} (n : Int) (h1 : -9223372036854775808 ≤ n) (h2 : n ≤ 9223372036854775807) : RepC.C w (#[Value.int .i64 n]).toList n := ⟨rfl, h1, h2⟩
set_option maxRecDepth 100000 in
set_option maxHeartbeats 12800000 in
theorem register_yes (us : List Nat) (w : World) (ac : Option Addr) (cc : Nat) (av : Option Addr) (cv : Nat) (ar : Option Addr) (cr : Nat) (m : MkS) (vs rs : List Int) (v : Int) (hs : StR us w ac cc av cv ar cr m vs rs) (hb : Bd m vs rs) (hv : v ∈ vs) (hl : vs.length ≤ 100000) :
    Calls Try.prog 151 #[.agg #[.slice ac m.code.length cc, .int .i64 m.next, .slice av vs.length cv, .slice ar rs.length cr], .int .i64 v] w fun e w' => ∃ r, m.at_ v = some r ∧ (-9223372036854775808 ≤ r ∧ r ≤ 9223372036854775807) ∧ e = .returned (.tuple #[.agg #[.slice ac m.code.length cc, .int .i64 m.next, .slice av vs.length cv, .slice ar rs.length cr], .int .i64 r, .bool false]) ∧ Below w.heap.size w w' := by
  obtain ⟨hi, hlk⟩ := look_some vs rs v hb.len hv
  have hp : placeI vs v = (vs.idxOf v : Int) := by unfold placeI; rw [if_pos hv]
  have HAT : m.at_ v = some rs[vs.idxOf v] := by rw [hb.at_, hlk]
  generalize vs.idxOf v = p at hi hp HAT
  obtain ⟨r, hre⟩ : ∃ r, rs[p] = r := ⟨_, rfl⟩
  obtain ⟨b6, o6, rfl, hb6, hat6⟩ := (hs.r.keeps (veil_keeps us w)).cases.resolve_left (fun e => by rw [e] at hi; simp at hi)
  obtain ⟨c6, t1, t2⟩ := int_at hat6 (Below.refl _ _) hi
  rw [hre] at c6 HAT t1 t2
  have HT12 := mkHid (show -9223372036854775808 ≤ r ∧ r ≤ 9223372036854775807 from ⟨t1, t2⟩)
  have hb6w : b6 < w.heap.size := cell_lt c6
  have HAT := mkHid HAT
  have HSV0 := mkHid (hs.v.keeps (veil_keeps us w))
  have hrl := hs.r.le
  have hrm := hs.r.max
  clear hlk hs hb hat6 hre
  obtain ⟨W, hW⟩ : ∃ W, (w.alloc (.cells #[.slice ac m.code.length cc, .int .i64 m.next, .slice av vs.length cv, .slice (some ⟨b6, o6, none⟩) rs.length cr] 104)).alloc (.cells #[.slice none 0 0, .int .i64 0, .slice none 0 0, .slice none 0 0] 104) = W := ⟨_, rfl⟩
  have hb0 : Below w.heap.size w W := by rw [← hW]; exact ((Below.refl _ _).new _).new _
  have hs1 : (w.alloc (.cells #[.slice ac m.code.length cc, .int .i64 m.next, .slice av vs.length cv, .slice (some ⟨b6, o6, none⟩) rs.length cr] 104)).heap.size = w.heap.size + 1 := by simp
  have HK0 : Hid (W.heap[w.heap.size]? = some (.cells #[.slice ac m.code.length cc, .int .i64 m.next, .slice av vs.length cv, .slice (some ⟨b6, o6, none⟩) rs.length cr] 104 (0, 0))) := by
    rw [Hid, ← hW]
    exact (heap_alloc_old _ _ (by simp)).trans (heap_alloc_new _ _)
  have HK1 : Hid (W.heap[w.heap.size + 1]? = some (.cells #[.slice none 0 0, .int .i64 0, .slice none 0 0, .slice none 0 0] 104 (0, 0))) := by
    rw [Hid, ← hW, ← hs1]
    exact heap_alloc_new _ _
  have HZ : Hid (W.heap.size = w.heap.size + 2) := by rw [Hid, ← hW]; simp
  have HB := mkHid hb0
  have HSV := mkHid (HSV0.out.below hb0)
  have q6 := mkHid (keep c6 hb0)
  clear hb0 hs1 HSV0 c6
  obtain ⟨l0, l1, l2, l3⟩ := st_cells HK0.out
  go_enter Try.func151, Try.ntmps151
  go_wp2_with fail
  first | rw [hW] | skip
  clear l0 l1 l2 l3
  clear hW
  refine (refplace_any av cv v W vs HSV.out).mono ?_
  rintro e w1 ⟨rfl, hb1⟩
  rw [hp]
  have HB1 := mkHid (HB.out.then hb1)
  have g0 := mkHid ((hb1.block w.heap.size (by have := HZ.out; omega)).trans HK0.out)
  have g1 := mkHid ((hb1.block (w.heap.size + 1) (by have := HZ.out; omega)).trans HK1.out)
  have HZ1 : Hid (w.heap.size + 2 ≤ w1.heap.size) := by have := HZ.out; have := hb1.size; rw [Hid]; omega
  have q7 := mkHid (keep q6.out hb1)
  clear hb1 HK0 HK1 HB HSV HZ hp q6
  go_wp2_with fail
  refine wp_region_noPanic ?_
  obtain ⟨y0, hv0⟩ : ∃ X, w1.drew = X := ⟨_, rfl⟩
  have hbd : Below w1.heap.size w1 y0 := by rw [← hv0]; exact (Below.refl _ _).drew
  have HBY := mkHid (HB1.out.then hbd)
  have G0 := mkHid ((hbd.block w.heap.size (by have := HZ1.out; omega)).trans g0.out)
  have G1 := mkHid ((hbd.block (w.heap.size + 1) (by have := HZ1.out; omega)).trans g1.out)
  have Q7 := mkHid (keep q7.out hbd)
  have HYZ : Hid (w.heap.size + 2 ≤ y0.heap.size) := by have := HZ1.out; have := hbd.size; rw [Hid]; omega
  have HS : Hid (∀ X, Fr [w.heap.size + 1] y0 X → (fun X : World => X.cell? ⟨w.heap.size, 0, none⟩ = some (.slice ac m.code.length cc) ∧ X.cell? ⟨w.heap.size, 1, none⟩ = some (.int .i64 m.next) ∧ X.cell? ⟨w.heap.size, 2, none⟩ = some (.slice av vs.length cv) ∧ X.cell? ⟨w.heap.size, 3, none⟩ = some (.slice (some ⟨b6, o6, none⟩) rs.length cr) ∧ X.cell? ⟨b6, o6 + p, none⟩ = some (.int .i64 r)) X) := fun X h => by
    obtain ⟨q0, q1, q2, q3⟩ := st_cells G0.out
    have key : ∀ g o v, g < w.heap.size + 1 → y0.cell? ⟨g, o, none⟩ = some v → X.cell? ⟨g, o, none⟩ = some v := fun g o v hg hq =>
      (World.cell?_of_block (w := y0) (a := ⟨g, o, none⟩) (h.block _ (by have := HYZ.out; show g < _; omega) (by simp; omega))).trans hq
    exact ⟨key _ _ _ (by omega) q0, key _ _ _ (by omega) q1, key _ _ _ (by omega) q2, key _ _ _ (by omega) q3, key _ _ _ (by omega) Q7.out⟩
  refine wp_region_held_drew (S := fun X : World => X.cell? ⟨w.heap.size, 0, none⟩ = some (.slice ac m.code.length cc) ∧ X.cell? ⟨w.heap.size, 1, none⟩ = some (.int .i64 m.next) ∧ X.cell? ⟨w.heap.size, 2, none⟩ = some (.slice av vs.length cv) ∧ X.cell? ⟨w.heap.size, 3, none⟩ = some (.slice (some ⟨b6, o6, none⟩) rs.length cr) ∧ X.cell? ⟨b6, o6 + p, none⟩ = some (.int .i64 r)) (by kernel_rfl) (by rw [hv0]; exact HS.out _ (Fr.refl _ _)) (fun hSd => ?_)
  rw [hv0] at hSd ⊢
  clear hv0 hbd g0 g1 q7 HB1 HZ1
  refine wpAnyH_take (i := 0) (oi := _) (v := ?_) rfl (by kernel_rfl) (by kernel_rfl) (by kernel_rfl) (fun _ _ _ h => h) (Or.inl ⟨by rfl, ?_⟩) (by assumption) ?_
  rotate_left
  · (intro w' hSw; obtain ⟨z0, z1, z2, z3, z4⟩ := hSw; go_simp; try with_reducible rfl)
  (try simp only [List.getElem_toArray, List.getElem_cons_succ, List.getElem_cons_zero, Act.put, List.setIfInBounds_toArray, List.set_cons_zero, List.set_cons_succ])
  refine wpAnyH_take (i := 1) (oi := _) (v := ?_) rfl (by kernel_rfl) (by kernel_rfl) (by kernel_rfl) (fun _ _ _ h => h) (Or.inl ⟨by rfl, ?_⟩) (by assumption) ?_
  rotate_left
  · (intro w' hSw; obtain ⟨z0, z1, z2, z3, z4⟩ := hSw; go_simp; try with_reducible rfl)
  (try simp only [List.getElem_toArray, List.getElem_cons_succ, List.getElem_cons_zero, Act.put, List.setIfInBounds_toArray, List.set_cons_zero, List.set_cons_succ])
  refine wpAnyH_take (i := 2) (oi := _) (v := ?_) rfl (by kernel_rfl) (by kernel_rfl) (by kernel_rfl) (fun _ _ _ h => h) (Or.inl ⟨by rfl, ?_⟩) (by assumption) ?_
  rotate_left
  · (intro w' hSw; obtain ⟨z0, z1, z2, z3, z4⟩ := hSw; go_simp; try with_reducible rfl)
  (try simp only [List.getElem_toArray, List.getElem_cons_succ, List.getElem_cons_zero, Act.put, List.setIfInBounds_toArray, List.set_cons_zero, List.set_cons_succ])
  refine wpAnyH_take (i := 3) (oi := _) (v := ?_) rfl (by kernel_rfl) (by kernel_rfl) (by kernel_rfl) (fun _ _ _ h => h) (Or.inl ⟨by rfl, ?_⟩) (by assumption) ?_
  rotate_left
  · (intro w' hSw; obtain ⟨z0, z1, z2, z3, z4⟩ := hSw; go_simp; try with_reducible rfl)
  (try simp only [List.getElem_toArray, List.getElem_cons_succ, List.getElem_cons_zero, Act.put, List.setIfInBounds_toArray, List.set_cons_zero, List.set_cons_succ])
  refine wpAnyH_take (i := 4) (oi := _) (v := ?_) rfl (by kernel_rfl) (by kernel_rfl) (by kernel_rfl) (fun _ _ _ h => h) (Or.inl ⟨by rfl, ?_⟩) (by assumption) ?_
  rotate_left
  · (intro w' hSw; obtain ⟨z0, z1, z2, z3, z4⟩ := hSw; go_simp; try with_reducible rfl)
  (try simp only [List.getElem_toArray, List.getElem_cons_succ, List.getElem_cons_zero, Act.put, List.setIfInBounds_toArray, List.set_cons_zero, List.set_cons_succ])
  refine wpAnyH_take (i := 5) (oi := _) (v := ?_) rfl (by kernel_rfl) (by kernel_rfl) (by kernel_rfl) (fun _ _ _ h => h) (Or.inl ⟨by rfl, ?_⟩) (by assumption) ?_
  rotate_left
  · (intro w' hSw; obtain ⟨z0, z1, z2, z3, z4⟩ := hSw; go_simp; try with_reducible rfl)
  (try simp only [List.getElem_toArray, List.getElem_cons_succ, List.getElem_cons_zero, Act.put, List.setIfInBounds_toArray, List.set_cons_zero, List.set_cons_succ])
  refine wpAnyH_ready (rs := [6]) (by kernel_rfl) (by simp) ?_
  refine AllReadyH.cons (o := _) rfl (fun K hK => ?_) AllReadyH.nil
  obtain ⟨f0, f1, f2, f3⟩ := st_free G1.out
  obtain ⟨k0, k1, k2, k3⟩ := st_cells G1.out
  have HF := mkHid ((Fr.refl [w.heap.size + 1] y0).four (g := w.heap.size + 1) (by simp) (.slice ac m.code.length cc) (.int .i64 m.next) (.slice av vs.length cv) (.slice (some ⟨b6, o6, none⟩) rs.length cr))
  have G2 := mkHid (st_all G1.out (.slice ac m.code.length cc) (.int .i64 m.next) (.slice av vs.length cv) (.slice (some ⟨b6, o6, none⟩) rs.length cr))
  have HL := mkHid (below_four HBY.out (g := w.heap.size + 1) (by omega) (.slice ac m.code.length cc) (.int .i64 m.next) (.slice av vs.length cv) (.slice (some ⟨b6, o6, none⟩) rs.length cr))
  go_simp
  try dsimp only
  refine hK.out _ _ (HS.out _ HF.out) (fun hSz => ?_)
  clear hK K f0 f1 f2 f3 k0 k1 k2 k3
  (try simp only [List.getElem_toArray, List.getElem_cons_succ, List.getElem_cons_zero, Act.put, List.setIfInBounds_toArray, List.set_cons_zero, List.set_cons_succ])
  refine wpAnyH_take (i := 7) (oi := _) (v := ?_) rfl (by kernel_rfl) (by kernel_rfl) (by kernel_rfl) (fun _ _ _ h => h) (Or.inl ⟨by rfl, ?_⟩) (by assumption) ?_
  rotate_left
  · (intro w' hSw; obtain ⟨z0, z1, z2, z3, z4⟩ := hSw; go_simp; try with_reducible rfl)
  (try simp only [List.getElem_toArray, List.getElem_cons_succ, List.getElem_cons_zero, Act.put, List.setIfInBounds_toArray, List.set_cons_zero, List.set_cons_succ])
  refine wpAnyH_take (i := 8) (oi := _) (v := ?_) rfl (by kernel_rfl) (by kernel_rfl) (by kernel_rfl) (fun _ _ _ h => h) (Or.inl ⟨by rfl, ?_⟩) (by assumption) ?_
  rotate_left
  · (intro w' hSw; obtain ⟨z0, z1, z2, z3, z4⟩ := hSw; go_simp; try with_reducible rfl)
  (try simp only [List.getElem_toArray, List.getElem_cons_succ, List.getElem_cons_zero, Act.put, List.setIfInBounds_toArray, List.set_cons_zero, List.set_cons_succ])
  refine wpAnyH_done (by kernel_rfl) (NoPanic.normal ?_) _
  obtain ⟨k0, k1, k2, k3⟩ := st_cells G2.out
  clear HS hSz HF hSd
  go_wp2_with fail
  refine bodyPost_ret (v := .tuple #[.agg #[.slice ac m.code.length cc, .int .i64 m.next, .slice av vs.length cv, .slice (some ⟨b6, o6, none⟩) rs.length cr], .int .i64 r, .bool false]) (by simp [results, Try.results151, go_sem, *]) rfl ⟨r, HAT.out, HT12.out, rfl, ?_⟩
  exact HL.out
set_option maxRecDepth 100000 in
set_option maxHeartbeats 25600000 in
theorem register_no (us : List Nat) (w : World) (ac : Option Addr) (cc : Nat) (av : Option Addr) (cv : Nat) (ar : Option Addr) (cr : Nat) (m : MkS) (vs rs : List Int) (v : Int) (hv1 : -9223372036854775808 ≤ v) (hv2 : v ≤ 9223372036854775807) (hu : ∀ k ∈ us, k < w.heap.size) (hs : StR us w ac cc av cv ar cr m vs rs) (hn0 : 0 ≤ m.next) (hn1 : m.next ≤ 100000) (hlen : vs.length = rs.length) (hv : v ∉ vs) (hl : vs.length ≤ 100000) :
    Calls Try.prog 151 #[.agg #[.slice ac m.code.length cc, .int .i64 m.next, .slice av vs.length cv, .slice ar rs.length cr], .int .i64 v] w fun e w' => ∃ a2 c2 a3 c3, e = .returned (.tuple #[.agg #[.slice ac m.code.length cc, .int .i64 (m.next + 1), .slice a2 (vs.length + 1) c2, .slice a3 (rs.length + 1) c3], .int .i64 m.next, .bool true]) ∧ Row (veil us w') a2 c2 (vs ++ [v]) ∧ Row (veil us w') a3 c3 (rs ++ [m.next]) ∧ Below w.heap.size w w' := by
  have hp : placeI vs v = -1 := by unfold placeI; rw [if_neg hv]
  have HSV := mkHid hs.v
  have HSR := mkHid hs.r
  have hl2 : rs.length ≤ 100000 := by omega
  clear hs hv hlen
  obtain ⟨W, hW⟩ : ∃ W, (w.alloc (.cells #[.slice ac m.code.length cc, .int .i64 m.next, .slice av vs.length cv, .slice ar rs.length cr] 104)).alloc (.cells #[.slice none 0 0, .int .i64 0, .slice none 0 0, .slice none 0 0] 104) = W := ⟨_, rfl⟩
  have hb0 : Below w.heap.size w W := by rw [← hW]; exact ((Below.refl _ _).new _).new _
  have hs1 : (w.alloc (.cells #[.slice ac m.code.length cc, .int .i64 m.next, .slice av vs.length cv, .slice ar rs.length cr] 104)).heap.size = w.heap.size + 1 := by simp
  have HK0 : Hid (W.heap[w.heap.size]? = some (.cells #[.slice ac m.code.length cc, .int .i64 m.next, .slice av vs.length cv, .slice ar rs.length cr] 104 (0, 0))) := by
    rw [Hid, ← hW]
    exact (heap_alloc_old _ _ (by simp)).trans (heap_alloc_new _ _)
  have HK1 : Hid (W.heap[w.heap.size + 1]? = some (.cells #[.slice none 0 0, .int .i64 0, .slice none 0 0, .slice none 0 0] 104 (0, 0))) := by
    rw [Hid, ← hW, ← hs1]
    exact heap_alloc_new _ _
  have HZ : Hid (W.heap.size = w.heap.size + 2) := by rw [Hid, ← hW]; simp
  have HB := mkHid hb0
  obtain ⟨us2, hus2⟩ : ∃ us2, [w.heap.size, w.heap.size + 1] ++ us = us2 := ⟨_, rfl⟩
  have HU2 : Hid (∀ X : World, w.heap.size + 2 ≤ X.heap.size → ∀ k ∈ us2, k < X.heap.size) := by
    rw [Hid, ← hus2]
    intro X hX k hk
    rcases List.mem_append.1 hk with h | h
    · simp at h; omega
    · have := hu k h; omega
  have HIN : Hid (∀ k ∈ us2, k ∈ us ∨ w.heap.size ≤ k) := by
    rw [Hid, ← hus2]
    intro k hk
    rcases List.mem_append.1 hk with h | h
    · simp at h; right; omega
    · exact .inl h
  have HM2 : Hid (∀ k ∈ us, k ∈ us2) := by
    rw [Hid, ← hus2]
    exact fun k hk => List.mem_append_right _ hk
  have H02 : Hid (w.heap.size ∈ us2 ∧ w.heap.size + 1 ∈ us2) := by rw [Hid, ← hus2]; exact ⟨by simp, by simp⟩
  have HVW := mkHid ((HSV.out.keeps (veil_keeps us w)).below hb0)
  clear hb0 hs1 hus2
  obtain ⟨l0, l1, l2, l3⟩ := st_cells HK0.out
  go_enter Try.func151, Try.ntmps151
  go_wp2_with fail
  first | rw [hW] | skip
  clear l0 l1 l2 l3
  clear hW
  refine (refplace_any av cv v W vs HVW.out).mono ?_
  rintro e w1 ⟨rfl, hb1⟩
  rw [hp]
  have HB1 := mkHid (HB.out.then hb1)
  have g0 := mkHid ((hb1.block w.heap.size (by have := HZ.out; omega)).trans HK0.out)
  have g1 := mkHid ((hb1.block (w.heap.size + 1) (by have := HZ.out; omega)).trans HK1.out)
  have HZ1 : Hid (w.heap.size + 2 ≤ w1.heap.size) := by have := HZ.out; have := hb1.size; rw [Hid]; omega
  clear hb1 HK0 HK1 HB HVW HZ hp
  obtain ⟨v1, w2, a2, c2, w3, hrun1, hrun2, hr2, hc1, hc2⟩ := three_c (α := Int) (us := us2) (cs := #[.int .i64 v]) (y := v) Try.underlying41 Try.infoInt (by decide) (by decide) (HU2.out w1 HZ1.out) (HSV.out.keeps (veil_toR (Fr.of HB1.out) HIN.out)) (int_cR v hv1 hv2) (by omega) vs.length rfl
  have G0 := mkHid ((hc2.block w.heap.size (by have := HZ1.out; omega)).trans g0.out)
  have G1 := mkHid ((hc2.block (w.heap.size + 1) (by have := HZ1.out; omega)).trans g1.out)
  have l2 := keep (st_cells g0.out).2.2.1 ((Below.refl w1.heap.size w1).new (.cells #[] 3))
  obtain ⟨k0, k1, k2, k3⟩ := st_cells G0.out
  obtain ⟨f0, f1, f2, f3⟩ := st_free G0.out
  have HB3 := mkHid (HB1.out.then hc2)
  have HZ3 : Hid (w.heap.size + 2 ≤ w3.heap.size) := by have := HZ1.out; have := hc2.size; rw [Hid]; omega
  have HR2 := mkHid hr2
  clear hr2 hc1 hc2
  go_wp2_with (at_builtin; first | (refine wpList_run rfl _ _ 41 rfl (by rfl) (by rfl) hrun1 ?_; clear hrun1) | (refine wpList_run rfl _ _ 41 rfl (by rfl) (by rfl) hrun2 ?_; clear hrun2))
  have G0b := mkHid (st2_set G0.out (.slice a2 (vs.length + 1) c2))
  have G1b := mkHid ((Below.heap_setCell w3 ⟨w.heap.size, 2, none⟩ (.slice a2 (vs.length + 1) c2) (w.heap.size + 1) (by show w.heap.size + 1 ≠ w.heap.size; omega)).trans G1.out)
  have HBb := mkHid (HB3.out.setCell (p := ⟨w.heap.size, 2, none⟩) (Nat.le_refl _) (.slice a2 (vs.length + 1) c2))
  have HRb : Hid (Row (veil us2 (w3.setCell ⟨w.heap.size, 2, none⟩ (.slice a2 (vs.length + 1) c2))) a2 c2 (vs ++ [v])) := HR2.out.keeps ((Fr.refl us2 w3).set H02.out.1 _).keeps
  have HZb : Hid (w.heap.size + 2 ≤ (w3.setCell ⟨w.heap.size, 2, none⟩ (.slice a2 (vs.length + 1) c2)).heap.size) := by rw [Hid, World.size_setCell]; exact HZ3.out
  generalize w3.setCell ⟨w.heap.size, 2, none⟩ (.slice a2 (vs.length + 1) c2) = w4 at *
  clear g0 g1 G0 G1 l2 k0 k1 k2 k3 f0 f1 f2 f3 HB1 HB3 HR2 HZ1 HZ3
  go_wp2_with fail
  refine wp_region_noPanic ?_
  obtain ⟨y0, hv0⟩ : ∃ X, w4.drew = X := ⟨_, rfl⟩
  have hbd : Below w4.heap.size w4 y0 := by rw [← hv0]; exact (Below.refl _ _).drew
  have HBY := mkHid (HBb.out.then hbd)
  have G0 := mkHid ((hbd.block w.heap.size (by have := HZb.out; omega)).trans G0b.out)
  have G1 := mkHid ((hbd.block (w.heap.size + 1) (by have := HZb.out; omega)).trans G1b.out)
  have HYZ : Hid (w.heap.size + 2 ≤ y0.heap.size) := by have := HZb.out; have := hbd.size; rw [Hid]; omega
  have HRy : Hid (Row (veil us2 y0) a2 c2 (vs ++ [v])) := HRb.out.keeps (veil_toR (Fr.of hbd) fun k hk => .inl hk)
  have HC2 : Hid (Row (veil us2 y0) ar cr rs) := HSR.out.keeps (veil_toR (Fr.of HBY.out) HIN.out)
  have C0 : Hid (y0.cell? ⟨w.heap.size, 3, none⟩ = some (.slice ar rs.length cr)) := (st_cells G0.out).2.2.2
  have C1 : Hid (y0.cell? ⟨w.heap.size, 1, none⟩ = some (.int .i64 m.next)) := (st_cells G0.out).2.1
  have HS : Hid (∀ X, Fr [] y0 X → (fun X : World => X.cell? ⟨w.heap.size, 1, none⟩ = some (.int .i64 m.next) ∧ X.cell? ⟨w.heap.size, 1, none⟩ = some (.int .i64 m.next)) X) := fun X h => by
    have key : X.cell? ⟨w.heap.size, 1, none⟩ = some (.int .i64 m.next) :=
      (World.cell?_of_block (w := y0) (a := ⟨w.heap.size, 1, none⟩) (h.block _ (by have := HYZ.out; show w.heap.size < _; omega) (by simp))).trans C1.out
    exact ⟨key, key⟩
  refine wp_region_held_drew (S := fun X : World => X.cell? ⟨w.heap.size, 1, none⟩ = some (.int .i64 m.next) ∧ X.cell? ⟨w.heap.size, 1, none⟩ = some (.int .i64 m.next)) (by kernel_rfl) (by rw [hv0]; exact HS.out _ (Fr.refl _ _)) (fun hSd => ?_)
  rw [hv0] at hSd ⊢
  have HB0 := mkHid (Below.refl y0.heap.size y0)
  have hnr1 : -9223372036854775808 ≤ m.next := by omega
  have hnr2 : m.next ≤ 9223372036854775807 := by omega
  clear hv0 hbd G0b G1b HBb HRb HZb
  refine wpAnyH_take (i := 1) (oi := _) (v := ?_) rfl (by kernel_rfl) (by kernel_rfl) (by kernel_rfl) (fun _ _ _ h => h) (Or.inl ⟨by rfl, ?_⟩) (by assumption) ?_
  rotate_left
  · (intro w' hSw; obtain ⟨z0, z1⟩ := hSw; go_simp; try with_reducible rfl)
  (try simp only [List.getElem_toArray, List.getElem_cons_succ, List.getElem_cons_zero, Act.put, List.setIfInBounds_toArray, List.set_cons_zero, List.set_cons_succ])
  refine wpAnyH_take (i := 4) (oi := _) (v := ?_) rfl (by kernel_rfl) (by kernel_rfl) (by kernel_rfl) (fun _ _ _ h => h) (Or.inl ⟨by rfl, ?_⟩) (by assumption) ?_
  rotate_left
  · (intro w' hSw; obtain ⟨z0, z1⟩ := hSw; go_simp; try with_reducible rfl)
  (try simp only [List.getElem_toArray, List.getElem_cons_succ, List.getElem_cons_zero, Act.put, List.setIfInBounds_toArray, List.set_cons_zero, List.set_cons_succ])
  refine wpAnyH_take (i := 5) (oi := _) (v := ?_) rfl (by kernel_rfl) (by kernel_rfl) (by kernel_rfl) (fun _ _ _ h => h) (Or.inl ⟨by rfl, ?_⟩) (by assumption) ?_
  rotate_left
  · (intro w' hSw; obtain ⟨z0, z1⟩ := hSw; go_simp; try with_reducible rfl)
  (try simp only [List.getElem_toArray, List.getElem_cons_succ, List.getElem_cons_zero, Act.put, List.setIfInBounds_toArray, List.set_cons_zero, List.set_cons_succ])
  refine wpAnyH_ready (rs := [0, 2, 6]) (by kernel_rfl) (by simp) ?_
  refine AllReadyH.cons (o := _) rfl (fun K hK => ?_) ?_
  · go_simp
    have HB1 := mkHid (HB0.out.then ((Below.refl _ _).new (.cells #[] 3)))
    try dsimp only
    refine hK.out _ _ (HS.out _ (Fr.of HB1.out)) (fun hS1 => ?_)
    clear hK K
    (try simp only [List.getElem_toArray, List.getElem_cons_succ, List.getElem_cons_zero, Act.put, List.setIfInBounds_toArray, List.set_cons_zero, List.set_cons_succ])
    refine wpAnyH_ready (rs := [2, 6]) (by kernel_rfl) (by simp) ?_
    refine AllReadyH.cons (o := _) rfl (fun K hK => ?_) ?_
    · have tl := keep C0.out HB1.out
      go_simp
      have HB2 := HB1
      clear tl
      try dsimp only
      refine hK.out _ _ (HS.out _ (Fr.of HB2.out)) (fun hS2 => ?_)
      clear hK K
      (try simp only [List.getElem_toArray, List.getElem_cons_succ, List.getElem_cons_zero, Act.put, List.setIfInBounds_toArray, List.set_cons_zero, List.set_cons_succ])
      refine wpAnyH_ready (rs := [3, 6]) (by kernel_rfl) (by simp) ?_
      refine AllReadyH.cons (o := _) rfl (fun K hK => ?_) ?_
      · obtain ⟨v1, w1, a3, c3, w2, hrun1, hrun2, hr2, hc1, hc2⟩ := three_c (α := Int) (us := us2) (cs := #[.int .i64 m.next]) (y := m.next) Try.underlying41 Try.infoInt (by decide) (by decide) (HU2.out y0 HYZ.out) HC2.out (int_cR m.next hnr1 hnr2) (by omega) rs.length rfl
        have HB3 := mkHid hc1
        have HW2 := mkHid hc2
        have HR2 := mkHid hr2
        clear hc1 hc2 hr2
        (rw [if_pos (by rfl)]; simp [Oper.wp, execOp, resolve, invoke, builtin, Oper.upon, Act.eval, hrun1, Result.andThen, Sem.run_bind])
        try dsimp only
        refine hK.out _ _ (HS.out _ (Fr.of HB3.out)) (fun hS3 => ?_)
        clear hK K
        (try simp only [List.getElem_toArray, List.getElem_cons_succ, List.getElem_cons_zero, Act.put, List.setIfInBounds_toArray, List.set_cons_zero, List.set_cons_succ])
        refine wpAnyH_ready (rs := [6]) (by kernel_rfl) (by simp) ?_
        refine AllReadyH.cons (o := _) rfl (fun K hK => ?_) AllReadyH.nil
        go_simp
        have HB4 := mkHid (HB3.out.trans ((Below.refl w1.heap.size w1).new (.cells #[.int .i64 m.next] 3) |>.mono HB3.out.size))
        try dsimp only
        refine hK.out _ _ (HS.out _ (Fr.of HB4.out)) (fun hS4 => ?_)
        clear hK K
        (try simp only [List.getElem_toArray, List.getElem_cons_succ, List.getElem_cons_zero, Act.put, List.setIfInBounds_toArray, List.set_cons_zero, List.set_cons_succ])
        refine wpAnyH_ready (rs := [7]) (by kernel_rfl) (by simp) ?_
        refine AllReadyH.cons (o := _) rfl (fun K hK => ?_) AllReadyH.nil
        have HB5 := HW2
        (rw [if_pos (by rfl)]; simp [Oper.wp, execOp, resolve, invoke, builtin, Oper.upon, Act.eval, hrun2, Result.andThen, Sem.run_bind])
        try dsimp only
        refine hK.out _ _ (HS.out _ (Fr.of HB5.out)) (fun hS5 => ?_)
        clear hK K
        (try simp only [List.getElem_toArray, List.getElem_cons_succ, List.getElem_cons_zero, Act.put, List.setIfInBounds_toArray, List.set_cons_zero, List.set_cons_succ])
        refine wpAnyH_take (i := 8) (oi := _) (v := ?_) rfl (by kernel_rfl) (by kernel_rfl) (by kernel_rfl) (fun _ _ _ h => h) (Or.inl ⟨by rfl, ?_⟩) (by assumption) ?_
        rotate_left
        · (intro w' hSw; obtain ⟨z0, z1⟩ := hSw; go_simp; try with_reducible rfl)
        (try simp only [List.getElem_toArray, List.getElem_cons_succ, List.getElem_cons_zero, Act.put, List.setIfInBounds_toArray, List.set_cons_zero, List.set_cons_succ])
        refine wpAnyH_ready (rs := [9]) (by kernel_rfl) (by simp) ?_
        refine AllReadyH.cons (o := _) rfl (fun K hK => ?_) AllReadyH.nil
        clear hrun1 hrun2
        have g0 := (HW2.out.block w.heap.size (by have := HYZ.out; omega)).trans G0.out
        have g1 := (HW2.out.block (w.heap.size + 1) (by have := HYZ.out; omega)).trans G1.out
        have tl : w2.cell? ⟨w.heap.size, 3, none⟩ = some (.slice ar rs.length cr) := (st_cells g0).2.2.2
        have tf : w2.frozen? ⟨w.heap.size, 3, none⟩ = false := (st_free g0).2.2.2
        have S0 := mkHid (st3_set g0 (.slice a3 (rs.length + 1) c3))
        have S1 := mkHid ((Below.heap_setCell w2 ⟨w.heap.size, 3, none⟩ (.slice a3 (rs.length + 1) c3) (w.heap.size + 1) (by show w.heap.size + 1 ≠ w.heap.size; omega)).trans g1)
        have HF2 := mkHid ((Fr.refl us2 w2).set (k := 3) H02.out.1 (.slice a3 (rs.length + 1) c3))
        have HF3 := mkHid ((Fr.of HW2.out : Fr us2 y0 w2).set (k := 3) H02.out.1 (.slice a3 (rs.length + 1) c3))
        have HL2 := mkHid ((HBY.out.trans (HW2.out.mono (by have := HYZ.out; omega))).setCell (p := ⟨w.heap.size, 3, none⟩) (Nat.le_refl _) (.slice a3 (rs.length + 1) c3))
        have HZ2 : Hid (w.heap.size + 2 ≤ (w2.setCell ⟨w.heap.size, 3, none⟩ (.slice a3 (rs.length + 1) c3)).heap.size) := by rw [Hid, World.size_setCell]; have := HW2.out.size; have := HYZ.out; omega
        clear g0 g1
        go_simp
        try dsimp only
        refine hK.out _ _ ⟨(st_cells S0.out).2.1, (st_cells S0.out).2.1⟩ (fun hSz => ?_)
        clear hK K tl tf
        (try simp only [List.getElem_toArray, List.getElem_cons_succ, List.getElem_cons_zero, Act.put, List.setIfInBounds_toArray, List.set_cons_zero, List.set_cons_succ])
        refine wpAnyH_done (by kernel_rfl) (NoPanic.normal ?_) _
        have HR3 : Hid (Row (veil us2 (w2.setCell ⟨w.heap.size, 3, none⟩ (.slice a3 (rs.length + 1) c3))) a3 c3 (rs ++ [m.next])) := HR2.out.keeps HF2.out.keeps
        have HR4 : Hid (Row (veil us2 (w2.setCell ⟨w.heap.size, 3, none⟩ (.slice a3 (rs.length + 1) c3))) a2 c2 (vs ++ [v])) := HRy.out.keeps HF3.out.keeps
        generalize w2.setCell ⟨w.heap.size, 3, none⟩ (.slice a3 (rs.length + 1) c3) = w5 at *
        clear HS hSz hSd HW2 HR2 HRy HF2 HF3 HBY G0 G1 HYZ HC2 C0 C1 HB0
        obtain ⟨l0, l1, l2, l3⟩ := st_cells S0.out
        obtain ⟨f0, f1, f2, f3⟩ := st_free S0.out
        go_wp2_with fail
        have T0 := mkHid (st1_set S0.out (.int .i64 (m.next + 1)))
        have T1 := mkHid ((Below.heap_setCell w5 ⟨w.heap.size, 1, none⟩ (.int .i64 (m.next + 1)) (w.heap.size + 1) (by show w.heap.size + 1 ≠ w.heap.size; omega)).trans S1.out)
        have HK := mkHid ((Fr.refl us2 w5).set (k := 1) H02.out.1 (.int .i64 (m.next + 1))).keeps
        have HL3 := mkHid (HL2.out.setCell (p := ⟨w.heap.size, 1, none⟩) (Nat.le_refl _) (.int .i64 (m.next + 1)))
        have HZ3 : Hid (w.heap.size + 2 ≤ (w5.setCell ⟨w.heap.size, 1, none⟩ (.int .i64 (m.next + 1))).heap.size) := by rw [Hid, World.size_setCell]; exact HZ2.out
        have HR5 := mkHid (HR3.out.keeps HK.out)
        have HR6 := mkHid (HR4.out.keeps HK.out)
        generalize w5.setCell ⟨w.heap.size, 1, none⟩ (.int .i64 (m.next + 1)) = w6 at *
        clear S0 S1 l0 l1 l2 l3 f0 f1 f2 f3 HK HL2 HZ2 HR3 HR4
        refine wp_region_noPanic ?_
        obtain ⟨y1, hv1⟩ : ∃ X, w6.drew = X := ⟨_, rfl⟩
        have hbd : Below w6.heap.size w6 y1 := by rw [← hv1]; exact (Below.refl _ _).drew
        have HBY := mkHid (HL3.out.then hbd)
        have G0 := mkHid ((hbd.block w.heap.size (by have := HZ3.out; omega)).trans T0.out)
        have G1 := mkHid ((hbd.block (w.heap.size + 1) (by have := HZ3.out; omega)).trans T1.out)
        have HR7 : Hid (Row (veil us2 y1) a3 c3 (rs ++ [m.next])) := HR5.out.keeps (veil_toR (Fr.of hbd) fun k hk => .inl hk)
        have HR8 : Hid (Row (veil us2 y1) a2 c2 (vs ++ [v])) := HR6.out.keeps (veil_toR (Fr.of hbd) fun k hk => .inl hk)
        have HYZ : Hid (w.heap.size + 2 ≤ y1.heap.size) := by have := HZ3.out; have := hbd.size; rw [Hid]; omega
        have HS : Hid (∀ X, Fr [w.heap.size + 1] y1 X → (fun X : World => X.cell? ⟨w.heap.size, 0, none⟩ = some (.slice ac m.code.length cc) ∧ X.cell? ⟨w.heap.size, 1, none⟩ = some (.int .i64 (m.next + 1)) ∧ X.cell? ⟨w.heap.size, 2, none⟩ = some (.slice a2 (vs.length + 1) c2) ∧ X.cell? ⟨w.heap.size, 3, none⟩ = some (.slice a3 (rs.length + 1) c3)) X) := fun X h => by
          have hx := (h.block w.heap.size (by have := HYZ.out; omega) (by simp)).trans G0.out
          exact st_cells hx
        refine wp_region_held_drew (S := fun X : World => X.cell? ⟨w.heap.size, 0, none⟩ = some (.slice ac m.code.length cc) ∧ X.cell? ⟨w.heap.size, 1, none⟩ = some (.int .i64 (m.next + 1)) ∧ X.cell? ⟨w.heap.size, 2, none⟩ = some (.slice a2 (vs.length + 1) c2) ∧ X.cell? ⟨w.heap.size, 3, none⟩ = some (.slice a3 (rs.length + 1) c3)) (by kernel_rfl) (by rw [hv1]; exact HS.out _ (Fr.refl _ _)) (fun hSd => ?_)
        rw [hv1] at hSd ⊢
        clear hv1 hbd T0 T1 HL3 HZ3 HR5 HR6
        refine wpAnyH_take (i := 0) (oi := _) (v := ?_) rfl (by kernel_rfl) (by kernel_rfl) (by kernel_rfl) (fun _ _ _ h => h) (Or.inl ⟨by rfl, ?_⟩) (by assumption) ?_
        rotate_left
        · (intro w' hSw; obtain ⟨z0, z1, z2, z3⟩ := hSw; go_simp; try with_reducible rfl)
        (try simp only [List.getElem_toArray, List.getElem_cons_succ, List.getElem_cons_zero, Act.put, List.setIfInBounds_toArray, List.set_cons_zero, List.set_cons_succ])
        refine wpAnyH_take (i := 1) (oi := _) (v := ?_) rfl (by kernel_rfl) (by kernel_rfl) (by kernel_rfl) (fun _ _ _ h => h) (Or.inl ⟨by rfl, ?_⟩) (by assumption) ?_
        rotate_left
        · (intro w' hSw; obtain ⟨z0, z1, z2, z3⟩ := hSw; go_simp; try with_reducible rfl)
        (try simp only [List.getElem_toArray, List.getElem_cons_succ, List.getElem_cons_zero, Act.put, List.setIfInBounds_toArray, List.set_cons_zero, List.set_cons_succ])
        refine wpAnyH_take (i := 2) (oi := _) (v := ?_) rfl (by kernel_rfl) (by kernel_rfl) (by kernel_rfl) (fun _ _ _ h => h) (Or.inl ⟨by rfl, ?_⟩) (by assumption) ?_
        rotate_left
        · (intro w' hSw; obtain ⟨z0, z1, z2, z3⟩ := hSw; go_simp; try with_reducible rfl)
        (try simp only [List.getElem_toArray, List.getElem_cons_succ, List.getElem_cons_zero, Act.put, List.setIfInBounds_toArray, List.set_cons_zero, List.set_cons_succ])
        refine wpAnyH_take (i := 3) (oi := _) (v := ?_) rfl (by kernel_rfl) (by kernel_rfl) (by kernel_rfl) (fun _ _ _ h => h) (Or.inl ⟨by rfl, ?_⟩) (by assumption) ?_
        rotate_left
        · (intro w' hSw; obtain ⟨z0, z1, z2, z3⟩ := hSw; go_simp; try with_reducible rfl)
        (try simp only [List.getElem_toArray, List.getElem_cons_succ, List.getElem_cons_zero, Act.put, List.setIfInBounds_toArray, List.set_cons_zero, List.set_cons_succ])
        refine wpAnyH_ready (rs := [4]) (by kernel_rfl) (by simp) ?_
        refine AllReadyH.cons (o := _) rfl (fun K hK => ?_) AllReadyH.nil
        obtain ⟨f0, f1, f2, f3⟩ := st_free G1.out
        obtain ⟨k0, k1, k2, k3⟩ := st_cells G1.out
        have HF := mkHid ((Fr.refl [w.heap.size + 1] y1).four (g := w.heap.size + 1) (by simp) (.slice ac m.code.length cc) (.int .i64 (m.next + 1)) (.slice a2 (vs.length + 1) c2) (.slice a3 (rs.length + 1) c3))
        have G2 := mkHid (st_all G1.out (.slice ac m.code.length cc) (.int .i64 (m.next + 1)) (.slice a2 (vs.length + 1) c2) (.slice a3 (rs.length + 1) c3))
        have HL := mkHid (below_four HBY.out (g := w.heap.size + 1) (by omega) (.slice ac m.code.length cc) (.int .i64 (m.next + 1)) (.slice a2 (vs.length + 1) c2) (.slice a3 (rs.length + 1) c3))
        have HKK := mkHid ((Fr.refl us2 y1).four H02.out.2 (.slice ac m.code.length cc) (.int .i64 (m.next + 1)) (.slice a2 (vs.length + 1) c2) (.slice a3 (rs.length + 1) c3)).keeps
        go_simp
        try dsimp only
        refine hK.out _ _ (HS.out _ HF.out) (fun hSz => ?_)
        clear hK K f0 f1 f2 f3 k0 k1 k2 k3
        (try simp only [List.getElem_toArray, List.getElem_cons_succ, List.getElem_cons_zero, Act.put, List.setIfInBounds_toArray, List.set_cons_zero, List.set_cons_succ])
        refine wpAnyH_take (i := 5) (oi := _) (v := ?_) rfl (by kernel_rfl) (by kernel_rfl) (by kernel_rfl) (fun _ _ _ h => h) (Or.inl ⟨by rfl, ?_⟩) (by assumption) ?_
        rotate_left
        · (intro w' hSw; obtain ⟨z0, z1, z2, z3⟩ := hSw; go_simp; try with_reducible rfl)
        (try simp only [List.getElem_toArray, List.getElem_cons_succ, List.getElem_cons_zero, Act.put, List.setIfInBounds_toArray, List.set_cons_zero, List.set_cons_succ])
        refine wpAnyH_take (i := 6) (oi := _) (v := ?_) rfl (by kernel_rfl) (by kernel_rfl) (by kernel_rfl) (fun _ _ _ h => h) (Or.inl ⟨by rfl, ?_⟩) (by assumption) ?_
        rotate_left
        · (intro w' hSw; obtain ⟨z0, z1, z2, z3⟩ := hSw; go_simp; try with_reducible rfl)
        (try simp only [List.getElem_toArray, List.getElem_cons_succ, List.getElem_cons_zero, Act.put, List.setIfInBounds_toArray, List.set_cons_zero, List.set_cons_succ])
        refine wpAnyH_done (by kernel_rfl) (NoPanic.normal ?_) _
        obtain ⟨k0, k1, k2, k3⟩ := st_cells G2.out
        have HE1 := mkHid (HR8.out.keeps (HKK.out.trans (veil_mono _ HM2.out)))
        have HE2 := mkHid (HR7.out.keeps (HKK.out.trans (veil_mono _ HM2.out)))
        clear HS hSz HF hSd G0 G1 G2 HR7 HR8 HKK
        go_wp2_with fail
        have hwn : IntKind.i64.wrap m.next = m.next := IntWalk.i64_in _ (by omega)
        refine bodyPost_ret (v := .tuple #[.agg #[.slice ac m.code.length cc, .int .i64 (m.next + 1), .slice a2 (vs.length + 1) c2, .slice a3 (rs.length + 1) c3], .int .i64 m.next, .bool true]) (by simp [results, Try.results151, go_sem, *]) rfl ⟨a2, c2, a3, c3, rfl, ?_, ?_, ?_⟩
        · exact HE1.out
        · exact HE2.out
        · exact HL.out
      refine AllReadyH.cons (o := _) rfl (fun K hK => ?_) AllReadyH.nil
      go_simp
      have HB3 := mkHid (HB2.out.then ((Below.refl _ _).new (.cells #[.int .i64 m.next] 3)))
      try dsimp only
      refine hK.out _ _ (HS.out _ (Fr.of HB3.out)) (fun hS3 => ?_)
      clear hK K
      (try simp only [List.getElem_toArray, List.getElem_cons_succ, List.getElem_cons_zero, Act.put, List.setIfInBounds_toArray, List.set_cons_zero, List.set_cons_succ])
      refine wpAnyH_ready (rs := [3]) (by kernel_rfl) (by simp) ?_
      refine AllReadyH.cons (o := _) rfl (fun K hK => ?_) AllReadyH.nil
      obtain ⟨v1, w1, a3, c3, w2, hrun1, hrun2, hr2, hc1, hc2⟩ := three_b (α := Int) (us := us2) (cs := #[.int .i64 m.next]) (y := m.next) Try.underlying41 Try.infoInt (by decide) (by decide) (HU2.out y0 HYZ.out) HC2.out (int_cR m.next hnr1 hnr2) (by omega) rs.length rfl
      have HB4 := mkHid hc1
      have HW2 := mkHid hc2
      have HR2 := mkHid hr2
      clear hc1 hc2 hr2
      (rw [if_pos (by rfl)]; simp [Oper.wp, execOp, resolve, invoke, builtin, Oper.upon, Act.eval, hrun1, Result.andThen, Sem.run_bind])
      try dsimp only
      refine hK.out _ _ (HS.out _ (Fr.of HB4.out)) (fun hS4 => ?_)
      clear hK K
      (try simp only [List.getElem_toArray, List.getElem_cons_succ, List.getElem_cons_zero, Act.put, List.setIfInBounds_toArray, List.set_cons_zero, List.set_cons_succ])
      refine wpAnyH_ready (rs := [7]) (by kernel_rfl) (by simp) ?_
      refine AllReadyH.cons (o := _) rfl (fun K hK => ?_) AllReadyH.nil
      have HB5 := HW2
      (rw [if_pos (by rfl)]; simp [Oper.wp, execOp, resolve, invoke, builtin, Oper.upon, Act.eval, hrun2, Result.andThen, Sem.run_bind])
      try dsimp only
      refine hK.out _ _ (HS.out _ (Fr.of HB5.out)) (fun hS5 => ?_)
      clear hK K
      (try simp only [List.getElem_toArray, List.getElem_cons_succ, List.getElem_cons_zero, Act.put, List.setIfInBounds_toArray, List.set_cons_zero, List.set_cons_succ])
      refine wpAnyH_take (i := 8) (oi := _) (v := ?_) rfl (by kernel_rfl) (by kernel_rfl) (by kernel_rfl) (fun _ _ _ h => h) (Or.inl ⟨by rfl, ?_⟩) (by assumption) ?_
      rotate_left
      · (intro w' hSw; obtain ⟨z0, z1⟩ := hSw; go_simp; try with_reducible rfl)
      (try simp only [List.getElem_toArray, List.getElem_cons_succ, List.getElem_cons_zero, Act.put, List.setIfInBounds_toArray, List.set_cons_zero, List.set_cons_succ])
      refine wpAnyH_ready (rs := [9]) (by kernel_rfl) (by simp) ?_
      refine AllReadyH.cons (o := _) rfl (fun K hK => ?_) AllReadyH.nil
      clear hrun1 hrun2
      have g0 := (HW2.out.block w.heap.size (by have := HYZ.out; omega)).trans G0.out
      have g1 := (HW2.out.block (w.heap.size + 1) (by have := HYZ.out; omega)).trans G1.out
      have tl : w2.cell? ⟨w.heap.size, 3, none⟩ = some (.slice ar rs.length cr) := (st_cells g0).2.2.2
      have tf : w2.frozen? ⟨w.heap.size, 3, none⟩ = false := (st_free g0).2.2.2
      have S0 := mkHid (st3_set g0 (.slice a3 (rs.length + 1) c3))
      have S1 := mkHid ((Below.heap_setCell w2 ⟨w.heap.size, 3, none⟩ (.slice a3 (rs.length + 1) c3) (w.heap.size + 1) (by show w.heap.size + 1 ≠ w.heap.size; omega)).trans g1)
      have HF2 := mkHid ((Fr.refl us2 w2).set (k := 3) H02.out.1 (.slice a3 (rs.length + 1) c3))
      have HF3 := mkHid ((Fr.of HW2.out : Fr us2 y0 w2).set (k := 3) H02.out.1 (.slice a3 (rs.length + 1) c3))
      have HL2 := mkHid ((HBY.out.trans (HW2.out.mono (by have := HYZ.out; omega))).setCell (p := ⟨w.heap.size, 3, none⟩) (Nat.le_refl _) (.slice a3 (rs.length + 1) c3))
      have HZ2 : Hid (w.heap.size + 2 ≤ (w2.setCell ⟨w.heap.size, 3, none⟩ (.slice a3 (rs.length + 1) c3)).heap.size) := by rw [Hid, World.size_setCell]; have := HW2.out.size; have := HYZ.out; omega
      clear g0 g1
      go_simp
      try dsimp only
      refine hK.out _ _ ⟨(st_cells S0.out).2.1, (st_cells S0.out).2.1⟩ (fun hSz => ?_)
      clear hK K tl tf
      (try simp only [List.getElem_toArray, List.getElem_cons_succ, List.getElem_cons_zero, Act.put, List.setIfInBounds_toArray, List.set_cons_zero, List.set_cons_succ])
      refine wpAnyH_done (by kernel_rfl) (NoPanic.normal ?_) _
      have HR3 : Hid (Row (veil us2 (w2.setCell ⟨w.heap.size, 3, none⟩ (.slice a3 (rs.length + 1) c3))) a3 c3 (rs ++ [m.next])) := HR2.out.keeps HF2.out.keeps
      have HR4 : Hid (Row (veil us2 (w2.setCell ⟨w.heap.size, 3, none⟩ (.slice a3 (rs.length + 1) c3))) a2 c2 (vs ++ [v])) := HRy.out.keeps HF3.out.keeps
      generalize w2.setCell ⟨w.heap.size, 3, none⟩ (.slice a3 (rs.length + 1) c3) = w5 at *
      clear HS hSz hSd HW2 HR2 HRy HF2 HF3 HBY G0 G1 HYZ HC2 C0 C1 HB0
      obtain ⟨l0, l1, l2, l3⟩ := st_cells S0.out
      obtain ⟨f0, f1, f2, f3⟩ := st_free S0.out
      go_wp2_with fail
      have T0 := mkHid (st1_set S0.out (.int .i64 (m.next + 1)))
      have T1 := mkHid ((Below.heap_setCell w5 ⟨w.heap.size, 1, none⟩ (.int .i64 (m.next + 1)) (w.heap.size + 1) (by show w.heap.size + 1 ≠ w.heap.size; omega)).trans S1.out)
      have HK := mkHid ((Fr.refl us2 w5).set (k := 1) H02.out.1 (.int .i64 (m.next + 1))).keeps
      have HL3 := mkHid (HL2.out.setCell (p := ⟨w.heap.size, 1, none⟩) (Nat.le_refl _) (.int .i64 (m.next + 1)))
      have HZ3 : Hid (w.heap.size + 2 ≤ (w5.setCell ⟨w.heap.size, 1, none⟩ (.int .i64 (m.next + 1))).heap.size) := by rw [Hid, World.size_setCell]; exact HZ2.out
      have HR5 := mkHid (HR3.out.keeps HK.out)
      have HR6 := mkHid (HR4.out.keeps HK.out)
      generalize w5.setCell ⟨w.heap.size, 1, none⟩ (.int .i64 (m.next + 1)) = w6 at *
      clear S0 S1 l0 l1 l2 l3 f0 f1 f2 f3 HK HL2 HZ2 HR3 HR4
      refine wp_region_noPanic ?_
      obtain ⟨y1, hv1⟩ : ∃ X, w6.drew = X := ⟨_, rfl⟩
      have hbd : Below w6.heap.size w6 y1 := by rw [← hv1]; exact (Below.refl _ _).drew
      have HBY := mkHid (HL3.out.then hbd)
      have G0 := mkHid ((hbd.block w.heap.size (by have := HZ3.out; omega)).trans T0.out)
      have G1 := mkHid ((hbd.block (w.heap.size + 1) (by have := HZ3.out; omega)).trans T1.out)
      have HR7 : Hid (Row (veil us2 y1) a3 c3 (rs ++ [m.next])) := HR5.out.keeps (veil_toR (Fr.of hbd) fun k hk => .inl hk)
      have HR8 : Hid (Row (veil us2 y1) a2 c2 (vs ++ [v])) := HR6.out.keeps (veil_toR (Fr.of hbd) fun k hk => .inl hk)
      have HYZ : Hid (w.heap.size + 2 ≤ y1.heap.size) := by have := HZ3.out; have := hbd.size; rw [Hid]; omega
      have HS : Hid (∀ X, Fr [w.heap.size + 1] y1 X → (fun X : World => X.cell? ⟨w.heap.size, 0, none⟩ = some (.slice ac m.code.length cc) ∧ X.cell? ⟨w.heap.size, 1, none⟩ = some (.int .i64 (m.next + 1)) ∧ X.cell? ⟨w.heap.size, 2, none⟩ = some (.slice a2 (vs.length + 1) c2) ∧ X.cell? ⟨w.heap.size, 3, none⟩ = some (.slice a3 (rs.length + 1) c3)) X) := fun X h => by
        have hx := (h.block w.heap.size (by have := HYZ.out; omega) (by simp)).trans G0.out
        exact st_cells hx
      refine wp_region_held_drew (S := fun X : World => X.cell? ⟨w.heap.size, 0, none⟩ = some (.slice ac m.code.length cc) ∧ X.cell? ⟨w.heap.size, 1, none⟩ = some (.int .i64 (m.next + 1)) ∧ X.cell? ⟨w.heap.size, 2, none⟩ = some (.slice a2 (vs.length + 1) c2) ∧ X.cell? ⟨w.heap.size, 3, none⟩ = some (.slice a3 (rs.length + 1) c3)) (by kernel_rfl) (by rw [hv1]; exact HS.out _ (Fr.refl _ _)) (fun hSd => ?_)
      rw [hv1] at hSd ⊢
      clear hv1 hbd T0 T1 HL3 HZ3 HR5 HR6
      refine wpAnyH_take (i := 0) (oi := _) (v := ?_) rfl (by kernel_rfl) (by kernel_rfl) (by kernel_rfl) (fun _ _ _ h => h) (Or.inl ⟨by rfl, ?_⟩) (by assumption) ?_
      rotate_left
      · (intro w' hSw; obtain ⟨z0, z1, z2, z3⟩ := hSw; go_simp; try with_reducible rfl)
      (try simp only [List.getElem_toArray, List.getElem_cons_succ, List.getElem_cons_zero, Act.put, List.setIfInBounds_toArray, List.set_cons_zero, List.set_cons_succ])
      refine wpAnyH_take (i := 1) (oi := _) (v := ?_) rfl (by kernel_rfl) (by kernel_rfl) (by kernel_rfl) (fun _ _ _ h => h) (Or.inl ⟨by rfl, ?_⟩) (by assumption) ?_
      rotate_left
      · (intro w' hSw; obtain ⟨z0, z1, z2, z3⟩ := hSw; go_simp; try with_reducible rfl)
      (try simp only [List.getElem_toArray, List.getElem_cons_succ, List.getElem_cons_zero, Act.put, List.setIfInBounds_toArray, List.set_cons_zero, List.set_cons_succ])
      refine wpAnyH_take (i := 2) (oi := _) (v := ?_) rfl (by kernel_rfl) (by kernel_rfl) (by kernel_rfl) (fun _ _ _ h => h) (Or.inl ⟨by rfl, ?_⟩) (by assumption) ?_
      rotate_left
      · (intro w' hSw; obtain ⟨z0, z1, z2, z3⟩ := hSw; go_simp; try with_reducible rfl)
      (try simp only [List.getElem_toArray, List.getElem_cons_succ, List.getElem_cons_zero, Act.put, List.setIfInBounds_toArray, List.set_cons_zero, List.set_cons_succ])
      refine wpAnyH_take (i := 3) (oi := _) (v := ?_) rfl (by kernel_rfl) (by kernel_rfl) (by kernel_rfl) (fun _ _ _ h => h) (Or.inl ⟨by rfl, ?_⟩) (by assumption) ?_
      rotate_left
      · (intro w' hSw; obtain ⟨z0, z1, z2, z3⟩ := hSw; go_simp; try with_reducible rfl)
      (try simp only [List.getElem_toArray, List.getElem_cons_succ, List.getElem_cons_zero, Act.put, List.setIfInBounds_toArray, List.set_cons_zero, List.set_cons_succ])
      refine wpAnyH_ready (rs := [4]) (by kernel_rfl) (by simp) ?_
      refine AllReadyH.cons (o := _) rfl (fun K hK => ?_) AllReadyH.nil
      obtain ⟨f0, f1, f2, f3⟩ := st_free G1.out
      obtain ⟨k0, k1, k2, k3⟩ := st_cells G1.out
      have HF := mkHid ((Fr.refl [w.heap.size + 1] y1).four (g := w.heap.size + 1) (by simp) (.slice ac m.code.length cc) (.int .i64 (m.next + 1)) (.slice a2 (vs.length + 1) c2) (.slice a3 (rs.length + 1) c3))
      have G2 := mkHid (st_all G1.out (.slice ac m.code.length cc) (.int .i64 (m.next + 1)) (.slice a2 (vs.length + 1) c2) (.slice a3 (rs.length + 1) c3))
      have HL := mkHid (below_four HBY.out (g := w.heap.size + 1) (by omega) (.slice ac m.code.length cc) (.int .i64 (m.next + 1)) (.slice a2 (vs.length + 1) c2) (.slice a3 (rs.length + 1) c3))
      have HKK := mkHid ((Fr.refl us2 y1).four H02.out.2 (.slice ac m.code.length cc) (.int .i64 (m.next + 1)) (.slice a2 (vs.length + 1) c2) (.slice a3 (rs.length + 1) c3)).keeps
      go_simp
      try dsimp only
      refine hK.out _ _ (HS.out _ HF.out) (fun hSz => ?_)
      clear hK K f0 f1 f2 f3 k0 k1 k2 k3
      (try simp only [List.getElem_toArray, List.getElem_cons_succ, List.getElem_cons_zero, Act.put, List.setIfInBounds_toArray, List.set_cons_zero, List.set_cons_succ])
      refine wpAnyH_take (i := 5) (oi := _) (v := ?_) rfl (by kernel_rfl) (by kernel_rfl) (by kernel_rfl) (fun _ _ _ h => h) (Or.inl ⟨by rfl, ?_⟩) (by assumption) ?_
      rotate_left
      · (intro w' hSw; obtain ⟨z0, z1, z2, z3⟩ := hSw; go_simp; try with_reducible rfl)
      (try simp only [List.getElem_toArray, List.getElem_cons_succ, List.getElem_cons_zero, Act.put, List.setIfInBounds_toArray, List.set_cons_zero, List.set_cons_succ])
      refine wpAnyH_take (i := 6) (oi := _) (v := ?_) rfl (by kernel_rfl) (by kernel_rfl) (by kernel_rfl) (fun _ _ _ h => h) (Or.inl ⟨by rfl, ?_⟩) (by assumption) ?_
      rotate_left
      · (intro w' hSw; obtain ⟨z0, z1, z2, z3⟩ := hSw; go_simp; try with_reducible rfl)
      (try simp only [List.getElem_toArray, List.getElem_cons_succ, List.getElem_cons_zero, Act.put, List.setIfInBounds_toArray, List.set_cons_zero, List.set_cons_succ])
      refine wpAnyH_done (by kernel_rfl) (NoPanic.normal ?_) _
      obtain ⟨k0, k1, k2, k3⟩ := st_cells G2.out
      have HE1 := mkHid (HR8.out.keeps (HKK.out.trans (veil_mono _ HM2.out)))
      have HE2 := mkHid (HR7.out.keeps (HKK.out.trans (veil_mono _ HM2.out)))
      clear HS hSz HF hSd G0 G1 G2 HR7 HR8 HKK
      go_wp2_with fail
      have hwn : IntKind.i64.wrap m.next = m.next := IntWalk.i64_in _ (by omega)
      refine bodyPost_ret (v := .tuple #[.agg #[.slice ac m.code.length cc, .int .i64 (m.next + 1), .slice a2 (vs.length + 1) c2, .slice a3 (rs.length + 1) c3], .int .i64 m.next, .bool true]) (by simp [results, Try.results151, go_sem, *]) rfl ⟨a2, c2, a3, c3, rfl, ?_, ?_, ?_⟩
      · exact HE1.out
      · exact HE2.out
      · exact HL.out
    refine AllReadyH.cons (o := _) rfl (fun K hK => ?_) AllReadyH.nil
    go_simp
    have HB2 := mkHid (HB1.out.then ((Below.refl _ _).new (.cells #[.int .i64 m.next] 3)))
    try dsimp only
    refine hK.out _ _ (HS.out _ (Fr.of HB2.out)) (fun hS2 => ?_)
    clear hK K
    (try simp only [List.getElem_toArray, List.getElem_cons_succ, List.getElem_cons_zero, Act.put, List.setIfInBounds_toArray, List.set_cons_zero, List.set_cons_succ])
    refine wpAnyH_ready (rs := [2]) (by kernel_rfl) (by simp) ?_
    refine AllReadyH.cons (o := _) rfl (fun K hK => ?_) AllReadyH.nil
    have tl := keep C0.out HB2.out
    go_simp
    have HB3 := HB2
    clear tl
    try dsimp only
    refine hK.out _ _ (HS.out _ (Fr.of HB3.out)) (fun hS3 => ?_)
    clear hK K
    (try simp only [List.getElem_toArray, List.getElem_cons_succ, List.getElem_cons_zero, Act.put, List.setIfInBounds_toArray, List.set_cons_zero, List.set_cons_succ])
    refine wpAnyH_ready (rs := [3]) (by kernel_rfl) (by simp) ?_
    refine AllReadyH.cons (o := _) rfl (fun K hK => ?_) AllReadyH.nil
    obtain ⟨v1, w1, a3, c3, w2, hrun1, hrun2, hr2, hc1, hc2⟩ := three_b (α := Int) (us := us2) (cs := #[.int .i64 m.next]) (y := m.next) Try.underlying41 Try.infoInt (by decide) (by decide) (HU2.out y0 HYZ.out) HC2.out (int_cR m.next hnr1 hnr2) (by omega) rs.length rfl
    have HB4 := mkHid hc1
    have HW2 := mkHid hc2
    have HR2 := mkHid hr2
    clear hc1 hc2 hr2
    (rw [if_pos (by rfl)]; simp [Oper.wp, execOp, resolve, invoke, builtin, Oper.upon, Act.eval, hrun1, Result.andThen, Sem.run_bind])
    try dsimp only
    refine hK.out _ _ (HS.out _ (Fr.of HB4.out)) (fun hS4 => ?_)
    clear hK K
    (try simp only [List.getElem_toArray, List.getElem_cons_succ, List.getElem_cons_zero, Act.put, List.setIfInBounds_toArray, List.set_cons_zero, List.set_cons_succ])
    refine wpAnyH_ready (rs := [7]) (by kernel_rfl) (by simp) ?_
    refine AllReadyH.cons (o := _) rfl (fun K hK => ?_) AllReadyH.nil
    have HB5 := HW2
    (rw [if_pos (by rfl)]; simp [Oper.wp, execOp, resolve, invoke, builtin, Oper.upon, Act.eval, hrun2, Result.andThen, Sem.run_bind])
    try dsimp only
    refine hK.out _ _ (HS.out _ (Fr.of HB5.out)) (fun hS5 => ?_)
    clear hK K
    (try simp only [List.getElem_toArray, List.getElem_cons_succ, List.getElem_cons_zero, Act.put, List.setIfInBounds_toArray, List.set_cons_zero, List.set_cons_succ])
    refine wpAnyH_take (i := 8) (oi := _) (v := ?_) rfl (by kernel_rfl) (by kernel_rfl) (by kernel_rfl) (fun _ _ _ h => h) (Or.inl ⟨by rfl, ?_⟩) (by assumption) ?_
    rotate_left
    · (intro w' hSw; obtain ⟨z0, z1⟩ := hSw; go_simp; try with_reducible rfl)
    (try simp only [List.getElem_toArray, List.getElem_cons_succ, List.getElem_cons_zero, Act.put, List.setIfInBounds_toArray, List.set_cons_zero, List.set_cons_succ])
    refine wpAnyH_ready (rs := [9]) (by kernel_rfl) (by simp) ?_
    refine AllReadyH.cons (o := _) rfl (fun K hK => ?_) AllReadyH.nil
    clear hrun1 hrun2
    have g0 := (HW2.out.block w.heap.size (by have := HYZ.out; omega)).trans G0.out
    have g1 := (HW2.out.block (w.heap.size + 1) (by have := HYZ.out; omega)).trans G1.out
    have tl : w2.cell? ⟨w.heap.size, 3, none⟩ = some (.slice ar rs.length cr) := (st_cells g0).2.2.2
    have tf : w2.frozen? ⟨w.heap.size, 3, none⟩ = false := (st_free g0).2.2.2
    have S0 := mkHid (st3_set g0 (.slice a3 (rs.length + 1) c3))
    have S1 := mkHid ((Below.heap_setCell w2 ⟨w.heap.size, 3, none⟩ (.slice a3 (rs.length + 1) c3) (w.heap.size + 1) (by show w.heap.size + 1 ≠ w.heap.size; omega)).trans g1)
    have HF2 := mkHid ((Fr.refl us2 w2).set (k := 3) H02.out.1 (.slice a3 (rs.length + 1) c3))
    have HF3 := mkHid ((Fr.of HW2.out : Fr us2 y0 w2).set (k := 3) H02.out.1 (.slice a3 (rs.length + 1) c3))
    have HL2 := mkHid ((HBY.out.trans (HW2.out.mono (by have := HYZ.out; omega))).setCell (p := ⟨w.heap.size, 3, none⟩) (Nat.le_refl _) (.slice a3 (rs.length + 1) c3))
    have HZ2 : Hid (w.heap.size + 2 ≤ (w2.setCell ⟨w.heap.size, 3, none⟩ (.slice a3 (rs.length + 1) c3)).heap.size) := by rw [Hid, World.size_setCell]; have := HW2.out.size; have := HYZ.out; omega
    clear g0 g1
    go_simp
    try dsimp only
    refine hK.out _ _ ⟨(st_cells S0.out).2.1, (st_cells S0.out).2.1⟩ (fun hSz => ?_)
    clear hK K tl tf
    (try simp only [List.getElem_toArray, List.getElem_cons_succ, List.getElem_cons_zero, Act.put, List.setIfInBounds_toArray, List.set_cons_zero, List.set_cons_succ])
    refine wpAnyH_done (by kernel_rfl) (NoPanic.normal ?_) _
    have HR3 : Hid (Row (veil us2 (w2.setCell ⟨w.heap.size, 3, none⟩ (.slice a3 (rs.length + 1) c3))) a3 c3 (rs ++ [m.next])) := HR2.out.keeps HF2.out.keeps
    have HR4 : Hid (Row (veil us2 (w2.setCell ⟨w.heap.size, 3, none⟩ (.slice a3 (rs.length + 1) c3))) a2 c2 (vs ++ [v])) := HRy.out.keeps HF3.out.keeps
    generalize w2.setCell ⟨w.heap.size, 3, none⟩ (.slice a3 (rs.length + 1) c3) = w5 at *
    clear HS hSz hSd HW2 HR2 HRy HF2 HF3 HBY G0 G1 HYZ HC2 C0 C1 HB0
    obtain ⟨l0, l1, l2, l3⟩ := st_cells S0.out
    obtain ⟨f0, f1, f2, f3⟩ := st_free S0.out
    go_wp2_with fail
    have T0 := mkHid (st1_set S0.out (.int .i64 (m.next + 1)))
    have T1 := mkHid ((Below.heap_setCell w5 ⟨w.heap.size, 1, none⟩ (.int .i64 (m.next + 1)) (w.heap.size + 1) (by show w.heap.size + 1 ≠ w.heap.size; omega)).trans S1.out)
    have HK := mkHid ((Fr.refl us2 w5).set (k := 1) H02.out.1 (.int .i64 (m.next + 1))).keeps
    have HL3 := mkHid (HL2.out.setCell (p := ⟨w.heap.size, 1, none⟩) (Nat.le_refl _) (.int .i64 (m.next + 1)))
    have HZ3 : Hid (w.heap.size + 2 ≤ (w5.setCell ⟨w.heap.size, 1, none⟩ (.int .i64 (m.next + 1))).heap.size) := by rw [Hid, World.size_setCell]; exact HZ2.out
    have HR5 := mkHid (HR3.out.keeps HK.out)
    have HR6 := mkHid (HR4.out.keeps HK.out)
    generalize w5.setCell ⟨w.heap.size, 1, none⟩ (.int .i64 (m.next + 1)) = w6 at *
    clear S0 S1 l0 l1 l2 l3 f0 f1 f2 f3 HK HL2 HZ2 HR3 HR4
    refine wp_region_noPanic ?_
    obtain ⟨y1, hv1⟩ : ∃ X, w6.drew = X := ⟨_, rfl⟩
    have hbd : Below w6.heap.size w6 y1 := by rw [← hv1]; exact (Below.refl _ _).drew
    have HBY := mkHid (HL3.out.then hbd)
    have G0 := mkHid ((hbd.block w.heap.size (by have := HZ3.out; omega)).trans T0.out)
    have G1 := mkHid ((hbd.block (w.heap.size + 1) (by have := HZ3.out; omega)).trans T1.out)
    have HR7 : Hid (Row (veil us2 y1) a3 c3 (rs ++ [m.next])) := HR5.out.keeps (veil_toR (Fr.of hbd) fun k hk => .inl hk)
    have HR8 : Hid (Row (veil us2 y1) a2 c2 (vs ++ [v])) := HR6.out.keeps (veil_toR (Fr.of hbd) fun k hk => .inl hk)
    have HYZ : Hid (w.heap.size + 2 ≤ y1.heap.size) := by have := HZ3.out; have := hbd.size; rw [Hid]; omega
    have HS : Hid (∀ X, Fr [w.heap.size + 1] y1 X → (fun X : World => X.cell? ⟨w.heap.size, 0, none⟩ = some (.slice ac m.code.length cc) ∧ X.cell? ⟨w.heap.size, 1, none⟩ = some (.int .i64 (m.next + 1)) ∧ X.cell? ⟨w.heap.size, 2, none⟩ = some (.slice a2 (vs.length + 1) c2) ∧ X.cell? ⟨w.heap.size, 3, none⟩ = some (.slice a3 (rs.length + 1) c3)) X) := fun X h => by
      have hx := (h.block w.heap.size (by have := HYZ.out; omega) (by simp)).trans G0.out
      exact st_cells hx
    refine wp_region_held_drew (S := fun X : World => X.cell? ⟨w.heap.size, 0, none⟩ = some (.slice ac m.code.length cc) ∧ X.cell? ⟨w.heap.size, 1, none⟩ = some (.int .i64 (m.next + 1)) ∧ X.cell? ⟨w.heap.size, 2, none⟩ = some (.slice a2 (vs.length + 1) c2) ∧ X.cell? ⟨w.heap.size, 3, none⟩ = some (.slice a3 (rs.length + 1) c3)) (by kernel_rfl) (by rw [hv1]; exact HS.out _ (Fr.refl _ _)) (fun hSd => ?_)
    rw [hv1] at hSd ⊢
    clear hv1 hbd T0 T1 HL3 HZ3 HR5 HR6
    refine wpAnyH_take (i := 0) (oi := _) (v := ?_) rfl (by kernel_rfl) (by kernel_rfl) (by kernel_rfl) (fun _ _ _ h => h) (Or.inl ⟨by rfl, ?_⟩) (by assumption) ?_
    rotate_left
    · (intro w' hSw; obtain ⟨z0, z1, z2, z3⟩ := hSw; go_simp; try with_reducible rfl)
    (try simp only [List.getElem_toArray, List.getElem_cons_succ, List.getElem_cons_zero, Act.put, List.setIfInBounds_toArray, List.set_cons_zero, List.set_cons_succ])
    refine wpAnyH_take (i := 1) (oi := _) (v := ?_) rfl (by kernel_rfl) (by kernel_rfl) (by kernel_rfl) (fun _ _ _ h => h) (Or.inl ⟨by rfl, ?_⟩) (by assumption) ?_
    rotate_left
    · (intro w' hSw; obtain ⟨z0, z1, z2, z3⟩ := hSw; go_simp; try with_reducible rfl)
    (try simp only [List.getElem_toArray, List.getElem_cons_succ, List.getElem_cons_zero, Act.put, List.setIfInBounds_toArray, List.set_cons_zero, List.set_cons_succ])
    refine wpAnyH_take (i := 2) (oi := _) (v := ?_) rfl (by kernel_rfl) (by kernel_rfl) (by kernel_rfl) (fun _ _ _ h => h) (Or.inl ⟨by rfl, ?_⟩) (by assumption) ?_
    rotate_left
    · (intro w' hSw; obtain ⟨z0, z1, z2, z3⟩ := hSw; go_simp; try with_reducible rfl)
    (try simp only [List.getElem_toArray, List.getElem_cons_succ, List.getElem_cons_zero, Act.put, List.setIfInBounds_toArray, List.set_cons_zero, List.set_cons_succ])
    refine wpAnyH_take (i := 3) (oi := _) (v := ?_) rfl (by kernel_rfl) (by kernel_rfl) (by kernel_rfl) (fun _ _ _ h => h) (Or.inl ⟨by rfl, ?_⟩) (by assumption) ?_
    rotate_left
    · (intro w' hSw; obtain ⟨z0, z1, z2, z3⟩ := hSw; go_simp; try with_reducible rfl)
    (try simp only [List.getElem_toArray, List.getElem_cons_succ, List.getElem_cons_zero, Act.put, List.setIfInBounds_toArray, List.set_cons_zero, List.set_cons_succ])
    refine wpAnyH_ready (rs := [4]) (by kernel_rfl) (by simp) ?_
    refine AllReadyH.cons (o := _) rfl (fun K hK => ?_) AllReadyH.nil
    obtain ⟨f0, f1, f2, f3⟩ := st_free G1.out
    obtain ⟨k0, k1, k2, k3⟩ := st_cells G1.out
    have HF := mkHid ((Fr.refl [w.heap.size + 1] y1).four (g := w.heap.size + 1) (by simp) (.slice ac m.code.length cc) (.int .i64 (m.next + 1)) (.slice a2 (vs.length + 1) c2) (.slice a3 (rs.length + 1) c3))
    have G2 := mkHid (st_all G1.out (.slice ac m.code.length cc) (.int .i64 (m.next + 1)) (.slice a2 (vs.length + 1) c2) (.slice a3 (rs.length + 1) c3))
    have HL := mkHid (below_four HBY.out (g := w.heap.size + 1) (by omega) (.slice ac m.code.length cc) (.int .i64 (m.next + 1)) (.slice a2 (vs.length + 1) c2) (.slice a3 (rs.length + 1) c3))
    have HKK := mkHid ((Fr.refl us2 y1).four H02.out.2 (.slice ac m.code.length cc) (.int .i64 (m.next + 1)) (.slice a2 (vs.length + 1) c2) (.slice a3 (rs.length + 1) c3)).keeps
    go_simp
    try dsimp only
    refine hK.out _ _ (HS.out _ HF.out) (fun hSz => ?_)
    clear hK K f0 f1 f2 f3 k0 k1 k2 k3
    (try simp only [List.getElem_toArray, List.getElem_cons_succ, List.getElem_cons_zero, Act.put, List.setIfInBounds_toArray, List.set_cons_zero, List.set_cons_succ])
    refine wpAnyH_take (i := 5) (oi := _) (v := ?_) rfl (by kernel_rfl) (by kernel_rfl) (by kernel_rfl) (fun _ _ _ h => h) (Or.inl ⟨by rfl, ?_⟩) (by assumption) ?_
    rotate_left
    · (intro w' hSw; obtain ⟨z0, z1, z2, z3⟩ := hSw; go_simp; try with_reducible rfl)
    (try simp only [List.getElem_toArray, List.getElem_cons_succ, List.getElem_cons_zero, Act.put, List.setIfInBounds_toArray, List.set_cons_zero, List.set_cons_succ])
    refine wpAnyH_take (i := 6) (oi := _) (v := ?_) rfl (by kernel_rfl) (by kernel_rfl) (by kernel_rfl) (fun _ _ _ h => h) (Or.inl ⟨by rfl, ?_⟩) (by assumption) ?_
    rotate_left
    · (intro w' hSw; obtain ⟨z0, z1, z2, z3⟩ := hSw; go_simp; try with_reducible rfl)
    (try simp only [List.getElem_toArray, List.getElem_cons_succ, List.getElem_cons_zero, Act.put, List.setIfInBounds_toArray, List.set_cons_zero, List.set_cons_succ])
    refine wpAnyH_done (by kernel_rfl) (NoPanic.normal ?_) _
    obtain ⟨k0, k1, k2, k3⟩ := st_cells G2.out
    have HE1 := mkHid (HR8.out.keeps (HKK.out.trans (veil_mono _ HM2.out)))
    have HE2 := mkHid (HR7.out.keeps (HKK.out.trans (veil_mono _ HM2.out)))
    clear HS hSz HF hSd G0 G1 G2 HR7 HR8 HKK
    go_wp2_with fail
    have hwn : IntKind.i64.wrap m.next = m.next := IntWalk.i64_in _ (by omega)
    refine bodyPost_ret (v := .tuple #[.agg #[.slice ac m.code.length cc, .int .i64 (m.next + 1), .slice a2 (vs.length + 1) c2, .slice a3 (rs.length + 1) c3], .int .i64 m.next, .bool true]) (by simp [results, Try.results151, go_sem, *]) rfl ⟨a2, c2, a3, c3, rfl, ?_, ?_, ?_⟩
    · exact HE1.out
    · exact HE2.out
    · exact HL.out
  refine AllReadyH.cons (o := _) rfl (fun K hK => ?_) ?_
  · have tl := keep C0.out HB0.out
    go_simp
    have HB1 := HB0
    clear tl
    try dsimp only
    refine hK.out _ _ (HS.out _ (Fr.of HB1.out)) (fun hS1 => ?_)
    clear hK K
    (try simp only [List.getElem_toArray, List.getElem_cons_succ, List.getElem_cons_zero, Act.put, List.setIfInBounds_toArray, List.set_cons_zero, List.set_cons_succ])
    refine wpAnyH_ready (rs := [0, 6]) (by kernel_rfl) (by simp) ?_
    refine AllReadyH.cons (o := _) rfl (fun K hK => ?_) ?_
    · go_simp
      have HB2 := mkHid (HB1.out.then ((Below.refl _ _).new (.cells #[] 3)))
      try dsimp only
      refine hK.out _ _ (HS.out _ (Fr.of HB2.out)) (fun hS2 => ?_)
      clear hK K
      (try simp only [List.getElem_toArray, List.getElem_cons_succ, List.getElem_cons_zero, Act.put, List.setIfInBounds_toArray, List.set_cons_zero, List.set_cons_succ])
      refine wpAnyH_ready (rs := [3, 6]) (by kernel_rfl) (by simp) ?_
      refine AllReadyH.cons (o := _) rfl (fun K hK => ?_) ?_
      · obtain ⟨v1, w1, a3, c3, w2, hrun1, hrun2, hr2, hc1, hc2⟩ := three_c (α := Int) (us := us2) (cs := #[.int .i64 m.next]) (y := m.next) Try.underlying41 Try.infoInt (by decide) (by decide) (HU2.out y0 HYZ.out) HC2.out (int_cR m.next hnr1 hnr2) (by omega) rs.length rfl
        have HB3 := mkHid hc1
        have HW2 := mkHid hc2
        have HR2 := mkHid hr2
        clear hc1 hc2 hr2
        (rw [if_pos (by rfl)]; simp [Oper.wp, execOp, resolve, invoke, builtin, Oper.upon, Act.eval, hrun1, Result.andThen, Sem.run_bind])
        try dsimp only
        refine hK.out _ _ (HS.out _ (Fr.of HB3.out)) (fun hS3 => ?_)
        clear hK K
        (try simp only [List.getElem_toArray, List.getElem_cons_succ, List.getElem_cons_zero, Act.put, List.setIfInBounds_toArray, List.set_cons_zero, List.set_cons_succ])
        refine wpAnyH_ready (rs := [6]) (by kernel_rfl) (by simp) ?_
        refine AllReadyH.cons (o := _) rfl (fun K hK => ?_) AllReadyH.nil
        go_simp
        have HB4 := mkHid (HB3.out.trans ((Below.refl w1.heap.size w1).new (.cells #[.int .i64 m.next] 3) |>.mono HB3.out.size))
        try dsimp only
        refine hK.out _ _ (HS.out _ (Fr.of HB4.out)) (fun hS4 => ?_)
        clear hK K
        (try simp only [List.getElem_toArray, List.getElem_cons_succ, List.getElem_cons_zero, Act.put, List.setIfInBounds_toArray, List.set_cons_zero, List.set_cons_succ])
        refine wpAnyH_ready (rs := [7]) (by kernel_rfl) (by simp) ?_
        refine AllReadyH.cons (o := _) rfl (fun K hK => ?_) AllReadyH.nil
        have HB5 := HW2
        (rw [if_pos (by rfl)]; simp [Oper.wp, execOp, resolve, invoke, builtin, Oper.upon, Act.eval, hrun2, Result.andThen, Sem.run_bind])
        try dsimp only
        refine hK.out _ _ (HS.out _ (Fr.of HB5.out)) (fun hS5 => ?_)
        clear hK K
        (try simp only [List.getElem_toArray, List.getElem_cons_succ, List.getElem_cons_zero, Act.put, List.setIfInBounds_toArray, List.set_cons_zero, List.set_cons_succ])
        refine wpAnyH_take (i := 8) (oi := _) (v := ?_) rfl (by kernel_rfl) (by kernel_rfl) (by kernel_rfl) (fun _ _ _ h => h) (Or.inl ⟨by rfl, ?_⟩) (by assumption) ?_
        rotate_left
        · (intro w' hSw; obtain ⟨z0, z1⟩ := hSw; go_simp; try with_reducible rfl)
        (try simp only [List.getElem_toArray, List.getElem_cons_succ, List.getElem_cons_zero, Act.put, List.setIfInBounds_toArray, List.set_cons_zero, List.set_cons_succ])
        refine wpAnyH_ready (rs := [9]) (by kernel_rfl) (by simp) ?_
        refine AllReadyH.cons (o := _) rfl (fun K hK => ?_) AllReadyH.nil
        clear hrun1 hrun2
        have g0 := (HW2.out.block w.heap.size (by have := HYZ.out; omega)).trans G0.out
        have g1 := (HW2.out.block (w.heap.size + 1) (by have := HYZ.out; omega)).trans G1.out
        have tl : w2.cell? ⟨w.heap.size, 3, none⟩ = some (.slice ar rs.length cr) := (st_cells g0).2.2.2
        have tf : w2.frozen? ⟨w.heap.size, 3, none⟩ = false := (st_free g0).2.2.2
        have S0 := mkHid (st3_set g0 (.slice a3 (rs.length + 1) c3))
        have S1 := mkHid ((Below.heap_setCell w2 ⟨w.heap.size, 3, none⟩ (.slice a3 (rs.length + 1) c3) (w.heap.size + 1) (by show w.heap.size + 1 ≠ w.heap.size; omega)).trans g1)
        have HF2 := mkHid ((Fr.refl us2 w2).set (k := 3) H02.out.1 (.slice a3 (rs.length + 1) c3))
        have HF3 := mkHid ((Fr.of HW2.out : Fr us2 y0 w2).set (k := 3) H02.out.1 (.slice a3 (rs.length + 1) c3))
        have HL2 := mkHid ((HBY.out.trans (HW2.out.mono (by have := HYZ.out; omega))).setCell (p := ⟨w.heap.size, 3, none⟩) (Nat.le_refl _) (.slice a3 (rs.length + 1) c3))
        have HZ2 : Hid (w.heap.size + 2 ≤ (w2.setCell ⟨w.heap.size, 3, none⟩ (.slice a3 (rs.length + 1) c3)).heap.size) := by rw [Hid, World.size_setCell]; have := HW2.out.size; have := HYZ.out; omega
        clear g0 g1
        go_simp
        try dsimp only
        refine hK.out _ _ ⟨(st_cells S0.out).2.1, (st_cells S0.out).2.1⟩ (fun hSz => ?_)
        clear hK K tl tf
        (try simp only [List.getElem_toArray, List.getElem_cons_succ, List.getElem_cons_zero, Act.put, List.setIfInBounds_toArray, List.set_cons_zero, List.set_cons_succ])
        refine wpAnyH_done (by kernel_rfl) (NoPanic.normal ?_) _
        have HR3 : Hid (Row (veil us2 (w2.setCell ⟨w.heap.size, 3, none⟩ (.slice a3 (rs.length + 1) c3))) a3 c3 (rs ++ [m.next])) := HR2.out.keeps HF2.out.keeps
        have HR4 : Hid (Row (veil us2 (w2.setCell ⟨w.heap.size, 3, none⟩ (.slice a3 (rs.length + 1) c3))) a2 c2 (vs ++ [v])) := HRy.out.keeps HF3.out.keeps
        generalize w2.setCell ⟨w.heap.size, 3, none⟩ (.slice a3 (rs.length + 1) c3) = w5 at *
        clear HS hSz hSd HW2 HR2 HRy HF2 HF3 HBY G0 G1 HYZ HC2 C0 C1 HB0
        obtain ⟨l0, l1, l2, l3⟩ := st_cells S0.out
        obtain ⟨f0, f1, f2, f3⟩ := st_free S0.out
        go_wp2_with fail
        have T0 := mkHid (st1_set S0.out (.int .i64 (m.next + 1)))
        have T1 := mkHid ((Below.heap_setCell w5 ⟨w.heap.size, 1, none⟩ (.int .i64 (m.next + 1)) (w.heap.size + 1) (by show w.heap.size + 1 ≠ w.heap.size; omega)).trans S1.out)
        have HK := mkHid ((Fr.refl us2 w5).set (k := 1) H02.out.1 (.int .i64 (m.next + 1))).keeps
        have HL3 := mkHid (HL2.out.setCell (p := ⟨w.heap.size, 1, none⟩) (Nat.le_refl _) (.int .i64 (m.next + 1)))
        have HZ3 : Hid (w.heap.size + 2 ≤ (w5.setCell ⟨w.heap.size, 1, none⟩ (.int .i64 (m.next + 1))).heap.size) := by rw [Hid, World.size_setCell]; exact HZ2.out
        have HR5 := mkHid (HR3.out.keeps HK.out)
        have HR6 := mkHid (HR4.out.keeps HK.out)
        generalize w5.setCell ⟨w.heap.size, 1, none⟩ (.int .i64 (m.next + 1)) = w6 at *
        clear S0 S1 l0 l1 l2 l3 f0 f1 f2 f3 HK HL2 HZ2 HR3 HR4
        refine wp_region_noPanic ?_
        obtain ⟨y1, hv1⟩ : ∃ X, w6.drew = X := ⟨_, rfl⟩
        have hbd : Below w6.heap.size w6 y1 := by rw [← hv1]; exact (Below.refl _ _).drew
        have HBY := mkHid (HL3.out.then hbd)
        have G0 := mkHid ((hbd.block w.heap.size (by have := HZ3.out; omega)).trans T0.out)
        have G1 := mkHid ((hbd.block (w.heap.size + 1) (by have := HZ3.out; omega)).trans T1.out)
        have HR7 : Hid (Row (veil us2 y1) a3 c3 (rs ++ [m.next])) := HR5.out.keeps (veil_toR (Fr.of hbd) fun k hk => .inl hk)
        have HR8 : Hid (Row (veil us2 y1) a2 c2 (vs ++ [v])) := HR6.out.keeps (veil_toR (Fr.of hbd) fun k hk => .inl hk)
        have HYZ : Hid (w.heap.size + 2 ≤ y1.heap.size) := by have := HZ3.out; have := hbd.size; rw [Hid]; omega
        have HS : Hid (∀ X, Fr [w.heap.size + 1] y1 X → (fun X : World => X.cell? ⟨w.heap.size, 0, none⟩ = some (.slice ac m.code.length cc) ∧ X.cell? ⟨w.heap.size, 1, none⟩ = some (.int .i64 (m.next + 1)) ∧ X.cell? ⟨w.heap.size, 2, none⟩ = some (.slice a2 (vs.length + 1) c2) ∧ X.cell? ⟨w.heap.size, 3, none⟩ = some (.slice a3 (rs.length + 1) c3)) X) := fun X h => by
          have hx := (h.block w.heap.size (by have := HYZ.out; omega) (by simp)).trans G0.out
          exact st_cells hx
        refine wp_region_held_drew (S := fun X : World => X.cell? ⟨w.heap.size, 0, none⟩ = some (.slice ac m.code.length cc) ∧ X.cell? ⟨w.heap.size, 1, none⟩ = some (.int .i64 (m.next + 1)) ∧ X.cell? ⟨w.heap.size, 2, none⟩ = some (.slice a2 (vs.length + 1) c2) ∧ X.cell? ⟨w.heap.size, 3, none⟩ = some (.slice a3 (rs.length + 1) c3)) (by kernel_rfl) (by rw [hv1]; exact HS.out _ (Fr.refl _ _)) (fun hSd => ?_)
        rw [hv1] at hSd ⊢
        clear hv1 hbd T0 T1 HL3 HZ3 HR5 HR6
        refine wpAnyH_take (i := 0) (oi := _) (v := ?_) rfl (by kernel_rfl) (by kernel_rfl) (by kernel_rfl) (fun _ _ _ h => h) (Or.inl ⟨by rfl, ?_⟩) (by assumption) ?_
        rotate_left
        · (intro w' hSw; obtain ⟨z0, z1, z2, z3⟩ := hSw; go_simp; try with_reducible rfl)
        (try simp only [List.getElem_toArray, List.getElem_cons_succ, List.getElem_cons_zero, Act.put, List.setIfInBounds_toArray, List.set_cons_zero, List.set_cons_succ])
        refine wpAnyH_take (i := 1) (oi := _) (v := ?_) rfl (by kernel_rfl) (by kernel_rfl) (by kernel_rfl) (fun _ _ _ h => h) (Or.inl ⟨by rfl, ?_⟩) (by assumption) ?_
        rotate_left
        · (intro w' hSw; obtain ⟨z0, z1, z2, z3⟩ := hSw; go_simp; try with_reducible rfl)
        (try simp only [List.getElem_toArray, List.getElem_cons_succ, List.getElem_cons_zero, Act.put, List.setIfInBounds_toArray, List.set_cons_zero, List.set_cons_succ])
        refine wpAnyH_take (i := 2) (oi := _) (v := ?_) rfl (by kernel_rfl) (by kernel_rfl) (by kernel_rfl) (fun _ _ _ h => h) (Or.inl ⟨by rfl, ?_⟩) (by assumption) ?_
        rotate_left
        · (intro w' hSw; obtain ⟨z0, z1, z2, z3⟩ := hSw; go_simp; try with_reducible rfl)
        (try simp only [List.getElem_toArray, List.getElem_cons_succ, List.getElem_cons_zero, Act.put, List.setIfInBounds_toArray, List.set_cons_zero, List.set_cons_succ])
        refine wpAnyH_take (i := 3) (oi := _) (v := ?_) rfl (by kernel_rfl) (by kernel_rfl) (by kernel_rfl) (fun _ _ _ h => h) (Or.inl ⟨by rfl, ?_⟩) (by assumption) ?_
        rotate_left
        · (intro w' hSw; obtain ⟨z0, z1, z2, z3⟩ := hSw; go_simp; try with_reducible rfl)
        (try simp only [List.getElem_toArray, List.getElem_cons_succ, List.getElem_cons_zero, Act.put, List.setIfInBounds_toArray, List.set_cons_zero, List.set_cons_succ])
        refine wpAnyH_ready (rs := [4]) (by kernel_rfl) (by simp) ?_
        refine AllReadyH.cons (o := _) rfl (fun K hK => ?_) AllReadyH.nil
        obtain ⟨f0, f1, f2, f3⟩ := st_free G1.out
        obtain ⟨k0, k1, k2, k3⟩ := st_cells G1.out
        have HF := mkHid ((Fr.refl [w.heap.size + 1] y1).four (g := w.heap.size + 1) (by simp) (.slice ac m.code.length cc) (.int .i64 (m.next + 1)) (.slice a2 (vs.length + 1) c2) (.slice a3 (rs.length + 1) c3))
        have G2 := mkHid (st_all G1.out (.slice ac m.code.length cc) (.int .i64 (m.next + 1)) (.slice a2 (vs.length + 1) c2) (.slice a3 (rs.length + 1) c3))
        have HL := mkHid (below_four HBY.out (g := w.heap.size + 1) (by omega) (.slice ac m.code.length cc) (.int .i64 (m.next + 1)) (.slice a2 (vs.length + 1) c2) (.slice a3 (rs.length + 1) c3))
        have HKK := mkHid ((Fr.refl us2 y1).four H02.out.2 (.slice ac m.code.length cc) (.int .i64 (m.next + 1)) (.slice a2 (vs.length + 1) c2) (.slice a3 (rs.length + 1) c3)).keeps
        go_simp
        try dsimp only
        refine hK.out _ _ (HS.out _ HF.out) (fun hSz => ?_)
        clear hK K f0 f1 f2 f3 k0 k1 k2 k3
        (try simp only [List.getElem_toArray, List.getElem_cons_succ, List.getElem_cons_zero, Act.put, List.setIfInBounds_toArray, List.set_cons_zero, List.set_cons_succ])
        refine wpAnyH_take (i := 5) (oi := _) (v := ?_) rfl (by kernel_rfl) (by kernel_rfl) (by kernel_rfl) (fun _ _ _ h => h) (Or.inl ⟨by rfl, ?_⟩) (by assumption) ?_
        rotate_left
        · (intro w' hSw; obtain ⟨z0, z1, z2, z3⟩ := hSw; go_simp; try with_reducible rfl)
        (try simp only [List.getElem_toArray, List.getElem_cons_succ, List.getElem_cons_zero, Act.put, List.setIfInBounds_toArray, List.set_cons_zero, List.set_cons_succ])
        refine wpAnyH_take (i := 6) (oi := _) (v := ?_) rfl (by kernel_rfl) (by kernel_rfl) (by kernel_rfl) (fun _ _ _ h => h) (Or.inl ⟨by rfl, ?_⟩) (by assumption) ?_
        rotate_left
        · (intro w' hSw; obtain ⟨z0, z1, z2, z3⟩ := hSw; go_simp; try with_reducible rfl)
        (try simp only [List.getElem_toArray, List.getElem_cons_succ, List.getElem_cons_zero, Act.put, List.setIfInBounds_toArray, List.set_cons_zero, List.set_cons_succ])
        refine wpAnyH_done (by kernel_rfl) (NoPanic.normal ?_) _
        obtain ⟨k0, k1, k2, k3⟩ := st_cells G2.out
        have HE1 := mkHid (HR8.out.keeps (HKK.out.trans (veil_mono _ HM2.out)))
        have HE2 := mkHid (HR7.out.keeps (HKK.out.trans (veil_mono _ HM2.out)))
        clear HS hSz HF hSd G0 G1 G2 HR7 HR8 HKK
        go_wp2_with fail
        have hwn : IntKind.i64.wrap m.next = m.next := IntWalk.i64_in _ (by omega)
        refine bodyPost_ret (v := .tuple #[.agg #[.slice ac m.code.length cc, .int .i64 (m.next + 1), .slice a2 (vs.length + 1) c2, .slice a3 (rs.length + 1) c3], .int .i64 m.next, .bool true]) (by simp [results, Try.results151, go_sem, *]) rfl ⟨a2, c2, a3, c3, rfl, ?_, ?_, ?_⟩
        · exact HE1.out
        · exact HE2.out
        · exact HL.out
      refine AllReadyH.cons (o := _) rfl (fun K hK => ?_) AllReadyH.nil
      go_simp
      have HB3 := mkHid (HB2.out.then ((Below.refl _ _).new (.cells #[.int .i64 m.next] 3)))
      try dsimp only
      refine hK.out _ _ (HS.out _ (Fr.of HB3.out)) (fun hS3 => ?_)
      clear hK K
      (try simp only [List.getElem_toArray, List.getElem_cons_succ, List.getElem_cons_zero, Act.put, List.setIfInBounds_toArray, List.set_cons_zero, List.set_cons_succ])
      refine wpAnyH_ready (rs := [3]) (by kernel_rfl) (by simp) ?_
      refine AllReadyH.cons (o := _) rfl (fun K hK => ?_) AllReadyH.nil
      obtain ⟨v1, w1, a3, c3, w2, hrun1, hrun2, hr2, hc1, hc2⟩ := three_b (α := Int) (us := us2) (cs := #[.int .i64 m.next]) (y := m.next) Try.underlying41 Try.infoInt (by decide) (by decide) (HU2.out y0 HYZ.out) HC2.out (int_cR m.next hnr1 hnr2) (by omega) rs.length rfl
      have HB4 := mkHid hc1
      have HW2 := mkHid hc2
      have HR2 := mkHid hr2
      clear hc1 hc2 hr2
      (rw [if_pos (by rfl)]; simp [Oper.wp, execOp, resolve, invoke, builtin, Oper.upon, Act.eval, hrun1, Result.andThen, Sem.run_bind])
      try dsimp only
      refine hK.out _ _ (HS.out _ (Fr.of HB4.out)) (fun hS4 => ?_)
      clear hK K
      (try simp only [List.getElem_toArray, List.getElem_cons_succ, List.getElem_cons_zero, Act.put, List.setIfInBounds_toArray, List.set_cons_zero, List.set_cons_succ])
      refine wpAnyH_ready (rs := [7]) (by kernel_rfl) (by simp) ?_
      refine AllReadyH.cons (o := _) rfl (fun K hK => ?_) AllReadyH.nil
      have HB5 := HW2
      (rw [if_pos (by rfl)]; simp [Oper.wp, execOp, resolve, invoke, builtin, Oper.upon, Act.eval, hrun2, Result.andThen, Sem.run_bind])
      try dsimp only
      refine hK.out _ _ (HS.out _ (Fr.of HB5.out)) (fun hS5 => ?_)
      clear hK K
      (try simp only [List.getElem_toArray, List.getElem_cons_succ, List.getElem_cons_zero, Act.put, List.setIfInBounds_toArray, List.set_cons_zero, List.set_cons_succ])
      refine wpAnyH_take (i := 8) (oi := _) (v := ?_) rfl (by kernel_rfl) (by kernel_rfl) (by kernel_rfl) (fun _ _ _ h => h) (Or.inl ⟨by rfl, ?_⟩) (by assumption) ?_
      rotate_left
      · (intro w' hSw; obtain ⟨z0, z1⟩ := hSw; go_simp; try with_reducible rfl)
      (try simp only [List.getElem_toArray, List.getElem_cons_succ, List.getElem_cons_zero, Act.put, List.setIfInBounds_toArray, List.set_cons_zero, List.set_cons_succ])
      refine wpAnyH_ready (rs := [9]) (by kernel_rfl) (by simp) ?_
      refine AllReadyH.cons (o := _) rfl (fun K hK => ?_) AllReadyH.nil
      clear hrun1 hrun2
      have g0 := (HW2.out.block w.heap.size (by have := HYZ.out; omega)).trans G0.out
      have g1 := (HW2.out.block (w.heap.size + 1) (by have := HYZ.out; omega)).trans G1.out
      have tl : w2.cell? ⟨w.heap.size, 3, none⟩ = some (.slice ar rs.length cr) := (st_cells g0).2.2.2
      have tf : w2.frozen? ⟨w.heap.size, 3, none⟩ = false := (st_free g0).2.2.2
      have S0 := mkHid (st3_set g0 (.slice a3 (rs.length + 1) c3))
      have S1 := mkHid ((Below.heap_setCell w2 ⟨w.heap.size, 3, none⟩ (.slice a3 (rs.length + 1) c3) (w.heap.size + 1) (by show w.heap.size + 1 ≠ w.heap.size; omega)).trans g1)
      have HF2 := mkHid ((Fr.refl us2 w2).set (k := 3) H02.out.1 (.slice a3 (rs.length + 1) c3))
      have HF3 := mkHid ((Fr.of HW2.out : Fr us2 y0 w2).set (k := 3) H02.out.1 (.slice a3 (rs.length + 1) c3))
      have HL2 := mkHid ((HBY.out.trans (HW2.out.mono (by have := HYZ.out; omega))).setCell (p := ⟨w.heap.size, 3, none⟩) (Nat.le_refl _) (.slice a3 (rs.length + 1) c3))
      have HZ2 : Hid (w.heap.size + 2 ≤ (w2.setCell ⟨w.heap.size, 3, none⟩ (.slice a3 (rs.length + 1) c3)).heap.size) := by rw [Hid, World.size_setCell]; have := HW2.out.size; have := HYZ.out; omega
      clear g0 g1
      go_simp
      try dsimp only
      refine hK.out _ _ ⟨(st_cells S0.out).2.1, (st_cells S0.out).2.1⟩ (fun hSz => ?_)
      clear hK K tl tf
      (try simp only [List.getElem_toArray, List.getElem_cons_succ, List.getElem_cons_zero, Act.put, List.setIfInBounds_toArray, List.set_cons_zero, List.set_cons_succ])
      refine wpAnyH_done (by kernel_rfl) (NoPanic.normal ?_) _
      have HR3 : Hid (Row (veil us2 (w2.setCell ⟨w.heap.size, 3, none⟩ (.slice a3 (rs.length + 1) c3))) a3 c3 (rs ++ [m.next])) := HR2.out.keeps HF2.out.keeps
      have HR4 : Hid (Row (veil us2 (w2.setCell ⟨w.heap.size, 3, none⟩ (.slice a3 (rs.length + 1) c3))) a2 c2 (vs ++ [v])) := HRy.out.keeps HF3.out.keeps
      generalize w2.setCell ⟨w.heap.size, 3, none⟩ (.slice a3 (rs.length + 1) c3) = w5 at *
      clear HS hSz hSd HW2 HR2 HRy HF2 HF3 HBY G0 G1 HYZ HC2 C0 C1 HB0
      obtain ⟨l0, l1, l2, l3⟩ := st_cells S0.out
      obtain ⟨f0, f1, f2, f3⟩ := st_free S0.out
      go_wp2_with fail
      have T0 := mkHid (st1_set S0.out (.int .i64 (m.next + 1)))
      have T1 := mkHid ((Below.heap_setCell w5 ⟨w.heap.size, 1, none⟩ (.int .i64 (m.next + 1)) (w.heap.size + 1) (by show w.heap.size + 1 ≠ w.heap.size; omega)).trans S1.out)
      have HK := mkHid ((Fr.refl us2 w5).set (k := 1) H02.out.1 (.int .i64 (m.next + 1))).keeps
      have HL3 := mkHid (HL2.out.setCell (p := ⟨w.heap.size, 1, none⟩) (Nat.le_refl _) (.int .i64 (m.next + 1)))
      have HZ3 : Hid (w.heap.size + 2 ≤ (w5.setCell ⟨w.heap.size, 1, none⟩ (.int .i64 (m.next + 1))).heap.size) := by rw [Hid, World.size_setCell]; exact HZ2.out
      have HR5 := mkHid (HR3.out.keeps HK.out)
      have HR6 := mkHid (HR4.out.keeps HK.out)
      generalize w5.setCell ⟨w.heap.size, 1, none⟩ (.int .i64 (m.next + 1)) = w6 at *
      clear S0 S1 l0 l1 l2 l3 f0 f1 f2 f3 HK HL2 HZ2 HR3 HR4
      refine wp_region_noPanic ?_
      obtain ⟨y1, hv1⟩ : ∃ X, w6.drew = X := ⟨_, rfl⟩
      have hbd : Below w6.heap.size w6 y1 := by rw [← hv1]; exact (Below.refl _ _).drew
      have HBY := mkHid (HL3.out.then hbd)
      have G0 := mkHid ((hbd.block w.heap.size (by have := HZ3.out; omega)).trans T0.out)
      have G1 := mkHid ((hbd.block (w.heap.size + 1) (by have := HZ3.out; omega)).trans T1.out)
      have HR7 : Hid (Row (veil us2 y1) a3 c3 (rs ++ [m.next])) := HR5.out.keeps (veil_toR (Fr.of hbd) fun k hk => .inl hk)
      have HR8 : Hid (Row (veil us2 y1) a2 c2 (vs ++ [v])) := HR6.out.keeps (veil_toR (Fr.of hbd) fun k hk => .inl hk)
      have HYZ : Hid (w.heap.size + 2 ≤ y1.heap.size) := by have := HZ3.out; have := hbd.size; rw [Hid]; omega
      have HS : Hid (∀ X, Fr [w.heap.size + 1] y1 X → (fun X : World => X.cell? ⟨w.heap.size, 0, none⟩ = some (.slice ac m.code.length cc) ∧ X.cell? ⟨w.heap.size, 1, none⟩ = some (.int .i64 (m.next + 1)) ∧ X.cell? ⟨w.heap.size, 2, none⟩ = some (.slice a2 (vs.length + 1) c2) ∧ X.cell? ⟨w.heap.size, 3, none⟩ = some (.slice a3 (rs.length + 1) c3)) X) := fun X h => by
        have hx := (h.block w.heap.size (by have := HYZ.out; omega) (by simp)).trans G0.out
        exact st_cells hx
      refine wp_region_held_drew (S := fun X : World => X.cell? ⟨w.heap.size, 0, none⟩ = some (.slice ac m.code.length cc) ∧ X.cell? ⟨w.heap.size, 1, none⟩ = some (.int .i64 (m.next + 1)) ∧ X.cell? ⟨w.heap.size, 2, none⟩ = some (.slice a2 (vs.length + 1) c2) ∧ X.cell? ⟨w.heap.size, 3, none⟩ = some (.slice a3 (rs.length + 1) c3)) (by kernel_rfl) (by rw [hv1]; exact HS.out _ (Fr.refl _ _)) (fun hSd => ?_)
      rw [hv1] at hSd ⊢
      clear hv1 hbd T0 T1 HL3 HZ3 HR5 HR6
      refine wpAnyH_take (i := 0) (oi := _) (v := ?_) rfl (by kernel_rfl) (by kernel_rfl) (by kernel_rfl) (fun _ _ _ h => h) (Or.inl ⟨by rfl, ?_⟩) (by assumption) ?_
      rotate_left
      · (intro w' hSw; obtain ⟨z0, z1, z2, z3⟩ := hSw; go_simp; try with_reducible rfl)
      (try simp only [List.getElem_toArray, List.getElem_cons_succ, List.getElem_cons_zero, Act.put, List.setIfInBounds_toArray, List.set_cons_zero, List.set_cons_succ])
      refine wpAnyH_take (i := 1) (oi := _) (v := ?_) rfl (by kernel_rfl) (by kernel_rfl) (by kernel_rfl) (fun _ _ _ h => h) (Or.inl ⟨by rfl, ?_⟩) (by assumption) ?_
      rotate_left
      · (intro w' hSw; obtain ⟨z0, z1, z2, z3⟩ := hSw; go_simp; try with_reducible rfl)
      (try simp only [List.getElem_toArray, List.getElem_cons_succ, List.getElem_cons_zero, Act.put, List.setIfInBounds_toArray, List.set_cons_zero, List.set_cons_succ])
      refine wpAnyH_take (i := 2) (oi := _) (v := ?_) rfl (by kernel_rfl) (by kernel_rfl) (by kernel_rfl) (fun _ _ _ h => h) (Or.inl ⟨by rfl, ?_⟩) (by assumption) ?_
      rotate_left
      · (intro w' hSw; obtain ⟨z0, z1, z2, z3⟩ := hSw; go_simp; try with_reducible rfl)
      (try simp only [List.getElem_toArray, List.getElem_cons_succ, List.getElem_cons_zero, Act.put, List.setIfInBounds_toArray, List.set_cons_zero, List.set_cons_succ])
      refine wpAnyH_take (i := 3) (oi := _) (v := ?_) rfl (by kernel_rfl) (by kernel_rfl) (by kernel_rfl) (fun _ _ _ h => h) (Or.inl ⟨by rfl, ?_⟩) (by assumption) ?_
      rotate_left
      · (intro w' hSw; obtain ⟨z0, z1, z2, z3⟩ := hSw; go_simp; try with_reducible rfl)
      (try simp only [List.getElem_toArray, List.getElem_cons_succ, List.getElem_cons_zero, Act.put, List.setIfInBounds_toArray, List.set_cons_zero, List.set_cons_succ])
      refine wpAnyH_ready (rs := [4]) (by kernel_rfl) (by simp) ?_
      refine AllReadyH.cons (o := _) rfl (fun K hK => ?_) AllReadyH.nil
      obtain ⟨f0, f1, f2, f3⟩ := st_free G1.out
      obtain ⟨k0, k1, k2, k3⟩ := st_cells G1.out
      have HF := mkHid ((Fr.refl [w.heap.size + 1] y1).four (g := w.heap.size + 1) (by simp) (.slice ac m.code.length cc) (.int .i64 (m.next + 1)) (.slice a2 (vs.length + 1) c2) (.slice a3 (rs.length + 1) c3))
      have G2 := mkHid (st_all G1.out (.slice ac m.code.length cc) (.int .i64 (m.next + 1)) (.slice a2 (vs.length + 1) c2) (.slice a3 (rs.length + 1) c3))
      have HL := mkHid (below_four HBY.out (g := w.heap.size + 1) (by omega) (.slice ac m.code.length cc) (.int .i64 (m.next + 1)) (.slice a2 (vs.length + 1) c2) (.slice a3 (rs.length + 1) c3))
      have HKK := mkHid ((Fr.refl us2 y1).four H02.out.2 (.slice ac m.code.length cc) (.int .i64 (m.next + 1)) (.slice a2 (vs.length + 1) c2) (.slice a3 (rs.length + 1) c3)).keeps
      go_simp
      try dsimp only
      refine hK.out _ _ (HS.out _ HF.out) (fun hSz => ?_)
      clear hK K f0 f1 f2 f3 k0 k1 k2 k3
      (try simp only [List.getElem_toArray, List.getElem_cons_succ, List.getElem_cons_zero, Act.put, List.setIfInBounds_toArray, List.set_cons_zero, List.set_cons_succ])
      refine wpAnyH_take (i := 5) (oi := _) (v := ?_) rfl (by kernel_rfl) (by kernel_rfl) (by kernel_rfl) (fun _ _ _ h => h) (Or.inl ⟨by rfl, ?_⟩) (by assumption) ?_
      rotate_left
      · (intro w' hSw; obtain ⟨z0, z1, z2, z3⟩ := hSw; go_simp; try with_reducible rfl)
      (try simp only [List.getElem_toArray, List.getElem_cons_succ, List.getElem_cons_zero, Act.put, List.setIfInBounds_toArray, List.set_cons_zero, List.set_cons_succ])
      refine wpAnyH_take (i := 6) (oi := _) (v := ?_) rfl (by kernel_rfl) (by kernel_rfl) (by kernel_rfl) (fun _ _ _ h => h) (Or.inl ⟨by rfl, ?_⟩) (by assumption) ?_
      rotate_left
      · (intro w' hSw; obtain ⟨z0, z1, z2, z3⟩ := hSw; go_simp; try with_reducible rfl)
      (try simp only [List.getElem_toArray, List.getElem_cons_succ, List.getElem_cons_zero, Act.put, List.setIfInBounds_toArray, List.set_cons_zero, List.set_cons_succ])
      refine wpAnyH_done (by kernel_rfl) (NoPanic.normal ?_) _
      obtain ⟨k0, k1, k2, k3⟩ := st_cells G2.out
      have HE1 := mkHid (HR8.out.keeps (HKK.out.trans (veil_mono _ HM2.out)))
      have HE2 := mkHid (HR7.out.keeps (HKK.out.trans (veil_mono _ HM2.out)))
      clear HS hSz HF hSd G0 G1 G2 HR7 HR8 HKK
      go_wp2_with fail
      have hwn : IntKind.i64.wrap m.next = m.next := IntWalk.i64_in _ (by omega)
      refine bodyPost_ret (v := .tuple #[.agg #[.slice ac m.code.length cc, .int .i64 (m.next + 1), .slice a2 (vs.length + 1) c2, .slice a3 (rs.length + 1) c3], .int .i64 m.next, .bool true]) (by simp [results, Try.results151, go_sem, *]) rfl ⟨a2, c2, a3, c3, rfl, ?_, ?_, ?_⟩
      · exact HE1.out
      · exact HE2.out
      · exact HL.out
    refine AllReadyH.cons (o := _) rfl (fun K hK => ?_) AllReadyH.nil
    go_simp
    have HB2 := mkHid (HB1.out.then ((Below.refl _ _).new (.cells #[.int .i64 m.next] 3)))
    try dsimp only
    refine hK.out _ _ (HS.out _ (Fr.of HB2.out)) (fun hS2 => ?_)
    clear hK K
    (try simp only [List.getElem_toArray, List.getElem_cons_succ, List.getElem_cons_zero, Act.put, List.setIfInBounds_toArray, List.set_cons_zero, List.set_cons_succ])
    refine wpAnyH_ready (rs := [0]) (by kernel_rfl) (by simp) ?_
    refine AllReadyH.cons (o := _) rfl (fun K hK => ?_) AllReadyH.nil
    go_simp
    have HB3 := mkHid (HB2.out.then ((Below.refl _ _).new (.cells #[] 3)))
    try dsimp only
    refine hK.out _ _ (HS.out _ (Fr.of HB3.out)) (fun hS3 => ?_)
    clear hK K
    (try simp only [List.getElem_toArray, List.getElem_cons_succ, List.getElem_cons_zero, Act.put, List.setIfInBounds_toArray, List.set_cons_zero, List.set_cons_succ])
    refine wpAnyH_ready (rs := [3]) (by kernel_rfl) (by simp) ?_
    refine AllReadyH.cons (o := _) rfl (fun K hK => ?_) AllReadyH.nil
    obtain ⟨v1, w1, a3, c3, w2, hrun1, hrun2, hr2, hc1, hc2⟩ := three_a (α := Int) (us := us2) (cs := #[.int .i64 m.next]) (y := m.next) Try.underlying41 Try.infoInt (by decide) (by decide) (HU2.out y0 HYZ.out) HC2.out (int_cR m.next hnr1 hnr2) (by omega) rs.length rfl
    have HB4 := mkHid hc1
    have HW2 := mkHid hc2
    have HR2 := mkHid hr2
    clear hc1 hc2 hr2
    (rw [if_pos (by rfl)]; simp [Oper.wp, execOp, resolve, invoke, builtin, Oper.upon, Act.eval, hrun1, Result.andThen, Sem.run_bind])
    try dsimp only
    refine hK.out _ _ (HS.out _ (Fr.of HB4.out)) (fun hS4 => ?_)
    clear hK K
    (try simp only [List.getElem_toArray, List.getElem_cons_succ, List.getElem_cons_zero, Act.put, List.setIfInBounds_toArray, List.set_cons_zero, List.set_cons_succ])
    refine wpAnyH_ready (rs := [7]) (by kernel_rfl) (by simp) ?_
    refine AllReadyH.cons (o := _) rfl (fun K hK => ?_) AllReadyH.nil
    have HB5 := HW2
    (rw [if_pos (by rfl)]; simp [Oper.wp, execOp, resolve, invoke, builtin, Oper.upon, Act.eval, hrun2, Result.andThen, Sem.run_bind])
    try dsimp only
    refine hK.out _ _ (HS.out _ (Fr.of HB5.out)) (fun hS5 => ?_)
    clear hK K
    (try simp only [List.getElem_toArray, List.getElem_cons_succ, List.getElem_cons_zero, Act.put, List.setIfInBounds_toArray, List.set_cons_zero, List.set_cons_succ])
    refine wpAnyH_take (i := 8) (oi := _) (v := ?_) rfl (by kernel_rfl) (by kernel_rfl) (by kernel_rfl) (fun _ _ _ h => h) (Or.inl ⟨by rfl, ?_⟩) (by assumption) ?_
    rotate_left
    · (intro w' hSw; obtain ⟨z0, z1⟩ := hSw; go_simp; try with_reducible rfl)
    (try simp only [List.getElem_toArray, List.getElem_cons_succ, List.getElem_cons_zero, Act.put, List.setIfInBounds_toArray, List.set_cons_zero, List.set_cons_succ])
    refine wpAnyH_ready (rs := [9]) (by kernel_rfl) (by simp) ?_
    refine AllReadyH.cons (o := _) rfl (fun K hK => ?_) AllReadyH.nil
    clear hrun1 hrun2
    have g0 := (HW2.out.block w.heap.size (by have := HYZ.out; omega)).trans G0.out
    have g1 := (HW2.out.block (w.heap.size + 1) (by have := HYZ.out; omega)).trans G1.out
    have tl : w2.cell? ⟨w.heap.size, 3, none⟩ = some (.slice ar rs.length cr) := (st_cells g0).2.2.2
    have tf : w2.frozen? ⟨w.heap.size, 3, none⟩ = false := (st_free g0).2.2.2
    have S0 := mkHid (st3_set g0 (.slice a3 (rs.length + 1) c3))
    have S1 := mkHid ((Below.heap_setCell w2 ⟨w.heap.size, 3, none⟩ (.slice a3 (rs.length + 1) c3) (w.heap.size + 1) (by show w.heap.size + 1 ≠ w.heap.size; omega)).trans g1)
    have HF2 := mkHid ((Fr.refl us2 w2).set (k := 3) H02.out.1 (.slice a3 (rs.length + 1) c3))
    have HF3 := mkHid ((Fr.of HW2.out : Fr us2 y0 w2).set (k := 3) H02.out.1 (.slice a3 (rs.length + 1) c3))
    have HL2 := mkHid ((HBY.out.trans (HW2.out.mono (by have := HYZ.out; omega))).setCell (p := ⟨w.heap.size, 3, none⟩) (Nat.le_refl _) (.slice a3 (rs.length + 1) c3))
    have HZ2 : Hid (w.heap.size + 2 ≤ (w2.setCell ⟨w.heap.size, 3, none⟩ (.slice a3 (rs.length + 1) c3)).heap.size) := by rw [Hid, World.size_setCell]; have := HW2.out.size; have := HYZ.out; omega
    clear g0 g1
    go_simp
    try dsimp only
    refine hK.out _ _ ⟨(st_cells S0.out).2.1, (st_cells S0.out).2.1⟩ (fun hSz => ?_)
    clear hK K tl tf
    (try simp only [List.getElem_toArray, List.getElem_cons_succ, List.getElem_cons_zero, Act.put, List.setIfInBounds_toArray, List.set_cons_zero, List.set_cons_succ])
    refine wpAnyH_done (by kernel_rfl) (NoPanic.normal ?_) _
    have HR3 : Hid (Row (veil us2 (w2.setCell ⟨w.heap.size, 3, none⟩ (.slice a3 (rs.length + 1) c3))) a3 c3 (rs ++ [m.next])) := HR2.out.keeps HF2.out.keeps
    have HR4 : Hid (Row (veil us2 (w2.setCell ⟨w.heap.size, 3, none⟩ (.slice a3 (rs.length + 1) c3))) a2 c2 (vs ++ [v])) := HRy.out.keeps HF3.out.keeps
    generalize w2.setCell ⟨w.heap.size, 3, none⟩ (.slice a3 (rs.length + 1) c3) = w5 at *
    clear HS hSz hSd HW2 HR2 HRy HF2 HF3 HBY G0 G1 HYZ HC2 C0 C1 HB0
    obtain ⟨l0, l1, l2, l3⟩ := st_cells S0.out
    obtain ⟨f0, f1, f2, f3⟩ := st_free S0.out
    go_wp2_with fail
    have T0 := mkHid (st1_set S0.out (.int .i64 (m.next + 1)))
    have T1 := mkHid ((Below.heap_setCell w5 ⟨w.heap.size, 1, none⟩ (.int .i64 (m.next + 1)) (w.heap.size + 1) (by show w.heap.size + 1 ≠ w.heap.size; omega)).trans S1.out)
    have HK := mkHid ((Fr.refl us2 w5).set (k := 1) H02.out.1 (.int .i64 (m.next + 1))).keeps
    have HL3 := mkHid (HL2.out.setCell (p := ⟨w.heap.size, 1, none⟩) (Nat.le_refl _) (.int .i64 (m.next + 1)))
    have HZ3 : Hid (w.heap.size + 2 ≤ (w5.setCell ⟨w.heap.size, 1, none⟩ (.int .i64 (m.next + 1))).heap.size) := by rw [Hid, World.size_setCell]; exact HZ2.out
    have HR5 := mkHid (HR3.out.keeps HK.out)
    have HR6 := mkHid (HR4.out.keeps HK.out)
    generalize w5.setCell ⟨w.heap.size, 1, none⟩ (.int .i64 (m.next + 1)) = w6 at *
    clear S0 S1 l0 l1 l2 l3 f0 f1 f2 f3 HK HL2 HZ2 HR3 HR4
    refine wp_region_noPanic ?_
    obtain ⟨y1, hv1⟩ : ∃ X, w6.drew = X := ⟨_, rfl⟩
    have hbd : Below w6.heap.size w6 y1 := by rw [← hv1]; exact (Below.refl _ _).drew
    have HBY := mkHid (HL3.out.then hbd)
    have G0 := mkHid ((hbd.block w.heap.size (by have := HZ3.out; omega)).trans T0.out)
    have G1 := mkHid ((hbd.block (w.heap.size + 1) (by have := HZ3.out; omega)).trans T1.out)
    have HR7 : Hid (Row (veil us2 y1) a3 c3 (rs ++ [m.next])) := HR5.out.keeps (veil_toR (Fr.of hbd) fun k hk => .inl hk)
    have HR8 : Hid (Row (veil us2 y1) a2 c2 (vs ++ [v])) := HR6.out.keeps (veil_toR (Fr.of hbd) fun k hk => .inl hk)
    have HYZ : Hid (w.heap.size + 2 ≤ y1.heap.size) := by have := HZ3.out; have := hbd.size; rw [Hid]; omega
    have HS : Hid (∀ X, Fr [w.heap.size + 1] y1 X → (fun X : World => X.cell? ⟨w.heap.size, 0, none⟩ = some (.slice ac m.code.length cc) ∧ X.cell? ⟨w.heap.size, 1, none⟩ = some (.int .i64 (m.next + 1)) ∧ X.cell? ⟨w.heap.size, 2, none⟩ = some (.slice a2 (vs.length + 1) c2) ∧ X.cell? ⟨w.heap.size, 3, none⟩ = some (.slice a3 (rs.length + 1) c3)) X) := fun X h => by
      have hx := (h.block w.heap.size (by have := HYZ.out; omega) (by simp)).trans G0.out
      exact st_cells hx
    refine wp_region_held_drew (S := fun X : World => X.cell? ⟨w.heap.size, 0, none⟩ = some (.slice ac m.code.length cc) ∧ X.cell? ⟨w.heap.size, 1, none⟩ = some (.int .i64 (m.next + 1)) ∧ X.cell? ⟨w.heap.size, 2, none⟩ = some (.slice a2 (vs.length + 1) c2) ∧ X.cell? ⟨w.heap.size, 3, none⟩ = some (.slice a3 (rs.length + 1) c3)) (by kernel_rfl) (by rw [hv1]; exact HS.out _ (Fr.refl _ _)) (fun hSd => ?_)
    rw [hv1] at hSd ⊢
    clear hv1 hbd T0 T1 HL3 HZ3 HR5 HR6
    refine wpAnyH_take (i := 0) (oi := _) (v := ?_) rfl (by kernel_rfl) (by kernel_rfl) (by kernel_rfl) (fun _ _ _ h => h) (Or.inl ⟨by rfl, ?_⟩) (by assumption) ?_
    rotate_left
    · (intro w' hSw; obtain ⟨z0, z1, z2, z3⟩ := hSw; go_simp; try with_reducible rfl)
    (try simp only [List.getElem_toArray, List.getElem_cons_succ, List.getElem_cons_zero, Act.put, List.setIfInBounds_toArray, List.set_cons_zero, List.set_cons_succ])
    refine wpAnyH_take (i := 1) (oi := _) (v := ?_) rfl (by kernel_rfl) (by kernel_rfl) (by kernel_rfl) (fun _ _ _ h => h) (Or.inl ⟨by rfl, ?_⟩) (by assumption) ?_
    rotate_left
    · (intro w' hSw; obtain ⟨z0, z1, z2, z3⟩ := hSw; go_simp; try with_reducible rfl)
    (try simp only [List.getElem_toArray, List.getElem_cons_succ, List.getElem_cons_zero, Act.put, List.setIfInBounds_toArray, List.set_cons_zero, List.set_cons_succ])
    refine wpAnyH_take (i := 2) (oi := _) (v := ?_) rfl (by kernel_rfl) (by kernel_rfl) (by kernel_rfl) (fun _ _ _ h => h) (Or.inl ⟨by rfl, ?_⟩) (by assumption) ?_
    rotate_left
    · (intro w' hSw; obtain ⟨z0, z1, z2, z3⟩ := hSw; go_simp; try with_reducible rfl)
    (try simp only [List.getElem_toArray, List.getElem_cons_succ, List.getElem_cons_zero, Act.put, List.setIfInBounds_toArray, List.set_cons_zero, List.set_cons_succ])
    refine wpAnyH_take (i := 3) (oi := _) (v := ?_) rfl (by kernel_rfl) (by kernel_rfl) (by kernel_rfl) (fun _ _ _ h => h) (Or.inl ⟨by rfl, ?_⟩) (by assumption) ?_
    rotate_left
    · (intro w' hSw; obtain ⟨z0, z1, z2, z3⟩ := hSw; go_simp; try with_reducible rfl)
    (try simp only [List.getElem_toArray, List.getElem_cons_succ, List.getElem_cons_zero, Act.put, List.setIfInBounds_toArray, List.set_cons_zero, List.set_cons_succ])
    refine wpAnyH_ready (rs := [4]) (by kernel_rfl) (by simp) ?_
    refine AllReadyH.cons (o := _) rfl (fun K hK => ?_) AllReadyH.nil
    obtain ⟨f0, f1, f2, f3⟩ := st_free G1.out
    obtain ⟨k0, k1, k2, k3⟩ := st_cells G1.out
    have HF := mkHid ((Fr.refl [w.heap.size + 1] y1).four (g := w.heap.size + 1) (by simp) (.slice ac m.code.length cc) (.int .i64 (m.next + 1)) (.slice a2 (vs.length + 1) c2) (.slice a3 (rs.length + 1) c3))
    have G2 := mkHid (st_all G1.out (.slice ac m.code.length cc) (.int .i64 (m.next + 1)) (.slice a2 (vs.length + 1) c2) (.slice a3 (rs.length + 1) c3))
    have HL := mkHid (below_four HBY.out (g := w.heap.size + 1) (by omega) (.slice ac m.code.length cc) (.int .i64 (m.next + 1)) (.slice a2 (vs.length + 1) c2) (.slice a3 (rs.length + 1) c3))
    have HKK := mkHid ((Fr.refl us2 y1).four H02.out.2 (.slice ac m.code.length cc) (.int .i64 (m.next + 1)) (.slice a2 (vs.length + 1) c2) (.slice a3 (rs.length + 1) c3)).keeps
    go_simp
    try dsimp only
    refine hK.out _ _ (HS.out _ HF.out) (fun hSz => ?_)
    clear hK K f0 f1 f2 f3 k0 k1 k2 k3
    (try simp only [List.getElem_toArray, List.getElem_cons_succ, List.getElem_cons_zero, Act.put, List.setIfInBounds_toArray, List.set_cons_zero, List.set_cons_succ])
    refine wpAnyH_take (i := 5) (oi := _) (v := ?_) rfl (by kernel_rfl) (by kernel_rfl) (by kernel_rfl) (fun _ _ _ h => h) (Or.inl ⟨by rfl, ?_⟩) (by assumption) ?_
    rotate_left
    · (intro w' hSw; obtain ⟨z0, z1, z2, z3⟩ := hSw; go_simp; try with_reducible rfl)
    (try simp only [List.getElem_toArray, List.getElem_cons_succ, List.getElem_cons_zero, Act.put, List.setIfInBounds_toArray, List.set_cons_zero, List.set_cons_succ])
    refine wpAnyH_take (i := 6) (oi := _) (v := ?_) rfl (by kernel_rfl) (by kernel_rfl) (by kernel_rfl) (fun _ _ _ h => h) (Or.inl ⟨by rfl, ?_⟩) (by assumption) ?_
    rotate_left
    · (intro w' hSw; obtain ⟨z0, z1, z2, z3⟩ := hSw; go_simp; try with_reducible rfl)
    (try simp only [List.getElem_toArray, List.getElem_cons_succ, List.getElem_cons_zero, Act.put, List.setIfInBounds_toArray, List.set_cons_zero, List.set_cons_succ])
    refine wpAnyH_done (by kernel_rfl) (NoPanic.normal ?_) _
    obtain ⟨k0, k1, k2, k3⟩ := st_cells G2.out
    have HE1 := mkHid (HR8.out.keeps (HKK.out.trans (veil_mono _ HM2.out)))
    have HE2 := mkHid (HR7.out.keeps (HKK.out.trans (veil_mono _ HM2.out)))
    clear HS hSz HF hSd G0 G1 G2 HR7 HR8 HKK
    go_wp2_with fail
    have hwn : IntKind.i64.wrap m.next = m.next := IntWalk.i64_in _ (by omega)
    refine bodyPost_ret (v := .tuple #[.agg #[.slice ac m.code.length cc, .int .i64 (m.next + 1), .slice a2 (vs.length + 1) c2, .slice a3 (rs.length + 1) c3], .int .i64 m.next, .bool true]) (by simp [results, Try.results151, go_sem, *]) rfl ⟨a2, c2, a3, c3, rfl, ?_, ?_, ?_⟩
    · exact HE1.out
    · exact HE2.out
    · exact HL.out
  refine AllReadyH.cons (o := _) rfl (fun K hK => ?_) AllReadyH.nil
  go_simp
  have HB1 := mkHid (HB0.out.then ((Below.refl _ _).new (.cells #[.int .i64 m.next] 3)))
  try dsimp only
  refine hK.out _ _ (HS.out _ (Fr.of HB1.out)) (fun hS1 => ?_)
  clear hK K
  (try simp only [List.getElem_toArray, List.getElem_cons_succ, List.getElem_cons_zero, Act.put, List.setIfInBounds_toArray, List.set_cons_zero, List.set_cons_succ])
  refine wpAnyH_ready (rs := [0, 2]) (by kernel_rfl) (by simp) ?_
  refine AllReadyH.cons (o := _) rfl (fun K hK => ?_) ?_
  · go_simp
    have HB2 := mkHid (HB1.out.then ((Below.refl _ _).new (.cells #[] 3)))
    try dsimp only
    refine hK.out _ _ (HS.out _ (Fr.of HB2.out)) (fun hS2 => ?_)
    clear hK K
    (try simp only [List.getElem_toArray, List.getElem_cons_succ, List.getElem_cons_zero, Act.put, List.setIfInBounds_toArray, List.set_cons_zero, List.set_cons_succ])
    refine wpAnyH_ready (rs := [2]) (by kernel_rfl) (by simp) ?_
    refine AllReadyH.cons (o := _) rfl (fun K hK => ?_) AllReadyH.nil
    have tl := keep C0.out HB2.out
    go_simp
    have HB3 := HB2
    clear tl
    try dsimp only
    refine hK.out _ _ (HS.out _ (Fr.of HB3.out)) (fun hS3 => ?_)
    clear hK K
    (try simp only [List.getElem_toArray, List.getElem_cons_succ, List.getElem_cons_zero, Act.put, List.setIfInBounds_toArray, List.set_cons_zero, List.set_cons_succ])
    refine wpAnyH_ready (rs := [3]) (by kernel_rfl) (by simp) ?_
    refine AllReadyH.cons (o := _) rfl (fun K hK => ?_) AllReadyH.nil
    obtain ⟨v1, w1, a3, c3, w2, hrun1, hrun2, hr2, hc1, hc2⟩ := three_a (α := Int) (us := us2) (cs := #[.int .i64 m.next]) (y := m.next) Try.underlying41 Try.infoInt (by decide) (by decide) (HU2.out y0 HYZ.out) HC2.out (int_cR m.next hnr1 hnr2) (by omega) rs.length rfl
    have HB4 := mkHid hc1
    have HW2 := mkHid hc2
    have HR2 := mkHid hr2
    clear hc1 hc2 hr2
    (rw [if_pos (by rfl)]; simp [Oper.wp, execOp, resolve, invoke, builtin, Oper.upon, Act.eval, hrun1, Result.andThen, Sem.run_bind])
    try dsimp only
    refine hK.out _ _ (HS.out _ (Fr.of HB4.out)) (fun hS4 => ?_)
    clear hK K
    (try simp only [List.getElem_toArray, List.getElem_cons_succ, List.getElem_cons_zero, Act.put, List.setIfInBounds_toArray, List.set_cons_zero, List.set_cons_succ])
    refine wpAnyH_ready (rs := [7]) (by kernel_rfl) (by simp) ?_
    refine AllReadyH.cons (o := _) rfl (fun K hK => ?_) AllReadyH.nil
    have HB5 := HW2
    (rw [if_pos (by rfl)]; simp [Oper.wp, execOp, resolve, invoke, builtin, Oper.upon, Act.eval, hrun2, Result.andThen, Sem.run_bind])
    try dsimp only
    refine hK.out _ _ (HS.out _ (Fr.of HB5.out)) (fun hS5 => ?_)
    clear hK K
    (try simp only [List.getElem_toArray, List.getElem_cons_succ, List.getElem_cons_zero, Act.put, List.setIfInBounds_toArray, List.set_cons_zero, List.set_cons_succ])
    refine wpAnyH_take (i := 8) (oi := _) (v := ?_) rfl (by kernel_rfl) (by kernel_rfl) (by kernel_rfl) (fun _ _ _ h => h) (Or.inl ⟨by rfl, ?_⟩) (by assumption) ?_
    rotate_left
    · (intro w' hSw; obtain ⟨z0, z1⟩ := hSw; go_simp; try with_reducible rfl)
    (try simp only [List.getElem_toArray, List.getElem_cons_succ, List.getElem_cons_zero, Act.put, List.setIfInBounds_toArray, List.set_cons_zero, List.set_cons_succ])
    refine wpAnyH_ready (rs := [9]) (by kernel_rfl) (by simp) ?_
    refine AllReadyH.cons (o := _) rfl (fun K hK => ?_) AllReadyH.nil
    clear hrun1 hrun2
    have g0 := (HW2.out.block w.heap.size (by have := HYZ.out; omega)).trans G0.out
    have g1 := (HW2.out.block (w.heap.size + 1) (by have := HYZ.out; omega)).trans G1.out
    have tl : w2.cell? ⟨w.heap.size, 3, none⟩ = some (.slice ar rs.length cr) := (st_cells g0).2.2.2
    have tf : w2.frozen? ⟨w.heap.size, 3, none⟩ = false := (st_free g0).2.2.2
    have S0 := mkHid (st3_set g0 (.slice a3 (rs.length + 1) c3))
    have S1 := mkHid ((Below.heap_setCell w2 ⟨w.heap.size, 3, none⟩ (.slice a3 (rs.length + 1) c3) (w.heap.size + 1) (by show w.heap.size + 1 ≠ w.heap.size; omega)).trans g1)
    have HF2 := mkHid ((Fr.refl us2 w2).set (k := 3) H02.out.1 (.slice a3 (rs.length + 1) c3))
    have HF3 := mkHid ((Fr.of HW2.out : Fr us2 y0 w2).set (k := 3) H02.out.1 (.slice a3 (rs.length + 1) c3))
    have HL2 := mkHid ((HBY.out.trans (HW2.out.mono (by have := HYZ.out; omega))).setCell (p := ⟨w.heap.size, 3, none⟩) (Nat.le_refl _) (.slice a3 (rs.length + 1) c3))
    have HZ2 : Hid (w.heap.size + 2 ≤ (w2.setCell ⟨w.heap.size, 3, none⟩ (.slice a3 (rs.length + 1) c3)).heap.size) := by rw [Hid, World.size_setCell]; have := HW2.out.size; have := HYZ.out; omega
    clear g0 g1
    go_simp
    try dsimp only
    refine hK.out _ _ ⟨(st_cells S0.out).2.1, (st_cells S0.out).2.1⟩ (fun hSz => ?_)
    clear hK K tl tf
    (try simp only [List.getElem_toArray, List.getElem_cons_succ, List.getElem_cons_zero, Act.put, List.setIfInBounds_toArray, List.set_cons_zero, List.set_cons_succ])
    refine wpAnyH_done (by kernel_rfl) (NoPanic.normal ?_) _
    have HR3 : Hid (Row (veil us2 (w2.setCell ⟨w.heap.size, 3, none⟩ (.slice a3 (rs.length + 1) c3))) a3 c3 (rs ++ [m.next])) := HR2.out.keeps HF2.out.keeps
    have HR4 : Hid (Row (veil us2 (w2.setCell ⟨w.heap.size, 3, none⟩ (.slice a3 (rs.length + 1) c3))) a2 c2 (vs ++ [v])) := HRy.out.keeps HF3.out.keeps
    generalize w2.setCell ⟨w.heap.size, 3, none⟩ (.slice a3 (rs.length + 1) c3) = w5 at *
    clear HS hSz hSd HW2 HR2 HRy HF2 HF3 HBY G0 G1 HYZ HC2 C0 C1 HB0
    obtain ⟨l0, l1, l2, l3⟩ := st_cells S0.out
    obtain ⟨f0, f1, f2, f3⟩ := st_free S0.out
    go_wp2_with fail
    have T0 := mkHid (st1_set S0.out (.int .i64 (m.next + 1)))
    have T1 := mkHid ((Below.heap_setCell w5 ⟨w.heap.size, 1, none⟩ (.int .i64 (m.next + 1)) (w.heap.size + 1) (by show w.heap.size + 1 ≠ w.heap.size; omega)).trans S1.out)
    have HK := mkHid ((Fr.refl us2 w5).set (k := 1) H02.out.1 (.int .i64 (m.next + 1))).keeps
    have HL3 := mkHid (HL2.out.setCell (p := ⟨w.heap.size, 1, none⟩) (Nat.le_refl _) (.int .i64 (m.next + 1)))
    have HZ3 : Hid (w.heap.size + 2 ≤ (w5.setCell ⟨w.heap.size, 1, none⟩ (.int .i64 (m.next + 1))).heap.size) := by rw [Hid, World.size_setCell]; exact HZ2.out
    have HR5 := mkHid (HR3.out.keeps HK.out)
    have HR6 := mkHid (HR4.out.keeps HK.out)
    generalize w5.setCell ⟨w.heap.size, 1, none⟩ (.int .i64 (m.next + 1)) = w6 at *
    clear S0 S1 l0 l1 l2 l3 f0 f1 f2 f3 HK HL2 HZ2 HR3 HR4
    refine wp_region_noPanic ?_
    obtain ⟨y1, hv1⟩ : ∃ X, w6.drew = X := ⟨_, rfl⟩
    have hbd : Below w6.heap.size w6 y1 := by rw [← hv1]; exact (Below.refl _ _).drew
    have HBY := mkHid (HL3.out.then hbd)
    have G0 := mkHid ((hbd.block w.heap.size (by have := HZ3.out; omega)).trans T0.out)
    have G1 := mkHid ((hbd.block (w.heap.size + 1) (by have := HZ3.out; omega)).trans T1.out)
    have HR7 : Hid (Row (veil us2 y1) a3 c3 (rs ++ [m.next])) := HR5.out.keeps (veil_toR (Fr.of hbd) fun k hk => .inl hk)
    have HR8 : Hid (Row (veil us2 y1) a2 c2 (vs ++ [v])) := HR6.out.keeps (veil_toR (Fr.of hbd) fun k hk => .inl hk)
    have HYZ : Hid (w.heap.size + 2 ≤ y1.heap.size) := by have := HZ3.out; have := hbd.size; rw [Hid]; omega
    have HS : Hid (∀ X, Fr [w.heap.size + 1] y1 X → (fun X : World => X.cell? ⟨w.heap.size, 0, none⟩ = some (.slice ac m.code.length cc) ∧ X.cell? ⟨w.heap.size, 1, none⟩ = some (.int .i64 (m.next + 1)) ∧ X.cell? ⟨w.heap.size, 2, none⟩ = some (.slice a2 (vs.length + 1) c2) ∧ X.cell? ⟨w.heap.size, 3, none⟩ = some (.slice a3 (rs.length + 1) c3)) X) := fun X h => by
      have hx := (h.block w.heap.size (by have := HYZ.out; omega) (by simp)).trans G0.out
      exact st_cells hx
    refine wp_region_held_drew (S := fun X : World => X.cell? ⟨w.heap.size, 0, none⟩ = some (.slice ac m.code.length cc) ∧ X.cell? ⟨w.heap.size, 1, none⟩ = some (.int .i64 (m.next + 1)) ∧ X.cell? ⟨w.heap.size, 2, none⟩ = some (.slice a2 (vs.length + 1) c2) ∧ X.cell? ⟨w.heap.size, 3, none⟩ = some (.slice a3 (rs.length + 1) c3)) (by kernel_rfl) (by rw [hv1]; exact HS.out _ (Fr.refl _ _)) (fun hSd => ?_)
    rw [hv1] at hSd ⊢
    clear hv1 hbd T0 T1 HL3 HZ3 HR5 HR6
    refine wpAnyH_take (i := 0) (oi := _) (v := ?_) rfl (by kernel_rfl) (by kernel_rfl) (by kernel_rfl) (fun _ _ _ h => h) (Or.inl ⟨by rfl, ?_⟩) (by assumption) ?_
    rotate_left
    · (intro w' hSw; obtain ⟨z0, z1, z2, z3⟩ := hSw; go_simp; try with_reducible rfl)
    (try simp only [List.getElem_toArray, List.getElem_cons_succ, List.getElem_cons_zero, Act.put, List.setIfInBounds_toArray, List.set_cons_zero, List.set_cons_succ])
    refine wpAnyH_take (i := 1) (oi := _) (v := ?_) rfl (by kernel_rfl) (by kernel_rfl) (by kernel_rfl) (fun _ _ _ h => h) (Or.inl ⟨by rfl, ?_⟩) (by assumption) ?_
    rotate_left
    · (intro w' hSw; obtain ⟨z0, z1, z2, z3⟩ := hSw; go_simp; try with_reducible rfl)
    (try simp only [List.getElem_toArray, List.getElem_cons_succ, List.getElem_cons_zero, Act.put, List.setIfInBounds_toArray, List.set_cons_zero, List.set_cons_succ])
    refine wpAnyH_take (i := 2) (oi := _) (v := ?_) rfl (by kernel_rfl) (by kernel_rfl) (by kernel_rfl) (fun _ _ _ h => h) (Or.inl ⟨by rfl, ?_⟩) (by assumption) ?_
    rotate_left
    · (intro w' hSw; obtain ⟨z0, z1, z2, z3⟩ := hSw; go_simp; try with_reducible rfl)
    (try simp only [List.getElem_toArray, List.getElem_cons_succ, List.getElem_cons_zero, Act.put, List.setIfInBounds_toArray, List.set_cons_zero, List.set_cons_succ])
    refine wpAnyH_take (i := 3) (oi := _) (v := ?_) rfl (by kernel_rfl) (by kernel_rfl) (by kernel_rfl) (fun _ _ _ h => h) (Or.inl ⟨by rfl, ?_⟩) (by assumption) ?_
    rotate_left
    · (intro w' hSw; obtain ⟨z0, z1, z2, z3⟩ := hSw; go_simp; try with_reducible rfl)
    (try simp only [List.getElem_toArray, List.getElem_cons_succ, List.getElem_cons_zero, Act.put, List.setIfInBounds_toArray, List.set_cons_zero, List.set_cons_succ])
    refine wpAnyH_ready (rs := [4]) (by kernel_rfl) (by simp) ?_
    refine AllReadyH.cons (o := _) rfl (fun K hK => ?_) AllReadyH.nil
    obtain ⟨f0, f1, f2, f3⟩ := st_free G1.out
    obtain ⟨k0, k1, k2, k3⟩ := st_cells G1.out
    have HF := mkHid ((Fr.refl [w.heap.size + 1] y1).four (g := w.heap.size + 1) (by simp) (.slice ac m.code.length cc) (.int .i64 (m.next + 1)) (.slice a2 (vs.length + 1) c2) (.slice a3 (rs.length + 1) c3))
    have G2 := mkHid (st_all G1.out (.slice ac m.code.length cc) (.int .i64 (m.next + 1)) (.slice a2 (vs.length + 1) c2) (.slice a3 (rs.length + 1) c3))
    have HL := mkHid (below_four HBY.out (g := w.heap.size + 1) (by omega) (.slice ac m.code.length cc) (.int .i64 (m.next + 1)) (.slice a2 (vs.length + 1) c2) (.slice a3 (rs.length + 1) c3))
    have HKK := mkHid ((Fr.refl us2 y1).four H02.out.2 (.slice ac m.code.length cc) (.int .i64 (m.next + 1)) (.slice a2 (vs.length + 1) c2) (.slice a3 (rs.length + 1) c3)).keeps
    go_simp
    try dsimp only
    refine hK.out _ _ (HS.out _ HF.out) (fun hSz => ?_)
    clear hK K f0 f1 f2 f3 k0 k1 k2 k3
    (try simp only [List.getElem_toArray, List.getElem_cons_succ, List.getElem_cons_zero, Act.put, List.setIfInBounds_toArray, List.set_cons_zero, List.set_cons_succ])
    refine wpAnyH_take (i := 5) (oi := _) (v := ?_) rfl (by kernel_rfl) (by kernel_rfl) (by kernel_rfl) (fun _ _ _ h => h) (Or.inl ⟨by rfl, ?_⟩) (by assumption) ?_
    rotate_left
    · (intro w' hSw; obtain ⟨z0, z1, z2, z3⟩ := hSw; go_simp; try with_reducible rfl)
    (try simp only [List.getElem_toArray, List.getElem_cons_succ, List.getElem_cons_zero, Act.put, List.setIfInBounds_toArray, List.set_cons_zero, List.set_cons_succ])
    refine wpAnyH_take (i := 6) (oi := _) (v := ?_) rfl (by kernel_rfl) (by kernel_rfl) (by kernel_rfl) (fun _ _ _ h => h) (Or.inl ⟨by rfl, ?_⟩) (by assumption) ?_
    rotate_left
    · (intro w' hSw; obtain ⟨z0, z1, z2, z3⟩ := hSw; go_simp; try with_reducible rfl)
    (try simp only [List.getElem_toArray, List.getElem_cons_succ, List.getElem_cons_zero, Act.put, List.setIfInBounds_toArray, List.set_cons_zero, List.set_cons_succ])
    refine wpAnyH_done (by kernel_rfl) (NoPanic.normal ?_) _
    obtain ⟨k0, k1, k2, k3⟩ := st_cells G2.out
    have HE1 := mkHid (HR8.out.keeps (HKK.out.trans (veil_mono _ HM2.out)))
    have HE2 := mkHid (HR7.out.keeps (HKK.out.trans (veil_mono _ HM2.out)))
    clear HS hSz HF hSd G0 G1 G2 HR7 HR8 HKK
    go_wp2_with fail
    have hwn : IntKind.i64.wrap m.next = m.next := IntWalk.i64_in _ (by omega)
    refine bodyPost_ret (v := .tuple #[.agg #[.slice ac m.code.length cc, .int .i64 (m.next + 1), .slice a2 (vs.length + 1) c2, .slice a3 (rs.length + 1) c3], .int .i64 m.next, .bool true]) (by simp [results, Try.results151, go_sem, *]) rfl ⟨a2, c2, a3, c3, rfl, ?_, ?_, ?_⟩
    · exact HE1.out
    · exact HE2.out
    · exact HL.out
  refine AllReadyH.cons (o := _) rfl (fun K hK => ?_) AllReadyH.nil
  have tl := keep C0.out HB1.out
  go_simp
  have HB2 := HB1
  clear tl
  try dsimp only
  refine hK.out _ _ (HS.out _ (Fr.of HB2.out)) (fun hS2 => ?_)
  clear hK K
  (try simp only [List.getElem_toArray, List.getElem_cons_succ, List.getElem_cons_zero, Act.put, List.setIfInBounds_toArray, List.set_cons_zero, List.set_cons_succ])
  refine wpAnyH_ready (rs := [0]) (by kernel_rfl) (by simp) ?_
  refine AllReadyH.cons (o := _) rfl (fun K hK => ?_) AllReadyH.nil
  go_simp
  have HB3 := mkHid (HB2.out.then ((Below.refl _ _).new (.cells #[] 3)))
  try dsimp only
  refine hK.out _ _ (HS.out _ (Fr.of HB3.out)) (fun hS3 => ?_)
  clear hK K
  (try simp only [List.getElem_toArray, List.getElem_cons_succ, List.getElem_cons_zero, Act.put, List.setIfInBounds_toArray, List.set_cons_zero, List.set_cons_succ])
  refine wpAnyH_ready (rs := [3]) (by kernel_rfl) (by simp) ?_
  refine AllReadyH.cons (o := _) rfl (fun K hK => ?_) AllReadyH.nil
  obtain ⟨v1, w1, a3, c3, w2, hrun1, hrun2, hr2, hc1, hc2⟩ := three_a (α := Int) (us := us2) (cs := #[.int .i64 m.next]) (y := m.next) Try.underlying41 Try.infoInt (by decide) (by decide) (HU2.out y0 HYZ.out) HC2.out (int_cR m.next hnr1 hnr2) (by omega) rs.length rfl
  have HB4 := mkHid hc1
  have HW2 := mkHid hc2
  have HR2 := mkHid hr2
  clear hc1 hc2 hr2
  (rw [if_pos (by rfl)]; simp [Oper.wp, execOp, resolve, invoke, builtin, Oper.upon, Act.eval, hrun1, Result.andThen, Sem.run_bind])
  try dsimp only
  refine hK.out _ _ (HS.out _ (Fr.of HB4.out)) (fun hS4 => ?_)
  clear hK K
  (try simp only [List.getElem_toArray, List.getElem_cons_succ, List.getElem_cons_zero, Act.put, List.setIfInBounds_toArray, List.set_cons_zero, List.set_cons_succ])
  refine wpAnyH_ready (rs := [7]) (by kernel_rfl) (by simp) ?_
  refine AllReadyH.cons (o := _) rfl (fun K hK => ?_) AllReadyH.nil
  have HB5 := HW2
  (rw [if_pos (by rfl)]; simp [Oper.wp, execOp, resolve, invoke, builtin, Oper.upon, Act.eval, hrun2, Result.andThen, Sem.run_bind])
  try dsimp only
  refine hK.out _ _ (HS.out _ (Fr.of HB5.out)) (fun hS5 => ?_)
  clear hK K
  (try simp only [List.getElem_toArray, List.getElem_cons_succ, List.getElem_cons_zero, Act.put, List.setIfInBounds_toArray, List.set_cons_zero, List.set_cons_succ])
  refine wpAnyH_take (i := 8) (oi := _) (v := ?_) rfl (by kernel_rfl) (by kernel_rfl) (by kernel_rfl) (fun _ _ _ h => h) (Or.inl ⟨by rfl, ?_⟩) (by assumption) ?_
  rotate_left
  · (intro w' hSw; obtain ⟨z0, z1⟩ := hSw; go_simp; try with_reducible rfl)
  (try simp only [List.getElem_toArray, List.getElem_cons_succ, List.getElem_cons_zero, Act.put, List.setIfInBounds_toArray, List.set_cons_zero, List.set_cons_succ])
  refine wpAnyH_ready (rs := [9]) (by kernel_rfl) (by simp) ?_
  refine AllReadyH.cons (o := _) rfl (fun K hK => ?_) AllReadyH.nil
  clear hrun1 hrun2
  have g0 := (HW2.out.block w.heap.size (by have := HYZ.out; omega)).trans G0.out
  have g1 := (HW2.out.block (w.heap.size + 1) (by have := HYZ.out; omega)).trans G1.out
  have tl : w2.cell? ⟨w.heap.size, 3, none⟩ = some (.slice ar rs.length cr) := (st_cells g0).2.2.2
  have tf : w2.frozen? ⟨w.heap.size, 3, none⟩ = false := (st_free g0).2.2.2
  have S0 := mkHid (st3_set g0 (.slice a3 (rs.length + 1) c3))
  have S1 := mkHid ((Below.heap_setCell w2 ⟨w.heap.size, 3, none⟩ (.slice a3 (rs.length + 1) c3) (w.heap.size + 1) (by show w.heap.size + 1 ≠ w.heap.size; omega)).trans g1)
  have HF2 := mkHid ((Fr.refl us2 w2).set (k := 3) H02.out.1 (.slice a3 (rs.length + 1) c3))
  have HF3 := mkHid ((Fr.of HW2.out : Fr us2 y0 w2).set (k := 3) H02.out.1 (.slice a3 (rs.length + 1) c3))
  have HL2 := mkHid ((HBY.out.trans (HW2.out.mono (by have := HYZ.out; omega))).setCell (p := ⟨w.heap.size, 3, none⟩) (Nat.le_refl _) (.slice a3 (rs.length + 1) c3))
  have HZ2 : Hid (w.heap.size + 2 ≤ (w2.setCell ⟨w.heap.size, 3, none⟩ (.slice a3 (rs.length + 1) c3)).heap.size) := by rw [Hid, World.size_setCell]; have := HW2.out.size; have := HYZ.out; omega
  clear g0 g1
  go_simp
  try dsimp only
  refine hK.out _ _ ⟨(st_cells S0.out).2.1, (st_cells S0.out).2.1⟩ (fun hSz => ?_)
  clear hK K tl tf
  (try simp only [List.getElem_toArray, List.getElem_cons_succ, List.getElem_cons_zero, Act.put, List.setIfInBounds_toArray, List.set_cons_zero, List.set_cons_succ])
  refine wpAnyH_done (by kernel_rfl) (NoPanic.normal ?_) _
  have HR3 : Hid (Row (veil us2 (w2.setCell ⟨w.heap.size, 3, none⟩ (.slice a3 (rs.length + 1) c3))) a3 c3 (rs ++ [m.next])) := HR2.out.keeps HF2.out.keeps
  have HR4 : Hid (Row (veil us2 (w2.setCell ⟨w.heap.size, 3, none⟩ (.slice a3 (rs.length + 1) c3))) a2 c2 (vs ++ [v])) := HRy.out.keeps HF3.out.keeps
  generalize w2.setCell ⟨w.heap.size, 3, none⟩ (.slice a3 (rs.length + 1) c3) = w5 at *
  clear HS hSz hSd HW2 HR2 HRy HF2 HF3 HBY G0 G1 HYZ HC2 C0 C1 HB0
  obtain ⟨l0, l1, l2, l3⟩ := st_cells S0.out
  obtain ⟨f0, f1, f2, f3⟩ := st_free S0.out
  go_wp2_with fail
  have T0 := mkHid (st1_set S0.out (.int .i64 (m.next + 1)))
  have T1 := mkHid ((Below.heap_setCell w5 ⟨w.heap.size, 1, none⟩ (.int .i64 (m.next + 1)) (w.heap.size + 1) (by show w.heap.size + 1 ≠ w.heap.size; omega)).trans S1.out)
  have HK := mkHid ((Fr.refl us2 w5).set (k := 1) H02.out.1 (.int .i64 (m.next + 1))).keeps
  have HL3 := mkHid (HL2.out.setCell (p := ⟨w.heap.size, 1, none⟩) (Nat.le_refl _) (.int .i64 (m.next + 1)))
  have HZ3 : Hid (w.heap.size + 2 ≤ (w5.setCell ⟨w.heap.size, 1, none⟩ (.int .i64 (m.next + 1))).heap.size) := by rw [Hid, World.size_setCell]; exact HZ2.out
  have HR5 := mkHid (HR3.out.keeps HK.out)
  have HR6 := mkHid (HR4.out.keeps HK.out)
  generalize w5.setCell ⟨w.heap.size, 1, none⟩ (.int .i64 (m.next + 1)) = w6 at *
  clear S0 S1 l0 l1 l2 l3 f0 f1 f2 f3 HK HL2 HZ2 HR3 HR4
  refine wp_region_noPanic ?_
  obtain ⟨y1, hv1⟩ : ∃ X, w6.drew = X := ⟨_, rfl⟩
  have hbd : Below w6.heap.size w6 y1 := by rw [← hv1]; exact (Below.refl _ _).drew
  have HBY := mkHid (HL3.out.then hbd)
  have G0 := mkHid ((hbd.block w.heap.size (by have := HZ3.out; omega)).trans T0.out)
  have G1 := mkHid ((hbd.block (w.heap.size + 1) (by have := HZ3.out; omega)).trans T1.out)
  have HR7 : Hid (Row (veil us2 y1) a3 c3 (rs ++ [m.next])) := HR5.out.keeps (veil_toR (Fr.of hbd) fun k hk => .inl hk)
  have HR8 : Hid (Row (veil us2 y1) a2 c2 (vs ++ [v])) := HR6.out.keeps (veil_toR (Fr.of hbd) fun k hk => .inl hk)
  have HYZ : Hid (w.heap.size + 2 ≤ y1.heap.size) := by have := HZ3.out; have := hbd.size; rw [Hid]; omega
  have HS : Hid (∀ X, Fr [w.heap.size + 1] y1 X → (fun X : World => X.cell? ⟨w.heap.size, 0, none⟩ = some (.slice ac m.code.length cc) ∧ X.cell? ⟨w.heap.size, 1, none⟩ = some (.int .i64 (m.next + 1)) ∧ X.cell? ⟨w.heap.size, 2, none⟩ = some (.slice a2 (vs.length + 1) c2) ∧ X.cell? ⟨w.heap.size, 3, none⟩ = some (.slice a3 (rs.length + 1) c3)) X) := fun X h => by
    have hx := (h.block w.heap.size (by have := HYZ.out; omega) (by simp)).trans G0.out
    exact st_cells hx
  refine wp_region_held_drew (S := fun X : World => X.cell? ⟨w.heap.size, 0, none⟩ = some (.slice ac m.code.length cc) ∧ X.cell? ⟨w.heap.size, 1, none⟩ = some (.int .i64 (m.next + 1)) ∧ X.cell? ⟨w.heap.size, 2, none⟩ = some (.slice a2 (vs.length + 1) c2) ∧ X.cell? ⟨w.heap.size, 3, none⟩ = some (.slice a3 (rs.length + 1) c3)) (by kernel_rfl) (by rw [hv1]; exact HS.out _ (Fr.refl _ _)) (fun hSd => ?_)
  rw [hv1] at hSd ⊢
  clear hv1 hbd T0 T1 HL3 HZ3 HR5 HR6
  refine wpAnyH_take (i := 0) (oi := _) (v := ?_) rfl (by kernel_rfl) (by kernel_rfl) (by kernel_rfl) (fun _ _ _ h => h) (Or.inl ⟨by rfl, ?_⟩) (by assumption) ?_
  rotate_left
  · (intro w' hSw; obtain ⟨z0, z1, z2, z3⟩ := hSw; go_simp; try with_reducible rfl)
  (try simp only [List.getElem_toArray, List.getElem_cons_succ, List.getElem_cons_zero, Act.put, List.setIfInBounds_toArray, List.set_cons_zero, List.set_cons_succ])
  refine wpAnyH_take (i := 1) (oi := _) (v := ?_) rfl (by kernel_rfl) (by kernel_rfl) (by kernel_rfl) (fun _ _ _ h => h) (Or.inl ⟨by rfl, ?_⟩) (by assumption) ?_
  rotate_left
  · (intro w' hSw; obtain ⟨z0, z1, z2, z3⟩ := hSw; go_simp; try with_reducible rfl)
  (try simp only [List.getElem_toArray, List.getElem_cons_succ, List.getElem_cons_zero, Act.put, List.setIfInBounds_toArray, List.set_cons_zero, List.set_cons_succ])
  refine wpAnyH_take (i := 2) (oi := _) (v := ?_) rfl (by kernel_rfl) (by kernel_rfl) (by kernel_rfl) (fun _ _ _ h => h) (Or.inl ⟨by rfl, ?_⟩) (by assumption) ?_
  rotate_left
  · (intro w' hSw; obtain ⟨z0, z1, z2, z3⟩ := hSw; go_simp; try with_reducible rfl)
  (try simp only [List.getElem_toArray, List.getElem_cons_succ, List.getElem_cons_zero, Act.put, List.setIfInBounds_toArray, List.set_cons_zero, List.set_cons_succ])
  refine wpAnyH_take (i := 3) (oi := _) (v := ?_) rfl (by kernel_rfl) (by kernel_rfl) (by kernel_rfl) (fun _ _ _ h => h) (Or.inl ⟨by rfl, ?_⟩) (by assumption) ?_
  rotate_left
  · (intro w' hSw; obtain ⟨z0, z1, z2, z3⟩ := hSw; go_simp; try with_reducible rfl)
  (try simp only [List.getElem_toArray, List.getElem_cons_succ, List.getElem_cons_zero, Act.put, List.setIfInBounds_toArray, List.set_cons_zero, List.set_cons_succ])
  refine wpAnyH_ready (rs := [4]) (by kernel_rfl) (by simp) ?_
  refine AllReadyH.cons (o := _) rfl (fun K hK => ?_) AllReadyH.nil
  obtain ⟨f0, f1, f2, f3⟩ := st_free G1.out
  obtain ⟨k0, k1, k2, k3⟩ := st_cells G1.out
  have HF := mkHid ((Fr.refl [w.heap.size + 1] y1).four (g := w.heap.size + 1) (by simp) (.slice ac m.code.length cc) (.int .i64 (m.next + 1)) (.slice a2 (vs.length + 1) c2) (.slice a3 (rs.length + 1) c3))
  have G2 := mkHid (st_all G1.out (.slice ac m.code.length cc) (.int .i64 (m.next + 1)) (.slice a2 (vs.length + 1) c2) (.slice a3 (rs.length + 1) c3))
  have HL := mkHid (below_four HBY.out (g := w.heap.size + 1) (by omega) (.slice ac m.code.length cc) (.int .i64 (m.next + 1)) (.slice a2 (vs.length + 1) c2) (.slice a3 (rs.length + 1) c3))
  have HKK := mkHid ((Fr.refl us2 y1).four H02.out.2 (.slice ac m.code.length cc) (.int .i64 (m.next + 1)) (.slice a2 (vs.length + 1) c2) (.slice a3 (rs.length + 1) c3)).keeps
  go_simp
  try dsimp only
  refine hK.out _ _ (HS.out _ HF.out) (fun hSz => ?_)
  clear hK K f0 f1 f2 f3 k0 k1 k2 k3
  (try simp only [List.getElem_toArray, List.getElem_cons_succ, List.getElem_cons_zero, Act.put, List.setIfInBounds_toArray, List.set_cons_zero, List.set_cons_succ])
  refine wpAnyH_take (i := 5) (oi := _) (v := ?_) rfl (by kernel_rfl) (by kernel_rfl) (by kernel_rfl) (fun _ _ _ h => h) (Or.inl ⟨by rfl, ?_⟩) (by assumption) ?_
  rotate_left
  · (intro w' hSw; obtain ⟨z0, z1, z2, z3⟩ := hSw; go_simp; try with_reducible rfl)
  (try simp only [List.getElem_toArray, List.getElem_cons_succ, List.getElem_cons_zero, Act.put, List.setIfInBounds_toArray, List.set_cons_zero, List.set_cons_succ])
  refine wpAnyH_take (i := 6) (oi := _) (v := ?_) rfl (by kernel_rfl) (by kernel_rfl) (by kernel_rfl) (fun _ _ _ h => h) (Or.inl ⟨by rfl, ?_⟩) (by assumption) ?_
  rotate_left
  · (intro w' hSw; obtain ⟨z0, z1, z2, z3⟩ := hSw; go_simp; try with_reducible rfl)
  (try simp only [List.getElem_toArray, List.getElem_cons_succ, List.getElem_cons_zero, Act.put, List.setIfInBounds_toArray, List.set_cons_zero, List.set_cons_succ])
  refine wpAnyH_done (by kernel_rfl) (NoPanic.normal ?_) _
  obtain ⟨k0, k1, k2, k3⟩ := st_cells G2.out
  have HE1 := mkHid (HR8.out.keeps (HKK.out.trans (veil_mono _ HM2.out)))
  have HE2 := mkHid (HR7.out.keeps (HKK.out.trans (veil_mono _ HM2.out)))
  clear HS hSz HF hSd G0 G1 G2 HR7 HR8 HKK
  go_wp2_with fail
  have hwn : IntKind.i64.wrap m.next = m.next := IntWalk.i64_in _ (by omega)
  refine bodyPost_ret (v := .tuple #[.agg #[.slice ac m.code.length cc, .int .i64 (m.next + 1), .slice a2 (vs.length + 1) c2, .slice a3 (rs.length + 1) c3], .int .i64 m.next, .bool true]) (by simp [results, Try.results151, go_sem, *]) rfl ⟨a2, c2, a3, c3, rfl, ?_, ?_, ?_⟩
  · exact HE1.out
  · exact HE2.out
  · exact HL.out
end Go.Proofs.Ytmmnfkggfnokjaa
namespace Go.Proofs.Ytmmnfkggfnokjaa
open Go.RowKit
set_option maxHeartbeats 1600000 in
theorem refparts_own (a : Option Addr) (cap : Nat) (w : World) (xs : List Cel) (hr : Row w a cap xs) (hR : rightB xs = true) (hz : 0 < xs.length) (h3 : xs[0].k = 3) :
    Calls Try.prog 67 #[.slice a xs.length cap] w fun e w' => ∃ v vs, e = .returned v ∧ w'.ownsRow w.heap.size 22 1 v (partsL xs).length vs ∧ (∀ z, Row z a cap xs → SlRows z vs (partsL xs)) ∧ Below w.heap.size w w' := by
  have hm := hr.max
  have hle := hr.le
  have h6 := ar_le6 hR
  obtain ⟨c, l, e0, hc, _, h200⟩ := right_sk hR
  have h0 : 0 < xs.length := by rw [e0]; simp
  have hc0 : xs[0] = c := by simp [e0]
  have har : ar0 xs = ar xs[0] := by rw [hc0, e0]; rfl
  have hm0 := World.ownsRow_made (base := w.heap.size) (e := 22) (size := 1) w #[] 0 (Nat.le_refl _) (by unfold maxLen; omega) rfl
  have hb0 := (Below.refl w.heap.size w).new (.cells #[] 22)
  have hl0 : ((xs.length : Int) == 0) = false := by simp; intro e; simp [e] at h0
  obtain ⟨b, off, rfl, hb, hat⟩ := hr.cases.resolve_left (fun e => by simp [e] at h0)
  obtain ⟨c0, c1, c2, hf⟩ := cel_at hat (Below.refl _ _) h0
  simp only [Nat.zero_mul, Nat.add_zero] at c0 c1 c2
  · have t3 : (xs[0].k != 3) = false := by simp [h3]
    have hn : xs[0].n = ar0 xs := by
      have := arI_ar hc; rw [← hc0] at this; rw [har, ← this]; unfold arI; rw [if_pos h3]
    have HN := mkHid hn
    have HR := mkHid hR
    clear hR e0 hc hc0 har h3 hn
    go_enter Try.func67, Try.ntmps67
    go_wp2_with fail
    go_loopw [3, 4, 5] (fun v i j wr => ∃ (k : Nat) (vs : List Value), k ≤ ar0 xs ∧ j = .int .i64 k ∧ i = .int .i64 (aN xs k) ∧ wr.ownsRow w.heap.size 22 1 v k vs ∧ Below w.heap.size w wr ∧ Hid (∀ z, Row z (some ⟨b, off, none⟩) cap xs → SlRows z vs ((List.range k).map (partJ xs)))) (fun v i j wr => ar0 xs - (intOf j).toNat)
    case atStart => exact ⟨0, [], Nat.zero_le _, rfl, by unfold aN; rw [afterI_zero (by omega)]; rfl, hm0, hb0, fun z _ => SlRows.nil z⟩
    case round =>
      obtain ⟨k, vs, hk, rfl, rfl, hown, hbl, HS⟩ := hrel
      have d2 : wr.cell? ⟨b, off + 2, none⟩ = some (.int .i64 (ar0 xs)) := by rw [← HN.out]; exact keep c2 hbl
      clear c0 c1 c2
      by_cases hlt : k < ar0 xs
      · have hra := (right_after HR.out hk).2
        have hrb := (right_after HR.out (show k + 1 ≤ ar0 xs from hlt)).2
        have hrn := (right_next HR.out hlt).1
        have HP := mkHid (right_next HR.out hlt).2
        obtain ⟨q1, q2, _⟩ := hra
        obtain ⟨q3, q4, _⟩ := hrb
        have hr1 := hr.below hbl
        have hrow3 := hr.slice (i := aN xs k) (j := aN xs (k + 1)) (by omega) q4
        have HS4 : Hid (∀ z, Row z (some ⟨b, off, none⟩) cap xs → SlRows z (vs ++ [.slice (some ⟨b, off + aN xs k * 3, none⟩) (partJ xs k).length (cap - aN xs k)]) ((List.range k).map (partJ xs) ++ [partJ xs k])) := by
          intro z hz2
          exact (HS.out z hz2).snoc (hz2.slice (i := aN xs k) (j := aN xs (k + 1)) (by omega) q4)
        clear hrow3
        have HL := mkHid (take_drop_len HR.out hlt)
        go_wp2_with (first
          | (go_at_call 90; refine (refend_any _ cap (aN xs k) _ xs hr1 (by omega) (by omega)).mono ?_; rintro e w3 ⟨rfl, hb3⟩; rw [HP.out]; have hown3 := own_below hown hb3; have hbl3 := hbl.then hb3)
          | (at_builtin; refine wpList_app rfl _ _ 68 rfl w.heap.size 22 1 24 _ Try.underlying68 Try.infoSl rfl (by decide) (by decide) _ k _ rfl (hown3.alloc _) (some ⟨_, 0, none⟩) 1 1 [.slice (some ⟨b, off + aN xs k * 3, none⟩) (aN xs (k + 1) - aN xs k) (cap - aN xs k)] rfl (src_new _ #[.slice (some ⟨b, off + aN xs k * 3, none⟩) (aN xs (k + 1) - aN xs k) (cap - aN xs k)] _ 1 rfl (by simp [Value.oneCell'])) (by omega) (Nat.le_trans hbl3.size (by simp)) ?_; intro v' w5 hown5 _ hb5))
        go_round
        case rel => exact ⟨k + 1, vs ++ [.slice (some ⟨b, off + aN xs k * 3, none⟩) (aN xs (k + 1) - aN xs k) (cap - aN xs k)], by omega, by go_num, rfl, hown5, (hbl3.new _).trans hb5, by rw [parts_succ, HL.out]; exact HS4.out⟩
        case measure => simp [intOf]; omega
      · obtain rfl : k = ar0 xs := by omega
        have hl : (partsL xs).length = ar0 xs := by simp [partsL]
        have HL := mkHid hl
        have HO : Hid (wr.ownsRow w.heap.size 22 1 u3 (partsL xs).length vs) := by rw [Hid, hl]; exact hown
        clear hl hown
        go_wp2
        go_ret
        exact ⟨u3, vs, rfl, HO.out, HS.out, hbl⟩
end Go.Proofs.Ytmmnfkggfnokjaa
set_option linter.unusedVariables false
namespace Go.Proofs.Ytmmnfkggfnokjaa
open Go.RowKit
/-! ### a state, with its numbers -/
structure Bj (j : Int) (m : MkS) (vs rs : List Int) : Prop where
  n0 : 0 ≤ m.next
  n1 : m.next ≤ m.code.length + 10 + j
  len : vs.length = rs.length
  few : (vs.length : Int) ≤ m.code.length + j
  at_ : ∀ n, m.at_ n = look vs rs n
theorem Bj.mono {j i : Int} {m : MkS} {vs rs : List Int} (h : Bj j m vs rs) (hj : j ≤ i) : Bj i m vs rs :=
  ⟨h.n0, by have := h.n1; omega, h.len, by have := h.few; omega, h.at_⟩
theorem Bj.lay {j : Int} {m : MkS} {vs rs : List Int} (h : Bj j m vs rs) (i : Ins) : Bj (j - 1) (m.lay i) vs rs :=
  ⟨h.n0, by have := h.n1; rw [lay_len]; show m.next ≤ _; omega, h.len, by have := h.few; rw [lay_len]; omega, h.at_⟩
theorem Bj.fresh {j : Int} {m : MkS} {vs rs : List Int} (h : Bj j m vs rs) : Bj (j + 1) m.fresh vs rs :=
  ⟨by have := h.n0; show 0 ≤ m.next + 1; omega, by have := h.n1; show m.next + 1 ≤ m.code.length + 10 + (j + 1); omega, h.len, by have := h.few; show (vs.length : Int) ≤ m.code.length + (j + 1); omega, h.at_⟩
/-- a variable's register, and whether it is new -/
def regM (m : MkS) (n : Int) : MkS × Int × Bool := match m.at_ n with
  | some r => (m, r, false)
  | none => ({ m.fresh with at_ := fun j => if j = n then some m.next else m.at_ j }, m.next, true)
theorem var_reg (m : MkS) (n f g a : Int) : m.var n f g a = (regM m n).1.lay ⟨if (regM m n).2.2 then f else g, (regM m n).2.1, a, ⟨#[]⟩, 0, false⟩ := by
  unfold MkS.var regM
  split <;> simp_all
theorem regM_code (m : MkS) (n : Int) : (regM m n).1.code = m.code := by
  unfold regM
  split <;> rfl
/-- a state's rows and numbers -/
structure SX (j : Int) (us : List Nat) (W : World) (ac : Option Addr) (cc : Nat) (av : Option Addr) (cv : Nat) (ar : Option Addr) (cr : Nat) (m : MkS) (vs rs : List Int) : Prop where
  st : StR us W ac cc av cv ar cr m vs rs
  b : Bj j m vs rs
section
variable {j i : Int} {us us' : List Nat} {W W' : World} {ac av ar : Option Addr} {cc cv cr B : Nat} {m : MkS} {vs rs : List Int}
theorem SX.mono (h : SX j us W ac cc av cv ar cr m vs rs) (hj : j ≤ i) : SX i us W ac cc av cv ar cr m vs rs := ⟨h.st, h.b.mono hj⟩
theorem SX.to (h : SX j us W ac cc av cv ar cr m vs rs) (hf : Fr us W W') (hk : ∀ k ∈ us', k ∈ us ∨ W.heap.size ≤ k) : SX j us' W' ac cc av cv ar cr m vs rs := ⟨h.st.to hf hk, h.b⟩
theorem SX.on (h : SX j us W ac cc av cv ar cr m vs rs) (hf : Fr us W W') : SX j us W' ac cc av cv ar cr m vs rs := h.to hf fun k hk => .inl hk
theorem SX.sub (h : SX j us W ac cc av cv ar cr m vs rs) (hk : ∀ k ∈ us', k ∈ us) : SX j us' W ac cc av cv ar cr m vs rs := ⟨h.st.mono hk, h.b⟩
end
/-- a state in a box -/
def SB (j : Int) (us : List Nat) (W : World) (B : Nat) (m : MkS) : Prop := ∃ ac cc av cv ar cr vs rs, W.heap[B]? = some (.cells #[.slice ac m.code.length cc, .int .i64 m.next, .slice av (List.length vs) cv, .slice ar (List.length rs) cr] 104 (0, 0)) ∧ SX j us W ac cc av cv ar cr m vs rs
section
variable {j : Int} {us us' : List Nat} {W W' : World} {B : Nat} {m : MkS}
theorem SB.mono {i : Int} (h : SB j us W B m) (hj : j ≤ i) : SB i us W B m :=
  let ⟨ac, cc, av, cv, ar, cr, vs, rs, h1, h2⟩ := h
  ⟨ac, cc, av, cv, ar, cr, vs, rs, h1, h2.mono hj⟩
theorem SB.on (h : SB j us W B m) (hf : Fr us W W') (hB : W'.heap[B]? = W.heap[B]?) : SB j us W' B m :=
  let ⟨ac, cc, av, cv, ar, cr, vs, rs, h1, h2⟩ := h
  ⟨ac, cc, av, cv, ar, cr, vs, rs, hB.trans h1, h2.on hf⟩
theorem SB.stored {ac av ar : Option Addr} {cc cv cr : Nat} {vs rs : List Int} {x0 x1 x2 x3 : Value} (hb : W.heap[B]? = some (.cells #[x0, x1, x2, x3] 104 (0, 0))) (hu : B ∈ us) (h : SX j us W ac cc av cv ar cr m vs rs) :
    SB j us ((((W.setCell ⟨B, 0, none⟩ (.slice ac m.code.length cc)).setCell ⟨B, 1, none⟩ (.int .i64 m.next)).setCell ⟨B, 2, none⟩ (.slice av vs.length cv)).setCell ⟨B, 3, none⟩ (.slice ar rs.length cr)) B m :=
  ⟨ac, cc, av, cv, ar, cr, vs, rs, st_all hb _ _ _ _, h.on ((Fr.refl us W).four hu _ _ _ _)⟩
/-- its next register, taken -/
theorem SB.next (h : SB j us W B m) (hu : B ∈ us) : SB (j + 1) us (W.setCell ⟨B, 1, none⟩ (.int .i64 (m.next + 1))) B m.fresh := by
  obtain ⟨ac, cc, av, cv, ar, cr, vs, rs, h1, h2⟩ := h
  have hf : Fr us W (W.setCell ⟨B, 1, none⟩ (.int .i64 (m.next + 1))) := (Fr.refl us W).set hu _
  exact ⟨ac, cc, av, cv, ar, cr, vs, rs, st1_set h1 (.int .i64 (m.next + 1)), ⟨h2.st.c.keeps hf.keeps, h2.st.v.keeps hf.keeps, h2.st.r.keeps hf.keeps⟩, h2.b.fresh⟩
end
/-! ### the contracts, over such states -/
theorem emit_sx (j : Int) (us : List Nat) (w : World) (ac : Option Addr) (cc : Nat) (av : Option Addr) (cv : Nat) (ar : Option Addr) (cr : Nat) (m : MkS) (vs rs : List Int) (i : Ins) (hi : i.fit) (hu : ∀ k ∈ us, k < w.heap.size) (h : SX j us w ac cc av cv ar cr m vs rs) (hl : m.code.length ≤ 10000) :
    Calls Try.prog 70 #[.agg #[.slice ac m.code.length cc, .int .i64 m.next, .slice av vs.length cv, .slice ar rs.length cr], .agg #[.int .i64 i.op, .int .i64 i.x, .int .i64 i.a, .string i.s, .int .i64 i.n, .bool i.neg]] w fun e w' => ∃ a2 c2, e = .returned (.agg #[.slice a2 (m.lay i).code.length c2, .int .i64 (m.lay i).next, .slice av vs.length cv, .slice ar rs.length cr]) ∧ SX (j - 1) us w' a2 c2 av cv ar cr (m.lay i) vs rs ∧ Below w.heap.size w w' := by
  refine (emit_any us w ac cc av cv ar cr m vs rs i hi hu h.st.c (by omega)).mono ?_
  rintro e w' ⟨a2, c2, rfl, hr, hb⟩
  have hk : Keeps (veil us w) (veil us w') := veil_toR (Fr.of hb) fun k hk => .inl hk
  refine ⟨a2, c2, ?_, ⟨⟨hr, h.st.v.keeps hk, h.st.r.keeps hk⟩, h.b.lay i⟩, hb⟩
  rw [lay_len]
  rfl
theorem register_sx (us : List Nat) (w : World) (ac : Option Addr) (cc : Nat) (av : Option Addr) (cv : Nat) (ar : Option Addr) (cr : Nat) (m : MkS) (vs rs : List Int) (n : Int) (hn1 : -9223372036854775808 ≤ n) (hn2 : n ≤ 9223372036854775807) (hu : ∀ k ∈ us, k < w.heap.size) (h : SX 0 us w ac cc av cv ar cr m vs rs) (hl : m.code.length ≤ 10000) :
    Calls Try.prog 151 #[.agg #[.slice ac m.code.length cc, .int .i64 m.next, .slice av vs.length cv, .slice ar rs.length cr], .int .i64 n] w fun e w' => ∃ av' cv' ar' cr' vs' rs', e = .returned (.tuple #[.agg #[.slice ac (regM m n).1.code.length cc, .int .i64 (regM m n).1.next, .slice av' (List.length vs') cv', .slice ar' (List.length rs') cr'], .int .i64 (regM m n).2.1, .bool (regM m n).2.2]) ∧ (-9223372036854775808 ≤ (regM m n).2.1 ∧ (regM m n).2.1 ≤ 9223372036854775807) ∧ SX 1 us w' ac cc av' cv' ar' cr' (regM m n).1 vs' rs' ∧ Below w.heap.size w w' := by
  obtain ⟨h1, h2⟩ := h
  have hf := h2.few
  have hn := h2.n1
  have hn0 := h2.n0
  by_cases hv : n ∈ vs
  · have hb : Bd m vs rs := ⟨h2.n0, by omega, h2.len, by omega, h2.at_⟩
    refine (register_yes us w ac cc av cv ar cr m vs rs n h1 hb hv (by omega)).mono ?_
    rintro e w' ⟨r, hr, hr2, rfl, hb'⟩
    have hM : regM m n = (m, r, false) := by unfold regM; rw [hr]
    rw [hM]
    exact ⟨av, cv, ar, cr, vs, rs, rfl, hr2, (⟨h1, h2⟩ : SX 0 us w ac cc av cv ar cr m vs rs).on (Fr.of hb') |>.mono (by omega), hb'⟩
  · refine (register_no us w ac cc av cv ar cr m vs rs n hn1 hn2 hu h1 hn0 (by omega) h2.len hv (by omega)).mono ?_
    rintro e w' ⟨a2, c2, a3, c3, rfl, hr2, hr3, hb'⟩
    have hk : Keeps (veil us w) (veil us w') := veil_toR (Fr.of hb') fun k hk => .inl hk
    have hat : m.at_ n = none := by rw [h2.at_]; exact look_none vs rs n hv
    have hM : regM m n = ({ m.fresh with at_ := fun j => if j = n then some m.next else m.at_ j }, m.next, true) := by unfold regM; rw [hat]
    rw [hM]
    refine ⟨a2, c2, a3, c3, vs ++ [n], rs ++ [m.next], ?_, ⟨by show _ ≤ m.next; omega, by show m.next ≤ _; omega⟩, ⟨⟨h1.c.keeps hk, hr2, hr3⟩, ⟨?_, ?_, ?_, ?_, ?_⟩⟩, hb'⟩
    · rw [List.length_append, List.length_append]; rfl
    · show 0 ≤ m.next + 1; omega
    · show m.next + 1 ≤ (m.code.length : Int) + 10 + 1; omega
    · rw [List.length_append, List.length_append, h2.len]; rfl
    · rw [List.length_append, List.length_singleton]; show ((vs.length + 1 : Nat) : Int) ≤ (m.code.length : Int) + 1; omega
    · intro q
      rw [look_snoc vs rs n m.next h2.len hv q]
      show (if q = n then some m.next else m.at_ q) = _
      rw [h2.at_]
theorem register_sy (us : List Nat) (w : World) (ac : Option Addr) (cc : Nat) (av : Option Addr) (cv : Nat) (ar : Option Addr) (cr : Nat) (m : MkS) (vs rs : List Int) (n : Int) (M : MkS) (R : Int) (F : Bool) (hM : regM m n = (M, R, F)) (hn1 : -9223372036854775808 ≤ n) (hn2 : n ≤ 9223372036854775807) (hu : ∀ k ∈ us, k < w.heap.size) (h : SX 0 us w ac cc av cv ar cr m vs rs) (hl : m.code.length ≤ 10000) :
    Calls Try.prog 151 #[.agg #[.slice ac m.code.length cc, .int .i64 m.next, .slice av vs.length cv, .slice ar rs.length cr], .int .i64 n] w fun e w' => ∃ av' cv' ar' cr' vs' rs', e = .returned (.tuple #[.agg #[.slice ac M.code.length cc, .int .i64 M.next, .slice av' (List.length vs') cv', .slice ar' (List.length rs') cr'], .int .i64 R, .bool F]) ∧ (-9223372036854775808 ≤ R ∧ R ≤ 9223372036854775807) ∧ SX 1 us w' ac cc av' cv' ar' cr' M vs' rs' ∧ Below w.heap.size w w' := by
  have h := register_sx us w ac cc av cv ar cr m vs rs n hn1 hn2 hu h hl
  rw [hM] at h
  exact h
end Go.Proofs.Ytmmnfkggfnokjaa
