import Derived.Test.YtmmnfkggfnokjaaZt7
import Derived.OrdersHeld
import Derived.Deep.RegionHeld3
set_option linter.unusedVariables false
namespace Go.Proofs.Ytmmnfkggfnokjaa
open Go.RowKit
/-! ### emit -/
theorem ins_cR {w : World} (i : Ins) (h : i.fit) : RepC.C w (#[Value.int .i64 i.op, .int .i64 i.x, .int .i64 i.a, .string i.s, .int .i64 i.n, .bool i.neg]).toList i := ⟨rfl, h⟩
section
variable {W : World} {k : Nat} {x0 x1 x2 x3 : Value} {T : Nat}
theorem st_cells (h : W.heap[k]? = some (.cells #[x0, x1, x2, x3] T (0, 0))) : W.cell? ⟨k, 0, none⟩ = some x0 ∧ W.cell? ⟨k, 1, none⟩ = some x1 ∧ W.cell? ⟨k, 2, none⟩ = some x2 ∧ W.cell? ⟨k, 3, none⟩ = some x3 :=
  ⟨by rw [cell_of_row W _ 0 _ _ _ h]; rfl, by rw [cell_of_row W _ 1 _ _ _ h]; rfl, by rw [cell_of_row W _ 2 _ _ _ h]; rfl, by rw [cell_of_row W _ 3 _ _ _ h]; rfl⟩
theorem st_free (h : W.heap[k]? = some (.cells #[x0, x1, x2, x3] T (0, 0))) : W.frozen? ⟨k, 0, none⟩ = false ∧ W.frozen? ⟨k, 1, none⟩ = false ∧ W.frozen? ⟨k, 2, none⟩ = false ∧ W.frozen? ⟨k, 3, none⟩ = false :=
  ⟨by simp [World.frozen?, h], by simp [World.frozen?, h], by simp [World.frozen?, h], by simp [World.frozen?, h]⟩
theorem st0_set (h : W.heap[k]? = some (.cells #[x0, x1, x2, x3] T (0, 0))) (v : Value) : (W.setCell ⟨k, 0, none⟩ v).heap[k]? = some (.cells #[v, x1, x2, x3] T (0, 0)) := by
  unfold World.setCell
  rw [Array.getElem?_modify, if_pos rfl, h]
  rfl
end
def EmitPost (us : List Nat) (w : World) (av : Option Addr) (cv : Nat) (ar : Option Addr) (cr : Nat) (m : MkS) (vs rs : List Int) (i : Ins) (e : Ending) (w' : World) : Prop :=
  ∃ a2 c2, e = .returned (.agg #[.slice a2 (m.code.length + 1) c2, .int .i64 m.next, .slice av vs.length cv, .slice ar rs.length cr]) ∧ Row (veil us w') a2 c2 (m.code ++ [i]) ∧ Below w.heap.size w w'
set_option maxRecDepth 100000 in
set_option maxHeartbeats 12800000 in
theorem emit_any (us : List Nat) (w : World) (ac : Option Addr) (cc : Nat) (av : Option Addr) (cv : Nat) (ar : Option Addr) (cr : Nat) (m : MkS) (vs rs : List Int) (i : Ins) (hi : i.fit) (hu : ∀ k ∈ us, k < w.heap.size) (hc : Row (veil us w) ac cc m.code) (hl : m.code.length ≤ 100000) :
    Calls Try.prog 70 #[.agg #[.slice ac m.code.length cc, .int .i64 m.next, .slice av vs.length cv, .slice ar rs.length cr], i.v] w (EmitPost us w av cv ar cr m vs rs i) := by
  obtain ⟨W, hW⟩ : ∃ W, ((w.alloc (.cells #[.slice ac m.code.length cc, .int .i64 m.next, .slice av vs.length cv, .slice ar rs.length cr] 104)).alloc (.cells #[.int .i64 i.op, .int .i64 i.x, .int .i64 i.a, .string i.s, .int .i64 i.n, .bool i.neg] 90)).alloc (.cells #[.slice none 0 0, .int .i64 0, .slice none 0 0, .slice none 0 0] 104) = W := ⟨_, rfl⟩
  have hb0 : Below w.heap.size w W := by rw [← hW]; exact (((Below.refl _ _).new _).new _).new _
  have hs1 : (w.alloc (.cells #[.slice ac m.code.length cc, .int .i64 m.next, .slice av vs.length cv, .slice ar rs.length cr] 104)).heap.size = w.heap.size + 1 := by simp
  have hs2 : ((w.alloc (.cells #[.slice ac m.code.length cc, .int .i64 m.next, .slice av vs.length cv, .slice ar rs.length cr] 104)).alloc (.cells #[.int .i64 i.op, .int .i64 i.x, .int .i64 i.a, .string i.s, .int .i64 i.n, .bool i.neg] 90)).heap.size = w.heap.size + 2 := by simp
  have HK0 : Hid (W.heap[w.heap.size]? = some (.cells #[.slice ac m.code.length cc, .int .i64 m.next, .slice av vs.length cv, .slice ar rs.length cr] 104 (0, 0))) := by
    rw [Hid, ← hW]
    exact (heap_alloc_old _ _ (by simp; omega)).trans ((heap_alloc_old _ _ (by simp)).trans (heap_alloc_new _ _))
  have HK1 : Hid (W.heap[w.heap.size + 1]? = some (.cells #[.int .i64 i.op, .int .i64 i.x, .int .i64 i.a, .string i.s, .int .i64 i.n, .bool i.neg] 90 (0, 0))) := by
    rw [Hid, ← hW]
    refine (heap_alloc_old _ _ (by simp)).trans ?_
    rw [← hs1]
    exact heap_alloc_new _ _
  have HK2 : Hid (W.heap[w.heap.size + 2]? = some (.cells #[.slice none 0 0, .int .i64 0, .slice none 0 0, .slice none 0 0] 104 (0, 0))) := by
    rw [Hid, ← hW, ← hs2]
    exact heap_alloc_new _ _
  have HZ : Hid (W.heap.size = w.heap.size + 3) := by rw [Hid, ← hW]; simp
  have HB := mkHid hb0
  have HC := mkHid hc
  clear hb0 hc hs1 hs2
  go_enter Try.func70, Try.ntmps70
  go_wp2_with fail
  first | rw [hW] | skip
  clear hW
  have C1 : Hid (W.cell? ⟨w.heap.size + 1, 0, none⟩ = some (.int .i64 i.op) ∧ W.cell? ⟨w.heap.size + 1, 1, none⟩ = some (.int .i64 i.x) ∧ W.cell? ⟨w.heap.size + 1, 2, none⟩ = some (.int .i64 i.a) ∧ W.cell? ⟨w.heap.size + 1, 3, none⟩ = some (.string i.s) ∧ W.cell? ⟨w.heap.size + 1, 4, none⟩ = some (.int .i64 i.n) ∧ W.cell? ⟨w.heap.size + 1, 5, none⟩ = some (.bool i.neg)) :=
    ⟨by rw [cell_of_row W _ 0 _ _ _ HK1.out]; rfl, by rw [cell_of_row W _ 1 _ _ _ HK1.out]; rfl, by rw [cell_of_row W _ 2 _ _ _ HK1.out]; rfl, by rw [cell_of_row W _ 3 _ _ _ HK1.out]; rfl, by rw [cell_of_row W _ 4 _ _ _ HK1.out]; rfl, by rw [cell_of_row W _ 5 _ _ _ HK1.out]; rfl⟩
  refine wp_region_noPanic ?_
  obtain ⟨y0, hv0⟩ : ∃ X, W.drew = X := ⟨_, rfl⟩
  have hbd : Below W.heap.size W y0 := by rw [← hv0]; exact (Below.refl _ _).drew
  have HYZ : Hid (y0.heap.size = w.heap.size + 3) := by rw [Hid, ← hv0]; exact HZ.out
  have HS : Hid (∀ X, Fr [w.heap.size] y0 X → (fun X : World => X.cell? ⟨w.heap.size + 1, 0, none⟩ = some (.int .i64 i.op) ∧ X.cell? ⟨w.heap.size + 1, 1, none⟩ = some (.int .i64 i.x) ∧ X.cell? ⟨w.heap.size + 1, 2, none⟩ = some (.int .i64 i.a) ∧ X.cell? ⟨w.heap.size + 1, 3, none⟩ = some (.string i.s) ∧ X.cell? ⟨w.heap.size + 1, 4, none⟩ = some (.int .i64 i.n) ∧ X.cell? ⟨w.heap.size + 1, 5, none⟩ = some (.bool i.neg)) X) := fun X h => by
    obtain ⟨q0, q1, q2, q3, q4, q5⟩ := C1.out
    have key : ∀ o v, W.cell? ⟨w.heap.size + 1, o, none⟩ = some v → X.cell? ⟨w.heap.size + 1, o, none⟩ = some v := fun o v hq => by
      have hy := keep hq hbd
      exact (World.cell?_of_block (w := y0) (a := ⟨w.heap.size + 1, o, none⟩) (h.block _ (by have := HYZ.out; show w.heap.size + 1 < _; omega) (by simp))).trans hy
    exact ⟨key _ _ q0, key _ _ q1, key _ _ q2, key _ _ q3, key _ _ q4, key _ _ q5⟩
  refine wp_region_held_drew (S := fun X : World => X.cell? ⟨w.heap.size + 1, 0, none⟩ = some (.int .i64 i.op) ∧ X.cell? ⟨w.heap.size + 1, 1, none⟩ = some (.int .i64 i.x) ∧ X.cell? ⟨w.heap.size + 1, 2, none⟩ = some (.int .i64 i.a) ∧ X.cell? ⟨w.heap.size + 1, 3, none⟩ = some (.string i.s) ∧ X.cell? ⟨w.heap.size + 1, 4, none⟩ = some (.int .i64 i.n) ∧ X.cell? ⟨w.heap.size + 1, 5, none⟩ = some (.bool i.neg)) (by kernel_rfl) (by rw [hv0]; exact HS.out _ (Fr.refl _ _)) (fun hSd => ?_)
  rw [hv0] at hSd ⊢
  have HBY := mkHid (HB.out.then hbd)
  have HYS : Hid (w.heap.size ≤ y0.heap.size) := by have := HYZ.out; rw [Hid]; omega
  have C0 : Hid (y0.cell? ⟨w.heap.size, 0, none⟩ = some (.slice ac m.code.length cc)) := keep (st_cells HK0.out).1 hbd
  have HK0 := mkHid ((hbd.block w.heap.size (by have := HZ.out; omega)).trans HK0.out)
  have HK2 := mkHid ((hbd.block (w.heap.size + 2) (by have := HZ.out; omega)).trans HK2.out)
  have HZ := HYZ
  obtain ⟨us2, hus2⟩ : ∃ us2, [w.heap.size, w.heap.size + 1, w.heap.size + 2] ++ us = us2 := ⟨_, rfl⟩
  have HU2 : Hid (∀ k ∈ us2, k < y0.heap.size) := by
    rw [Hid, ← hus2]
    intro k hk
    have h3 := HYZ.out
    rcases List.mem_append.1 hk with h | h
    · simp at h; omega
    · have := hu k h; omega
  have HC2 : Hid (Row (veil us2 y0) ac cc m.code) := HC.out.keeps (veil_toR (Fr.of HBY.out) fun k hk => by
    rw [← hus2] at hk
    rcases List.mem_append.1 hk with h | h
    · simp at h; right; omega
    · exact .inl h)
  have HB0 := mkHid (Below.refl y0.heap.size y0)
  clear hv0 hbd C1 HK1 HB HC HYZ
  refine wpAnyH_take (i := 1) (oi := _) (v := ?_) rfl (by kernel_rfl) (by kernel_rfl) (by kernel_rfl) (fun _ _ _ h => h) (Or.inl ⟨by rfl, ?_⟩) (by assumption) ?_
  rotate_left
  · (intro w' hSw; obtain ⟨z0, z1, z2, z3, z4, z5⟩ := hSw; go_simp; try with_reducible rfl)
  (try simp only [List.getElem_toArray, List.getElem_cons_succ, List.getElem_cons_zero, Act.put, List.setIfInBounds_toArray, List.set_cons_zero, List.set_cons_succ])
  refine wpAnyH_take (i := 4) (oi := _) (v := ?_) rfl (by kernel_rfl) (by kernel_rfl) (by kernel_rfl) (fun _ _ _ h => h) (Or.inl ⟨by rfl, ?_⟩) (by assumption) ?_
  rotate_left
  · (intro w' hSw; obtain ⟨z0, z1, z2, z3, z4, z5⟩ := hSw; go_simp; try with_reducible rfl)
  (try simp only [List.getElem_toArray, List.getElem_cons_succ, List.getElem_cons_zero, Act.put, List.setIfInBounds_toArray, List.set_cons_zero, List.set_cons_succ])
  refine wpAnyH_ready (rs := [0, 2, 5]) (by kernel_rfl) (by simp) ?_
  refine AllReadyH.cons (o := _) rfl (fun K hK => ?_) ?_
  · go_simp
    have HB1 := mkHid (HB0.out.then ((Below.refl _ _).new (.cells #[] 90)))
    try dsimp only
    refine hK.out _ _ (HS.out _ (Fr.of HB1.out)) (fun hS1 => ?_)
    clear hK K
    (try simp only [List.getElem_toArray, List.getElem_cons_succ, List.getElem_cons_zero, Act.put, List.setIfInBounds_toArray, List.set_cons_zero, List.set_cons_succ])
    refine wpAnyH_ready (rs := [2, 5]) (by kernel_rfl) (by simp) ?_
    refine AllReadyH.cons (o := _) rfl (fun K hK => ?_) ?_
    · have tl := keep C0.out HB1.out
      go_simp
      have HB2 := HB1
      clear tl
      try dsimp only
      refine hK.out _ _ (HS.out _ (Fr.of HB2.out)) (fun hS2 => ?_)
      clear hK K
      (try simp only [List.getElem_toArray, List.getElem_cons_succ, List.getElem_cons_zero, Act.put, List.setIfInBounds_toArray, List.set_cons_zero, List.set_cons_succ])
      refine wpAnyH_ready (rs := [3, 5]) (by kernel_rfl) (by simp) ?_
      refine AllReadyH.cons (o := _) rfl (fun K hK => ?_) ?_
      · obtain ⟨v1, w1, a2, c2, w2, hrun1, hrun2, hr2, hc1, hc2⟩ := three_c (α := Ins) (us := us2) (cs := #[.int .i64 i.op, .int .i64 i.x, .int .i64 i.a, .string i.s, .int .i64 i.n, .bool i.neg]) (y := i) Try.underlying26 Try.infoInstr (by decide) (by decide) HU2.out HC2.out (ins_cR i hi) (by omega) m.code.length rfl
        have HB3 := mkHid hc1
        have HW2 := mkHid hc2
        have HR2 := mkHid hr2
        clear hc1 hc2 hr2
        (rw [if_pos (by rfl)]; simp [Oper.wp, execOp, resolve, invoke, builtin, Oper.upon, Act.eval, hrun1, Result.andThen, Sem.run_bind])
        try dsimp only
        refine hK.out _ _ (HS.out _ (Fr.of HB3.out)) (fun hS3 => ?_)
        clear hK K
        (try simp only [List.getElem_toArray, List.getElem_cons_succ, List.getElem_cons_zero, Act.put, List.setIfInBounds_toArray, List.set_cons_zero, List.set_cons_succ])
        refine wpAnyH_ready (rs := [5]) (by kernel_rfl) (by simp) ?_
        refine AllReadyH.cons (o := _) rfl (fun K hK => ?_) AllReadyH.nil
        go_simp
        have HB4 := mkHid (HB3.out.trans ((Below.refl w1.heap.size w1).new (.cells #[.int .i64 i.op, .int .i64 i.x, .int .i64 i.a, .string i.s, .int .i64 i.n, .bool i.neg] 90) |>.mono HB3.out.size))
        try dsimp only
        refine hK.out _ _ (HS.out _ (Fr.of HB4.out)) (fun hS4 => ?_)
        clear hK K
        (try simp only [List.getElem_toArray, List.getElem_cons_succ, List.getElem_cons_zero, Act.put, List.setIfInBounds_toArray, List.set_cons_zero, List.set_cons_succ])
        refine wpAnyH_ready (rs := [6]) (by kernel_rfl) (by simp) ?_
        refine AllReadyH.cons (o := _) rfl (fun K hK => ?_) AllReadyH.nil
        have HB5 := HW2
        (rw [if_pos (by rfl)]; simp [Oper.wp, execOp, resolve, invoke, builtin, Oper.upon, Act.eval, hrun2, Result.andThen, Sem.run_bind])
        try dsimp only
        refine hK.out _ _ (HS.out _ (Fr.of HB5.out)) (fun hS5 => ?_)
        clear hK K
        (try simp only [List.getElem_toArray, List.getElem_cons_succ, List.getElem_cons_zero, Act.put, List.setIfInBounds_toArray, List.set_cons_zero, List.set_cons_succ])
        refine wpAnyH_take (i := 7) (oi := _) (v := ?_) rfl (by kernel_rfl) (by kernel_rfl) (by kernel_rfl) (fun _ _ _ h => h) (Or.inl ⟨by rfl, ?_⟩) (by assumption) ?_
        rotate_left
        · (intro w' hSw; obtain ⟨z0, z1, z2, z3, z4, z5⟩ := hSw; go_simp; try with_reducible rfl)
        (try simp only [List.getElem_toArray, List.getElem_cons_succ, List.getElem_cons_zero, Act.put, List.setIfInBounds_toArray, List.set_cons_zero, List.set_cons_succ])
        refine wpAnyH_ready (rs := [8]) (by kernel_rfl) (by simp) ?_
        refine AllReadyH.cons (o := _) rfl (fun K hK => ?_) AllReadyH.nil
        clear hrun1 hrun2
        have g0 := (HW2.out.block w.heap.size (by have := HZ.out; omega)).trans HK0.out
        have tl : w2.cell? ⟨w.heap.size, 0, none⟩ = some (.slice ac m.code.length cc) := by rw [cell_of_row w2 _ 0 _ _ _ g0]; rfl
        have tf : w2.frozen? ⟨w.heap.size, 0, none⟩ = false := by simp [World.frozen?, g0]
        have G0 := mkHid (st0_set g0 (.slice a2 (m.code.length + 1) c2))
        have G2 := mkHid ((Below.heap_setCell w2 ⟨w.heap.size, 0, none⟩ (.slice a2 (m.code.length + 1) c2) (w.heap.size + 2) (by show w.heap.size + 2 ≠ w.heap.size; omega)).trans ((HW2.out.block (w.heap.size + 2) (by have := HZ.out; omega)).trans HK2.out))
        have HF3 := mkHid ((Fr.of HW2.out : Fr [w.heap.size] y0 w2).set (g := w.heap.size) (k := 0) (by simp) (.slice a2 (m.code.length + 1) c2))
        have HF2 := mkHid ((Fr.refl us2 w2).set (g := w.heap.size) (k := 0) (by rw [← hus2]; simp) (.slice a2 (m.code.length + 1) c2))
        have HL2 := mkHid ((HBY.out.trans (HW2.out.mono HYS.out)).setCell (p := ⟨w.heap.size, 0, none⟩) (Nat.le_refl _) (.slice a2 (m.code.length + 1) c2))
        clear g0
        go_simp
        try dsimp only
        refine hK.out _ _ (HS.out _ HF3.out) (fun hSz => ?_)
        clear hK K tl tf
        (try simp only [List.getElem_toArray, List.getElem_cons_succ, List.getElem_cons_zero, Act.put, List.setIfInBounds_toArray, List.set_cons_zero, List.set_cons_succ])
        refine wpAnyH_done (by kernel_rfl) (NoPanic.normal ?_) _
        generalize w2.setCell ⟨w.heap.size, 0, none⟩ (.slice a2 (m.code.length + 1) c2) = w3 at *
        obtain ⟨l0, l1, l2, l3⟩ := st_cells G0.out
        obtain ⟨k0, k1, k2, k3⟩ := st_cells G2.out
        obtain ⟨f0, f1, f2, f3⟩ := st_free G2.out
        clear G0 G2 HK0 HK2 HS hSz HF3 HW2
        go_wp2_with fail
        refine bodyPost_ret (v := .agg #[.slice a2 (m.code.length + 1) c2, .int .i64 m.next, .slice av vs.length cv, .slice ar rs.length cr]) (by simp [results, Try.results70, go_sem, *]) rfl ⟨a2, c2, rfl, ?_, ?_⟩
        · refine HR2.out.keeps ((HF2.out.set (g := w.heap.size + 2) (k := 0) (by rw [← hus2]; simp) _).set (g := w.heap.size + 2) (k := 1) (by rw [← hus2]; simp) _ |>.set (g := w.heap.size + 2) (k := 2) (by rw [← hus2]; simp) _ |>.set (g := w.heap.size + 2) (k := 3) (by rw [← hus2]; simp) _).keeps |>.keeps (veil_mono _ fun k hk => ?_)
          rw [← hus2]
          exact List.mem_append_right _ hk
        · exact (((HL2.out.setCell (p := ⟨w.heap.size + 2, 0, none⟩) (by simp) _).setCell (p := ⟨w.heap.size + 2, 1, none⟩) (by simp) _).setCell (p := ⟨w.heap.size + 2, 2, none⟩) (by simp) _).setCell (p := ⟨w.heap.size + 2, 3, none⟩) (by simp) _
      refine AllReadyH.cons (o := _) rfl (fun K hK => ?_) AllReadyH.nil
      go_simp
      have HB3 := mkHid (HB2.out.then ((Below.refl _ _).new (.cells #[.int .i64 i.op, .int .i64 i.x, .int .i64 i.a, .string i.s, .int .i64 i.n, .bool i.neg] 90)))
      try dsimp only
      refine hK.out _ _ (HS.out _ (Fr.of HB3.out)) (fun hS3 => ?_)
      clear hK K
      (try simp only [List.getElem_toArray, List.getElem_cons_succ, List.getElem_cons_zero, Act.put, List.setIfInBounds_toArray, List.set_cons_zero, List.set_cons_succ])
      refine wpAnyH_ready (rs := [3]) (by kernel_rfl) (by simp) ?_
      refine AllReadyH.cons (o := _) rfl (fun K hK => ?_) AllReadyH.nil
      obtain ⟨v1, w1, a2, c2, w2, hrun1, hrun2, hr2, hc1, hc2⟩ := three_b (α := Ins) (us := us2) (cs := #[.int .i64 i.op, .int .i64 i.x, .int .i64 i.a, .string i.s, .int .i64 i.n, .bool i.neg]) (y := i) Try.underlying26 Try.infoInstr (by decide) (by decide) HU2.out HC2.out (ins_cR i hi) (by omega) m.code.length rfl
      have HB4 := mkHid hc1
      have HW2 := mkHid hc2
      have HR2 := mkHid hr2
      clear hc1 hc2 hr2
      (rw [if_pos (by rfl)]; simp [Oper.wp, execOp, resolve, invoke, builtin, Oper.upon, Act.eval, hrun1, Result.andThen, Sem.run_bind])
      try dsimp only
      refine hK.out _ _ (HS.out _ (Fr.of HB4.out)) (fun hS4 => ?_)
      clear hK K
      (try simp only [List.getElem_toArray, List.getElem_cons_succ, List.getElem_cons_zero, Act.put, List.setIfInBounds_toArray, List.set_cons_zero, List.set_cons_succ])
      refine wpAnyH_ready (rs := [6]) (by kernel_rfl) (by simp) ?_
      refine AllReadyH.cons (o := _) rfl (fun K hK => ?_) AllReadyH.nil
      have HB5 := HW2
      (rw [if_pos (by rfl)]; simp [Oper.wp, execOp, resolve, invoke, builtin, Oper.upon, Act.eval, hrun2, Result.andThen, Sem.run_bind])
      try dsimp only
      refine hK.out _ _ (HS.out _ (Fr.of HB5.out)) (fun hS5 => ?_)
      clear hK K
      (try simp only [List.getElem_toArray, List.getElem_cons_succ, List.getElem_cons_zero, Act.put, List.setIfInBounds_toArray, List.set_cons_zero, List.set_cons_succ])
      refine wpAnyH_take (i := 7) (oi := _) (v := ?_) rfl (by kernel_rfl) (by kernel_rfl) (by kernel_rfl) (fun _ _ _ h => h) (Or.inl ⟨by rfl, ?_⟩) (by assumption) ?_
      rotate_left
      · (intro w' hSw; obtain ⟨z0, z1, z2, z3, z4, z5⟩ := hSw; go_simp; try with_reducible rfl)
      (try simp only [List.getElem_toArray, List.getElem_cons_succ, List.getElem_cons_zero, Act.put, List.setIfInBounds_toArray, List.set_cons_zero, List.set_cons_succ])
      refine wpAnyH_ready (rs := [8]) (by kernel_rfl) (by simp) ?_
      refine AllReadyH.cons (o := _) rfl (fun K hK => ?_) AllReadyH.nil
      clear hrun1 hrun2
      have g0 := (HW2.out.block w.heap.size (by have := HZ.out; omega)).trans HK0.out
      have tl : w2.cell? ⟨w.heap.size, 0, none⟩ = some (.slice ac m.code.length cc) := by rw [cell_of_row w2 _ 0 _ _ _ g0]; rfl
      have tf : w2.frozen? ⟨w.heap.size, 0, none⟩ = false := by simp [World.frozen?, g0]
      have G0 := mkHid (st0_set g0 (.slice a2 (m.code.length + 1) c2))
      have G2 := mkHid ((Below.heap_setCell w2 ⟨w.heap.size, 0, none⟩ (.slice a2 (m.code.length + 1) c2) (w.heap.size + 2) (by show w.heap.size + 2 ≠ w.heap.size; omega)).trans ((HW2.out.block (w.heap.size + 2) (by have := HZ.out; omega)).trans HK2.out))
      have HF3 := mkHid ((Fr.of HW2.out : Fr [w.heap.size] y0 w2).set (g := w.heap.size) (k := 0) (by simp) (.slice a2 (m.code.length + 1) c2))
      have HF2 := mkHid ((Fr.refl us2 w2).set (g := w.heap.size) (k := 0) (by rw [← hus2]; simp) (.slice a2 (m.code.length + 1) c2))
      have HL2 := mkHid ((HBY.out.trans (HW2.out.mono HYS.out)).setCell (p := ⟨w.heap.size, 0, none⟩) (Nat.le_refl _) (.slice a2 (m.code.length + 1) c2))
      clear g0
      go_simp
      try dsimp only
      refine hK.out _ _ (HS.out _ HF3.out) (fun hSz => ?_)
      clear hK K tl tf
      (try simp only [List.getElem_toArray, List.getElem_cons_succ, List.getElem_cons_zero, Act.put, List.setIfInBounds_toArray, List.set_cons_zero, List.set_cons_succ])
      refine wpAnyH_done (by kernel_rfl) (NoPanic.normal ?_) _
      generalize w2.setCell ⟨w.heap.size, 0, none⟩ (.slice a2 (m.code.length + 1) c2) = w3 at *
      obtain ⟨l0, l1, l2, l3⟩ := st_cells G0.out
      obtain ⟨k0, k1, k2, k3⟩ := st_cells G2.out
      obtain ⟨f0, f1, f2, f3⟩ := st_free G2.out
      clear G0 G2 HK0 HK2 HS hSz HF3 HW2
      go_wp2_with fail
      refine bodyPost_ret (v := .agg #[.slice a2 (m.code.length + 1) c2, .int .i64 m.next, .slice av vs.length cv, .slice ar rs.length cr]) (by simp [results, Try.results70, go_sem, *]) rfl ⟨a2, c2, rfl, ?_, ?_⟩
      · refine HR2.out.keeps ((HF2.out.set (g := w.heap.size + 2) (k := 0) (by rw [← hus2]; simp) _).set (g := w.heap.size + 2) (k := 1) (by rw [← hus2]; simp) _ |>.set (g := w.heap.size + 2) (k := 2) (by rw [← hus2]; simp) _ |>.set (g := w.heap.size + 2) (k := 3) (by rw [← hus2]; simp) _).keeps |>.keeps (veil_mono _ fun k hk => ?_)
        rw [← hus2]
        exact List.mem_append_right _ hk
      · exact (((HL2.out.setCell (p := ⟨w.heap.size + 2, 0, none⟩) (by simp) _).setCell (p := ⟨w.heap.size + 2, 1, none⟩) (by simp) _).setCell (p := ⟨w.heap.size + 2, 2, none⟩) (by simp) _).setCell (p := ⟨w.heap.size + 2, 3, none⟩) (by simp) _
    refine AllReadyH.cons (o := _) rfl (fun K hK => ?_) AllReadyH.nil
    go_simp
    have HB2 := mkHid (HB1.out.then ((Below.refl _ _).new (.cells #[.int .i64 i.op, .int .i64 i.x, .int .i64 i.a, .string i.s, .int .i64 i.n, .bool i.neg] 90)))
    try dsimp only
    refine hK.out _ _ (HS.out _ (Fr.of HB2.out)) (fun hS2 => ?_)
    clear hK K
    (try simp only [List.getElem_toArray, List.getElem_cons_succ, List.getElem_cons_zero, Act.put, List.setIfInBounds_toArray, List.set_cons_zero, List.set_cons_succ])
    refine wpAnyH_ready (rs := [2]) (by kernel_rfl) (by simp) ?_
    refine AllReadyH.cons (o := _) rfl (fun K hK => ?_) AllReadyH.nil
    have tl := keep C0.out HB2.out
    go_simp
    have HB3 := HB2
    clear tl
    try dsimp only
    refine hK.out _ _ (HS.out _ (Fr.of HB3.out)) (fun hS3 => ?_)
    clear hK K
    (try simp only [List.getElem_toArray, List.getElem_cons_succ, List.getElem_cons_zero, Act.put, List.setIfInBounds_toArray, List.set_cons_zero, List.set_cons_succ])
    refine wpAnyH_ready (rs := [3]) (by kernel_rfl) (by simp) ?_
    refine AllReadyH.cons (o := _) rfl (fun K hK => ?_) AllReadyH.nil
    obtain ⟨v1, w1, a2, c2, w2, hrun1, hrun2, hr2, hc1, hc2⟩ := three_b (α := Ins) (us := us2) (cs := #[.int .i64 i.op, .int .i64 i.x, .int .i64 i.a, .string i.s, .int .i64 i.n, .bool i.neg]) (y := i) Try.underlying26 Try.infoInstr (by decide) (by decide) HU2.out HC2.out (ins_cR i hi) (by omega) m.code.length rfl
    have HB4 := mkHid hc1
    have HW2 := mkHid hc2
    have HR2 := mkHid hr2
    clear hc1 hc2 hr2
    (rw [if_pos (by rfl)]; simp [Oper.wp, execOp, resolve, invoke, builtin, Oper.upon, Act.eval, hrun1, Result.andThen, Sem.run_bind])
    try dsimp only
    refine hK.out _ _ (HS.out _ (Fr.of HB4.out)) (fun hS4 => ?_)
    clear hK K
    (try simp only [List.getElem_toArray, List.getElem_cons_succ, List.getElem_cons_zero, Act.put, List.setIfInBounds_toArray, List.set_cons_zero, List.set_cons_succ])
    refine wpAnyH_ready (rs := [6]) (by kernel_rfl) (by simp) ?_
    refine AllReadyH.cons (o := _) rfl (fun K hK => ?_) AllReadyH.nil
    have HB5 := HW2
    (rw [if_pos (by rfl)]; simp [Oper.wp, execOp, resolve, invoke, builtin, Oper.upon, Act.eval, hrun2, Result.andThen, Sem.run_bind])
    try dsimp only
    refine hK.out _ _ (HS.out _ (Fr.of HB5.out)) (fun hS5 => ?_)
    clear hK K
    (try simp only [List.getElem_toArray, List.getElem_cons_succ, List.getElem_cons_zero, Act.put, List.setIfInBounds_toArray, List.set_cons_zero, List.set_cons_succ])
    refine wpAnyH_take (i := 7) (oi := _) (v := ?_) rfl (by kernel_rfl) (by kernel_rfl) (by kernel_rfl) (fun _ _ _ h => h) (Or.inl ⟨by rfl, ?_⟩) (by assumption) ?_
    rotate_left
    · (intro w' hSw; obtain ⟨z0, z1, z2, z3, z4, z5⟩ := hSw; go_simp; try with_reducible rfl)
    (try simp only [List.getElem_toArray, List.getElem_cons_succ, List.getElem_cons_zero, Act.put, List.setIfInBounds_toArray, List.set_cons_zero, List.set_cons_succ])
    refine wpAnyH_ready (rs := [8]) (by kernel_rfl) (by simp) ?_
    refine AllReadyH.cons (o := _) rfl (fun K hK => ?_) AllReadyH.nil
    clear hrun1 hrun2
    have g0 := (HW2.out.block w.heap.size (by have := HZ.out; omega)).trans HK0.out
    have tl : w2.cell? ⟨w.heap.size, 0, none⟩ = some (.slice ac m.code.length cc) := by rw [cell_of_row w2 _ 0 _ _ _ g0]; rfl
    have tf : w2.frozen? ⟨w.heap.size, 0, none⟩ = false := by simp [World.frozen?, g0]
    have G0 := mkHid (st0_set g0 (.slice a2 (m.code.length + 1) c2))
    have G2 := mkHid ((Below.heap_setCell w2 ⟨w.heap.size, 0, none⟩ (.slice a2 (m.code.length + 1) c2) (w.heap.size + 2) (by show w.heap.size + 2 ≠ w.heap.size; omega)).trans ((HW2.out.block (w.heap.size + 2) (by have := HZ.out; omega)).trans HK2.out))
    have HF3 := mkHid ((Fr.of HW2.out : Fr [w.heap.size] y0 w2).set (g := w.heap.size) (k := 0) (by simp) (.slice a2 (m.code.length + 1) c2))
    have HF2 := mkHid ((Fr.refl us2 w2).set (g := w.heap.size) (k := 0) (by rw [← hus2]; simp) (.slice a2 (m.code.length + 1) c2))
    have HL2 := mkHid ((HBY.out.trans (HW2.out.mono HYS.out)).setCell (p := ⟨w.heap.size, 0, none⟩) (Nat.le_refl _) (.slice a2 (m.code.length + 1) c2))
    clear g0
    go_simp
    try dsimp only
    refine hK.out _ _ (HS.out _ HF3.out) (fun hSz => ?_)
    clear hK K tl tf
    (try simp only [List.getElem_toArray, List.getElem_cons_succ, List.getElem_cons_zero, Act.put, List.setIfInBounds_toArray, List.set_cons_zero, List.set_cons_succ])
    refine wpAnyH_done (by kernel_rfl) (NoPanic.normal ?_) _
    generalize w2.setCell ⟨w.heap.size, 0, none⟩ (.slice a2 (m.code.length + 1) c2) = w3 at *
    obtain ⟨l0, l1, l2, l3⟩ := st_cells G0.out
    obtain ⟨k0, k1, k2, k3⟩ := st_cells G2.out
    obtain ⟨f0, f1, f2, f3⟩ := st_free G2.out
    clear G0 G2 HK0 HK2 HS hSz HF3 HW2
    go_wp2_with fail
    refine bodyPost_ret (v := .agg #[.slice a2 (m.code.length + 1) c2, .int .i64 m.next, .slice av vs.length cv, .slice ar rs.length cr]) (by simp [results, Try.results70, go_sem, *]) rfl ⟨a2, c2, rfl, ?_, ?_⟩
    · refine HR2.out.keeps ((HF2.out.set (g := w.heap.size + 2) (k := 0) (by rw [← hus2]; simp) _).set (g := w.heap.size + 2) (k := 1) (by rw [← hus2]; simp) _ |>.set (g := w.heap.size + 2) (k := 2) (by rw [← hus2]; simp) _ |>.set (g := w.heap.size + 2) (k := 3) (by rw [← hus2]; simp) _).keeps |>.keeps (veil_mono _ fun k hk => ?_)
      rw [← hus2]
      exact List.mem_append_right _ hk
    · exact (((HL2.out.setCell (p := ⟨w.heap.size + 2, 0, none⟩) (by simp) _).setCell (p := ⟨w.heap.size + 2, 1, none⟩) (by simp) _).setCell (p := ⟨w.heap.size + 2, 2, none⟩) (by simp) _).setCell (p := ⟨w.heap.size + 2, 3, none⟩) (by simp) _
  refine AllReadyH.cons (o := _) rfl (fun K hK => ?_) ?_
  · have tl := keep C0.out HB0.out
    go_simp
    have HB1 := HB0
    clear tl
    try dsimp only
    refine hK.out _ _ (HS.out _ (Fr.of HB1.out)) (fun hS1 => ?_)
    clear hK K
    (try simp only [List.getElem_toArray, List.getElem_cons_succ, List.getElem_cons_zero, Act.put, List.setIfInBounds_toArray, List.set_cons_zero, List.set_cons_succ])
    refine wpAnyH_ready (rs := [0, 5]) (by kernel_rfl) (by simp) ?_
    refine AllReadyH.cons (o := _) rfl (fun K hK => ?_) ?_
    · go_simp
      have HB2 := mkHid (HB1.out.then ((Below.refl _ _).new (.cells #[] 90)))
      try dsimp only
      refine hK.out _ _ (HS.out _ (Fr.of HB2.out)) (fun hS2 => ?_)
      clear hK K
      (try simp only [List.getElem_toArray, List.getElem_cons_succ, List.getElem_cons_zero, Act.put, List.setIfInBounds_toArray, List.set_cons_zero, List.set_cons_succ])
      refine wpAnyH_ready (rs := [3, 5]) (by kernel_rfl) (by simp) ?_
      refine AllReadyH.cons (o := _) rfl (fun K hK => ?_) ?_
      · obtain ⟨v1, w1, a2, c2, w2, hrun1, hrun2, hr2, hc1, hc2⟩ := three_c (α := Ins) (us := us2) (cs := #[.int .i64 i.op, .int .i64 i.x, .int .i64 i.a, .string i.s, .int .i64 i.n, .bool i.neg]) (y := i) Try.underlying26 Try.infoInstr (by decide) (by decide) HU2.out HC2.out (ins_cR i hi) (by omega) m.code.length rfl
        have HB3 := mkHid hc1
        have HW2 := mkHid hc2
        have HR2 := mkHid hr2
        clear hc1 hc2 hr2
        (rw [if_pos (by rfl)]; simp [Oper.wp, execOp, resolve, invoke, builtin, Oper.upon, Act.eval, hrun1, Result.andThen, Sem.run_bind])
        try dsimp only
        refine hK.out _ _ (HS.out _ (Fr.of HB3.out)) (fun hS3 => ?_)
        clear hK K
        (try simp only [List.getElem_toArray, List.getElem_cons_succ, List.getElem_cons_zero, Act.put, List.setIfInBounds_toArray, List.set_cons_zero, List.set_cons_succ])
        refine wpAnyH_ready (rs := [5]) (by kernel_rfl) (by simp) ?_
        refine AllReadyH.cons (o := _) rfl (fun K hK => ?_) AllReadyH.nil
        go_simp
        have HB4 := mkHid (HB3.out.trans ((Below.refl w1.heap.size w1).new (.cells #[.int .i64 i.op, .int .i64 i.x, .int .i64 i.a, .string i.s, .int .i64 i.n, .bool i.neg] 90) |>.mono HB3.out.size))
        try dsimp only
        refine hK.out _ _ (HS.out _ (Fr.of HB4.out)) (fun hS4 => ?_)
        clear hK K
        (try simp only [List.getElem_toArray, List.getElem_cons_succ, List.getElem_cons_zero, Act.put, List.setIfInBounds_toArray, List.set_cons_zero, List.set_cons_succ])
        refine wpAnyH_ready (rs := [6]) (by kernel_rfl) (by simp) ?_
        refine AllReadyH.cons (o := _) rfl (fun K hK => ?_) AllReadyH.nil
        have HB5 := HW2
        (rw [if_pos (by rfl)]; simp [Oper.wp, execOp, resolve, invoke, builtin, Oper.upon, Act.eval, hrun2, Result.andThen, Sem.run_bind])
        try dsimp only
        refine hK.out _ _ (HS.out _ (Fr.of HB5.out)) (fun hS5 => ?_)
        clear hK K
        (try simp only [List.getElem_toArray, List.getElem_cons_succ, List.getElem_cons_zero, Act.put, List.setIfInBounds_toArray, List.set_cons_zero, List.set_cons_succ])
        refine wpAnyH_take (i := 7) (oi := _) (v := ?_) rfl (by kernel_rfl) (by kernel_rfl) (by kernel_rfl) (fun _ _ _ h => h) (Or.inl ⟨by rfl, ?_⟩) (by assumption) ?_
        rotate_left
        · (intro w' hSw; obtain ⟨z0, z1, z2, z3, z4, z5⟩ := hSw; go_simp; try with_reducible rfl)
        (try simp only [List.getElem_toArray, List.getElem_cons_succ, List.getElem_cons_zero, Act.put, List.setIfInBounds_toArray, List.set_cons_zero, List.set_cons_succ])
        refine wpAnyH_ready (rs := [8]) (by kernel_rfl) (by simp) ?_
        refine AllReadyH.cons (o := _) rfl (fun K hK => ?_) AllReadyH.nil
        clear hrun1 hrun2
        have g0 := (HW2.out.block w.heap.size (by have := HZ.out; omega)).trans HK0.out
        have tl : w2.cell? ⟨w.heap.size, 0, none⟩ = some (.slice ac m.code.length cc) := by rw [cell_of_row w2 _ 0 _ _ _ g0]; rfl
        have tf : w2.frozen? ⟨w.heap.size, 0, none⟩ = false := by simp [World.frozen?, g0]
        have G0 := mkHid (st0_set g0 (.slice a2 (m.code.length + 1) c2))
        have G2 := mkHid ((Below.heap_setCell w2 ⟨w.heap.size, 0, none⟩ (.slice a2 (m.code.length + 1) c2) (w.heap.size + 2) (by show w.heap.size + 2 ≠ w.heap.size; omega)).trans ((HW2.out.block (w.heap.size + 2) (by have := HZ.out; omega)).trans HK2.out))
        have HF3 := mkHid ((Fr.of HW2.out : Fr [w.heap.size] y0 w2).set (g := w.heap.size) (k := 0) (by simp) (.slice a2 (m.code.length + 1) c2))
        have HF2 := mkHid ((Fr.refl us2 w2).set (g := w.heap.size) (k := 0) (by rw [← hus2]; simp) (.slice a2 (m.code.length + 1) c2))
        have HL2 := mkHid ((HBY.out.trans (HW2.out.mono HYS.out)).setCell (p := ⟨w.heap.size, 0, none⟩) (Nat.le_refl _) (.slice a2 (m.code.length + 1) c2))
        clear g0
        go_simp
        try dsimp only
        refine hK.out _ _ (HS.out _ HF3.out) (fun hSz => ?_)
        clear hK K tl tf
        (try simp only [List.getElem_toArray, List.getElem_cons_succ, List.getElem_cons_zero, Act.put, List.setIfInBounds_toArray, List.set_cons_zero, List.set_cons_succ])
        refine wpAnyH_done (by kernel_rfl) (NoPanic.normal ?_) _
        generalize w2.setCell ⟨w.heap.size, 0, none⟩ (.slice a2 (m.code.length + 1) c2) = w3 at *
        obtain ⟨l0, l1, l2, l3⟩ := st_cells G0.out
        obtain ⟨k0, k1, k2, k3⟩ := st_cells G2.out
        obtain ⟨f0, f1, f2, f3⟩ := st_free G2.out
        clear G0 G2 HK0 HK2 HS hSz HF3 HW2
        go_wp2_with fail
        refine bodyPost_ret (v := .agg #[.slice a2 (m.code.length + 1) c2, .int .i64 m.next, .slice av vs.length cv, .slice ar rs.length cr]) (by simp [results, Try.results70, go_sem, *]) rfl ⟨a2, c2, rfl, ?_, ?_⟩
        · refine HR2.out.keeps ((HF2.out.set (g := w.heap.size + 2) (k := 0) (by rw [← hus2]; simp) _).set (g := w.heap.size + 2) (k := 1) (by rw [← hus2]; simp) _ |>.set (g := w.heap.size + 2) (k := 2) (by rw [← hus2]; simp) _ |>.set (g := w.heap.size + 2) (k := 3) (by rw [← hus2]; simp) _).keeps |>.keeps (veil_mono _ fun k hk => ?_)
          rw [← hus2]
          exact List.mem_append_right _ hk
        · exact (((HL2.out.setCell (p := ⟨w.heap.size + 2, 0, none⟩) (by simp) _).setCell (p := ⟨w.heap.size + 2, 1, none⟩) (by simp) _).setCell (p := ⟨w.heap.size + 2, 2, none⟩) (by simp) _).setCell (p := ⟨w.heap.size + 2, 3, none⟩) (by simp) _
      refine AllReadyH.cons (o := _) rfl (fun K hK => ?_) AllReadyH.nil
      go_simp
      have HB3 := mkHid (HB2.out.then ((Below.refl _ _).new (.cells #[.int .i64 i.op, .int .i64 i.x, .int .i64 i.a, .string i.s, .int .i64 i.n, .bool i.neg] 90)))
      try dsimp only
      refine hK.out _ _ (HS.out _ (Fr.of HB3.out)) (fun hS3 => ?_)
      clear hK K
      (try simp only [List.getElem_toArray, List.getElem_cons_succ, List.getElem_cons_zero, Act.put, List.setIfInBounds_toArray, List.set_cons_zero, List.set_cons_succ])
      refine wpAnyH_ready (rs := [3]) (by kernel_rfl) (by simp) ?_
      refine AllReadyH.cons (o := _) rfl (fun K hK => ?_) AllReadyH.nil
      obtain ⟨v1, w1, a2, c2, w2, hrun1, hrun2, hr2, hc1, hc2⟩ := three_b (α := Ins) (us := us2) (cs := #[.int .i64 i.op, .int .i64 i.x, .int .i64 i.a, .string i.s, .int .i64 i.n, .bool i.neg]) (y := i) Try.underlying26 Try.infoInstr (by decide) (by decide) HU2.out HC2.out (ins_cR i hi) (by omega) m.code.length rfl
      have HB4 := mkHid hc1
      have HW2 := mkHid hc2
      have HR2 := mkHid hr2
      clear hc1 hc2 hr2
      (rw [if_pos (by rfl)]; simp [Oper.wp, execOp, resolve, invoke, builtin, Oper.upon, Act.eval, hrun1, Result.andThen, Sem.run_bind])
      try dsimp only
      refine hK.out _ _ (HS.out _ (Fr.of HB4.out)) (fun hS4 => ?_)
      clear hK K
      (try simp only [List.getElem_toArray, List.getElem_cons_succ, List.getElem_cons_zero, Act.put, List.setIfInBounds_toArray, List.set_cons_zero, List.set_cons_succ])
      refine wpAnyH_ready (rs := [6]) (by kernel_rfl) (by simp) ?_
      refine AllReadyH.cons (o := _) rfl (fun K hK => ?_) AllReadyH.nil
      have HB5 := HW2
      (rw [if_pos (by rfl)]; simp [Oper.wp, execOp, resolve, invoke, builtin, Oper.upon, Act.eval, hrun2, Result.andThen, Sem.run_bind])
      try dsimp only
      refine hK.out _ _ (HS.out _ (Fr.of HB5.out)) (fun hS5 => ?_)
      clear hK K
      (try simp only [List.getElem_toArray, List.getElem_cons_succ, List.getElem_cons_zero, Act.put, List.setIfInBounds_toArray, List.set_cons_zero, List.set_cons_succ])
      refine wpAnyH_take (i := 7) (oi := _) (v := ?_) rfl (by kernel_rfl) (by kernel_rfl) (by kernel_rfl) (fun _ _ _ h => h) (Or.inl ⟨by rfl, ?_⟩) (by assumption) ?_
      rotate_left
      · (intro w' hSw; obtain ⟨z0, z1, z2, z3, z4, z5⟩ := hSw; go_simp; try with_reducible rfl)
      (try simp only [List.getElem_toArray, List.getElem_cons_succ, List.getElem_cons_zero, Act.put, List.setIfInBounds_toArray, List.set_cons_zero, List.set_cons_succ])
      refine wpAnyH_ready (rs := [8]) (by kernel_rfl) (by simp) ?_
      refine AllReadyH.cons (o := _) rfl (fun K hK => ?_) AllReadyH.nil
      clear hrun1 hrun2
      have g0 := (HW2.out.block w.heap.size (by have := HZ.out; omega)).trans HK0.out
      have tl : w2.cell? ⟨w.heap.size, 0, none⟩ = some (.slice ac m.code.length cc) := by rw [cell_of_row w2 _ 0 _ _ _ g0]; rfl
      have tf : w2.frozen? ⟨w.heap.size, 0, none⟩ = false := by simp [World.frozen?, g0]
      have G0 := mkHid (st0_set g0 (.slice a2 (m.code.length + 1) c2))
      have G2 := mkHid ((Below.heap_setCell w2 ⟨w.heap.size, 0, none⟩ (.slice a2 (m.code.length + 1) c2) (w.heap.size + 2) (by show w.heap.size + 2 ≠ w.heap.size; omega)).trans ((HW2.out.block (w.heap.size + 2) (by have := HZ.out; omega)).trans HK2.out))
      have HF3 := mkHid ((Fr.of HW2.out : Fr [w.heap.size] y0 w2).set (g := w.heap.size) (k := 0) (by simp) (.slice a2 (m.code.length + 1) c2))
      have HF2 := mkHid ((Fr.refl us2 w2).set (g := w.heap.size) (k := 0) (by rw [← hus2]; simp) (.slice a2 (m.code.length + 1) c2))
      have HL2 := mkHid ((HBY.out.trans (HW2.out.mono HYS.out)).setCell (p := ⟨w.heap.size, 0, none⟩) (Nat.le_refl _) (.slice a2 (m.code.length + 1) c2))
      clear g0
      go_simp
      try dsimp only
      refine hK.out _ _ (HS.out _ HF3.out) (fun hSz => ?_)
      clear hK K tl tf
      (try simp only [List.getElem_toArray, List.getElem_cons_succ, List.getElem_cons_zero, Act.put, List.setIfInBounds_toArray, List.set_cons_zero, List.set_cons_succ])
      refine wpAnyH_done (by kernel_rfl) (NoPanic.normal ?_) _
      generalize w2.setCell ⟨w.heap.size, 0, none⟩ (.slice a2 (m.code.length + 1) c2) = w3 at *
      obtain ⟨l0, l1, l2, l3⟩ := st_cells G0.out
      obtain ⟨k0, k1, k2, k3⟩ := st_cells G2.out
      obtain ⟨f0, f1, f2, f3⟩ := st_free G2.out
      clear G0 G2 HK0 HK2 HS hSz HF3 HW2
      go_wp2_with fail
      refine bodyPost_ret (v := .agg #[.slice a2 (m.code.length + 1) c2, .int .i64 m.next, .slice av vs.length cv, .slice ar rs.length cr]) (by simp [results, Try.results70, go_sem, *]) rfl ⟨a2, c2, rfl, ?_, ?_⟩
      · refine HR2.out.keeps ((HF2.out.set (g := w.heap.size + 2) (k := 0) (by rw [← hus2]; simp) _).set (g := w.heap.size + 2) (k := 1) (by rw [← hus2]; simp) _ |>.set (g := w.heap.size + 2) (k := 2) (by rw [← hus2]; simp) _ |>.set (g := w.heap.size + 2) (k := 3) (by rw [← hus2]; simp) _).keeps |>.keeps (veil_mono _ fun k hk => ?_)
        rw [← hus2]
        exact List.mem_append_right _ hk
      · exact (((HL2.out.setCell (p := ⟨w.heap.size + 2, 0, none⟩) (by simp) _).setCell (p := ⟨w.heap.size + 2, 1, none⟩) (by simp) _).setCell (p := ⟨w.heap.size + 2, 2, none⟩) (by simp) _).setCell (p := ⟨w.heap.size + 2, 3, none⟩) (by simp) _
    refine AllReadyH.cons (o := _) rfl (fun K hK => ?_) AllReadyH.nil
    go_simp
    have HB2 := mkHid (HB1.out.then ((Below.refl _ _).new (.cells #[.int .i64 i.op, .int .i64 i.x, .int .i64 i.a, .string i.s, .int .i64 i.n, .bool i.neg] 90)))
    try dsimp only
    refine hK.out _ _ (HS.out _ (Fr.of HB2.out)) (fun hS2 => ?_)
    clear hK K
    (try simp only [List.getElem_toArray, List.getElem_cons_succ, List.getElem_cons_zero, Act.put, List.setIfInBounds_toArray, List.set_cons_zero, List.set_cons_succ])
    refine wpAnyH_ready (rs := [0]) (by kernel_rfl) (by simp) ?_
    refine AllReadyH.cons (o := _) rfl (fun K hK => ?_) AllReadyH.nil
    go_simp
    have HB3 := mkHid (HB2.out.then ((Below.refl _ _).new (.cells #[] 90)))
    try dsimp only
    refine hK.out _ _ (HS.out _ (Fr.of HB3.out)) (fun hS3 => ?_)
    clear hK K
    (try simp only [List.getElem_toArray, List.getElem_cons_succ, List.getElem_cons_zero, Act.put, List.setIfInBounds_toArray, List.set_cons_zero, List.set_cons_succ])
    refine wpAnyH_ready (rs := [3]) (by kernel_rfl) (by simp) ?_
    refine AllReadyH.cons (o := _) rfl (fun K hK => ?_) AllReadyH.nil
    obtain ⟨v1, w1, a2, c2, w2, hrun1, hrun2, hr2, hc1, hc2⟩ := three_a (α := Ins) (us := us2) (cs := #[.int .i64 i.op, .int .i64 i.x, .int .i64 i.a, .string i.s, .int .i64 i.n, .bool i.neg]) (y := i) Try.underlying26 Try.infoInstr (by decide) (by decide) HU2.out HC2.out (ins_cR i hi) (by omega) m.code.length rfl
    have HB4 := mkHid hc1
    have HW2 := mkHid hc2
    have HR2 := mkHid hr2
    clear hc1 hc2 hr2
    (rw [if_pos (by rfl)]; simp [Oper.wp, execOp, resolve, invoke, builtin, Oper.upon, Act.eval, hrun1, Result.andThen, Sem.run_bind])
    try dsimp only
    refine hK.out _ _ (HS.out _ (Fr.of HB4.out)) (fun hS4 => ?_)
    clear hK K
    (try simp only [List.getElem_toArray, List.getElem_cons_succ, List.getElem_cons_zero, Act.put, List.setIfInBounds_toArray, List.set_cons_zero, List.set_cons_succ])
    refine wpAnyH_ready (rs := [6]) (by kernel_rfl) (by simp) ?_
    refine AllReadyH.cons (o := _) rfl (fun K hK => ?_) AllReadyH.nil
    have HB5 := HW2
    (rw [if_pos (by rfl)]; simp [Oper.wp, execOp, resolve, invoke, builtin, Oper.upon, Act.eval, hrun2, Result.andThen, Sem.run_bind])
    try dsimp only
    refine hK.out _ _ (HS.out _ (Fr.of HB5.out)) (fun hS5 => ?_)
    clear hK K
    (try simp only [List.getElem_toArray, List.getElem_cons_succ, List.getElem_cons_zero, Act.put, List.setIfInBounds_toArray, List.set_cons_zero, List.set_cons_succ])
    refine wpAnyH_take (i := 7) (oi := _) (v := ?_) rfl (by kernel_rfl) (by kernel_rfl) (by kernel_rfl) (fun _ _ _ h => h) (Or.inl ⟨by rfl, ?_⟩) (by assumption) ?_
    rotate_left
    · (intro w' hSw; obtain ⟨z0, z1, z2, z3, z4, z5⟩ := hSw; go_simp; try with_reducible rfl)
    (try simp only [List.getElem_toArray, List.getElem_cons_succ, List.getElem_cons_zero, Act.put, List.setIfInBounds_toArray, List.set_cons_zero, List.set_cons_succ])
    refine wpAnyH_ready (rs := [8]) (by kernel_rfl) (by simp) ?_
    refine AllReadyH.cons (o := _) rfl (fun K hK => ?_) AllReadyH.nil
    clear hrun1 hrun2
    have g0 := (HW2.out.block w.heap.size (by have := HZ.out; omega)).trans HK0.out
    have tl : w2.cell? ⟨w.heap.size, 0, none⟩ = some (.slice ac m.code.length cc) := by rw [cell_of_row w2 _ 0 _ _ _ g0]; rfl
    have tf : w2.frozen? ⟨w.heap.size, 0, none⟩ = false := by simp [World.frozen?, g0]
    have G0 := mkHid (st0_set g0 (.slice a2 (m.code.length + 1) c2))
    have G2 := mkHid ((Below.heap_setCell w2 ⟨w.heap.size, 0, none⟩ (.slice a2 (m.code.length + 1) c2) (w.heap.size + 2) (by show w.heap.size + 2 ≠ w.heap.size; omega)).trans ((HW2.out.block (w.heap.size + 2) (by have := HZ.out; omega)).trans HK2.out))
    have HF3 := mkHid ((Fr.of HW2.out : Fr [w.heap.size] y0 w2).set (g := w.heap.size) (k := 0) (by simp) (.slice a2 (m.code.length + 1) c2))
    have HF2 := mkHid ((Fr.refl us2 w2).set (g := w.heap.size) (k := 0) (by rw [← hus2]; simp) (.slice a2 (m.code.length + 1) c2))
    have HL2 := mkHid ((HBY.out.trans (HW2.out.mono HYS.out)).setCell (p := ⟨w.heap.size, 0, none⟩) (Nat.le_refl _) (.slice a2 (m.code.length + 1) c2))
    clear g0
    go_simp
    try dsimp only
    refine hK.out _ _ (HS.out _ HF3.out) (fun hSz => ?_)
    clear hK K tl tf
    (try simp only [List.getElem_toArray, List.getElem_cons_succ, List.getElem_cons_zero, Act.put, List.setIfInBounds_toArray, List.set_cons_zero, List.set_cons_succ])
    refine wpAnyH_done (by kernel_rfl) (NoPanic.normal ?_) _
    generalize w2.setCell ⟨w.heap.size, 0, none⟩ (.slice a2 (m.code.length + 1) c2) = w3 at *
    obtain ⟨l0, l1, l2, l3⟩ := st_cells G0.out
    obtain ⟨k0, k1, k2, k3⟩ := st_cells G2.out
    obtain ⟨f0, f1, f2, f3⟩ := st_free G2.out
    clear G0 G2 HK0 HK2 HS hSz HF3 HW2
    go_wp2_with fail
    refine bodyPost_ret (v := .agg #[.slice a2 (m.code.length + 1) c2, .int .i64 m.next, .slice av vs.length cv, .slice ar rs.length cr]) (by simp [results, Try.results70, go_sem, *]) rfl ⟨a2, c2, rfl, ?_, ?_⟩
    · refine HR2.out.keeps ((HF2.out.set (g := w.heap.size + 2) (k := 0) (by rw [← hus2]; simp) _).set (g := w.heap.size + 2) (k := 1) (by rw [← hus2]; simp) _ |>.set (g := w.heap.size + 2) (k := 2) (by rw [← hus2]; simp) _ |>.set (g := w.heap.size + 2) (k := 3) (by rw [← hus2]; simp) _).keeps |>.keeps (veil_mono _ fun k hk => ?_)
      rw [← hus2]
      exact List.mem_append_right _ hk
    · exact (((HL2.out.setCell (p := ⟨w.heap.size + 2, 0, none⟩) (by simp) _).setCell (p := ⟨w.heap.size + 2, 1, none⟩) (by simp) _).setCell (p := ⟨w.heap.size + 2, 2, none⟩) (by simp) _).setCell (p := ⟨w.heap.size + 2, 3, none⟩) (by simp) _
  refine AllReadyH.cons (o := _) rfl (fun K hK => ?_) AllReadyH.nil
  go_simp
  have HB1 := mkHid (HB0.out.then ((Below.refl _ _).new (.cells #[.int .i64 i.op, .int .i64 i.x, .int .i64 i.a, .string i.s, .int .i64 i.n, .bool i.neg] 90)))
  try dsimp only
  refine hK.out _ _ (HS.out _ (Fr.of HB1.out)) (fun hS1 => ?_)
  clear hK K
  (try simp only [List.getElem_toArray, List.getElem_cons_succ, List.getElem_cons_zero, Act.put, List.setIfInBounds_toArray, List.set_cons_zero, List.set_cons_succ])
  refine wpAnyH_ready (rs := [0, 2]) (by kernel_rfl) (by simp) ?_
  refine AllReadyH.cons (o := _) rfl (fun K hK => ?_) ?_
  · go_simp
    have HB2 := mkHid (HB1.out.then ((Below.refl _ _).new (.cells #[] 90)))
    try dsimp only
    refine hK.out _ _ (HS.out _ (Fr.of HB2.out)) (fun hS2 => ?_)
    clear hK K
    (try simp only [List.getElem_toArray, List.getElem_cons_succ, List.getElem_cons_zero, Act.put, List.setIfInBounds_toArray, List.set_cons_zero, List.set_cons_succ])
    refine wpAnyH_ready (rs := [2]) (by kernel_rfl) (by simp) ?_
    refine AllReadyH.cons (o := _) rfl (fun K hK => ?_) AllReadyH.nil
    have tl := keep C0.out HB2.out
    go_simp
    have HB3 := HB2
    clear tl
    try dsimp only
    refine hK.out _ _ (HS.out _ (Fr.of HB3.out)) (fun hS3 => ?_)
    clear hK K
    (try simp only [List.getElem_toArray, List.getElem_cons_succ, List.getElem_cons_zero, Act.put, List.setIfInBounds_toArray, List.set_cons_zero, List.set_cons_succ])
    refine wpAnyH_ready (rs := [3]) (by kernel_rfl) (by simp) ?_
    refine AllReadyH.cons (o := _) rfl (fun K hK => ?_) AllReadyH.nil
    obtain ⟨v1, w1, a2, c2, w2, hrun1, hrun2, hr2, hc1, hc2⟩ := three_a (α := Ins) (us := us2) (cs := #[.int .i64 i.op, .int .i64 i.x, .int .i64 i.a, .string i.s, .int .i64 i.n, .bool i.neg]) (y := i) Try.underlying26 Try.infoInstr (by decide) (by decide) HU2.out HC2.out (ins_cR i hi) (by omega) m.code.length rfl
    have HB4 := mkHid hc1
    have HW2 := mkHid hc2
    have HR2 := mkHid hr2
    clear hc1 hc2 hr2
    (rw [if_pos (by rfl)]; simp [Oper.wp, execOp, resolve, invoke, builtin, Oper.upon, Act.eval, hrun1, Result.andThen, Sem.run_bind])
    try dsimp only
    refine hK.out _ _ (HS.out _ (Fr.of HB4.out)) (fun hS4 => ?_)
    clear hK K
    (try simp only [List.getElem_toArray, List.getElem_cons_succ, List.getElem_cons_zero, Act.put, List.setIfInBounds_toArray, List.set_cons_zero, List.set_cons_succ])
    refine wpAnyH_ready (rs := [6]) (by kernel_rfl) (by simp) ?_
    refine AllReadyH.cons (o := _) rfl (fun K hK => ?_) AllReadyH.nil
    have HB5 := HW2
    (rw [if_pos (by rfl)]; simp [Oper.wp, execOp, resolve, invoke, builtin, Oper.upon, Act.eval, hrun2, Result.andThen, Sem.run_bind])
    try dsimp only
    refine hK.out _ _ (HS.out _ (Fr.of HB5.out)) (fun hS5 => ?_)
    clear hK K
    (try simp only [List.getElem_toArray, List.getElem_cons_succ, List.getElem_cons_zero, Act.put, List.setIfInBounds_toArray, List.set_cons_zero, List.set_cons_succ])
    refine wpAnyH_take (i := 7) (oi := _) (v := ?_) rfl (by kernel_rfl) (by kernel_rfl) (by kernel_rfl) (fun _ _ _ h => h) (Or.inl ⟨by rfl, ?_⟩) (by assumption) ?_
    rotate_left
    · (intro w' hSw; obtain ⟨z0, z1, z2, z3, z4, z5⟩ := hSw; go_simp; try with_reducible rfl)
    (try simp only [List.getElem_toArray, List.getElem_cons_succ, List.getElem_cons_zero, Act.put, List.setIfInBounds_toArray, List.set_cons_zero, List.set_cons_succ])
    refine wpAnyH_ready (rs := [8]) (by kernel_rfl) (by simp) ?_
    refine AllReadyH.cons (o := _) rfl (fun K hK => ?_) AllReadyH.nil
    clear hrun1 hrun2
    have g0 := (HW2.out.block w.heap.size (by have := HZ.out; omega)).trans HK0.out
    have tl : w2.cell? ⟨w.heap.size, 0, none⟩ = some (.slice ac m.code.length cc) := by rw [cell_of_row w2 _ 0 _ _ _ g0]; rfl
    have tf : w2.frozen? ⟨w.heap.size, 0, none⟩ = false := by simp [World.frozen?, g0]
    have G0 := mkHid (st0_set g0 (.slice a2 (m.code.length + 1) c2))
    have G2 := mkHid ((Below.heap_setCell w2 ⟨w.heap.size, 0, none⟩ (.slice a2 (m.code.length + 1) c2) (w.heap.size + 2) (by show w.heap.size + 2 ≠ w.heap.size; omega)).trans ((HW2.out.block (w.heap.size + 2) (by have := HZ.out; omega)).trans HK2.out))
    have HF3 := mkHid ((Fr.of HW2.out : Fr [w.heap.size] y0 w2).set (g := w.heap.size) (k := 0) (by simp) (.slice a2 (m.code.length + 1) c2))
    have HF2 := mkHid ((Fr.refl us2 w2).set (g := w.heap.size) (k := 0) (by rw [← hus2]; simp) (.slice a2 (m.code.length + 1) c2))
    have HL2 := mkHid ((HBY.out.trans (HW2.out.mono HYS.out)).setCell (p := ⟨w.heap.size, 0, none⟩) (Nat.le_refl _) (.slice a2 (m.code.length + 1) c2))
    clear g0
    go_simp
    try dsimp only
    refine hK.out _ _ (HS.out _ HF3.out) (fun hSz => ?_)
    clear hK K tl tf
    (try simp only [List.getElem_toArray, List.getElem_cons_succ, List.getElem_cons_zero, Act.put, List.setIfInBounds_toArray, List.set_cons_zero, List.set_cons_succ])
    refine wpAnyH_done (by kernel_rfl) (NoPanic.normal ?_) _
    generalize w2.setCell ⟨w.heap.size, 0, none⟩ (.slice a2 (m.code.length + 1) c2) = w3 at *
    obtain ⟨l0, l1, l2, l3⟩ := st_cells G0.out
    obtain ⟨k0, k1, k2, k3⟩ := st_cells G2.out
    obtain ⟨f0, f1, f2, f3⟩ := st_free G2.out
    clear G0 G2 HK0 HK2 HS hSz HF3 HW2
    go_wp2_with fail
    refine bodyPost_ret (v := .agg #[.slice a2 (m.code.length + 1) c2, .int .i64 m.next, .slice av vs.length cv, .slice ar rs.length cr]) (by simp [results, Try.results70, go_sem, *]) rfl ⟨a2, c2, rfl, ?_, ?_⟩
    · refine HR2.out.keeps ((HF2.out.set (g := w.heap.size + 2) (k := 0) (by rw [← hus2]; simp) _).set (g := w.heap.size + 2) (k := 1) (by rw [← hus2]; simp) _ |>.set (g := w.heap.size + 2) (k := 2) (by rw [← hus2]; simp) _ |>.set (g := w.heap.size + 2) (k := 3) (by rw [← hus2]; simp) _).keeps |>.keeps (veil_mono _ fun k hk => ?_)
      rw [← hus2]
      exact List.mem_append_right _ hk
    · exact (((HL2.out.setCell (p := ⟨w.heap.size + 2, 0, none⟩) (by simp) _).setCell (p := ⟨w.heap.size + 2, 1, none⟩) (by simp) _).setCell (p := ⟨w.heap.size + 2, 2, none⟩) (by simp) _).setCell (p := ⟨w.heap.size + 2, 3, none⟩) (by simp) _
  refine AllReadyH.cons (o := _) rfl (fun K hK => ?_) AllReadyH.nil
  have tl := keep C0.out HB1.out
  go_simp
  have HB2 := HB1
  clear tl
  try dsimp only
  refine hK.out _ _ (HS.out _ (Fr.of HB2.out)) (fun hS2 => ?_)
  clear hK K
  (try simp only [List.getElem_toArray, List.getElem_cons_succ, List.getElem_cons_zero, Act.put, List.setIfInBounds_toArray, List.set_cons_zero, List.set_cons_succ])
  refine wpAnyH_ready (rs := [0]) (by kernel_rfl) (by simp) ?_
  refine AllReadyH.cons (o := _) rfl (fun K hK => ?_) AllReadyH.nil
  go_simp
  have HB3 := mkHid (HB2.out.then ((Below.refl _ _).new (.cells #[] 90)))
  try dsimp only
  refine hK.out _ _ (HS.out _ (Fr.of HB3.out)) (fun hS3 => ?_)
  clear hK K
  (try simp only [List.getElem_toArray, List.getElem_cons_succ, List.getElem_cons_zero, Act.put, List.setIfInBounds_toArray, List.set_cons_zero, List.set_cons_succ])
  refine wpAnyH_ready (rs := [3]) (by kernel_rfl) (by simp) ?_
  refine AllReadyH.cons (o := _) rfl (fun K hK => ?_) AllReadyH.nil
  obtain ⟨v1, w1, a2, c2, w2, hrun1, hrun2, hr2, hc1, hc2⟩ := three_a (α := Ins) (us := us2) (cs := #[.int .i64 i.op, .int .i64 i.x, .int .i64 i.a, .string i.s, .int .i64 i.n, .bool i.neg]) (y := i) Try.underlying26 Try.infoInstr (by decide) (by decide) HU2.out HC2.out (ins_cR i hi) (by omega) m.code.length rfl
  have HB4 := mkHid hc1
  have HW2 := mkHid hc2
  have HR2 := mkHid hr2
  clear hc1 hc2 hr2
  (rw [if_pos (by rfl)]; simp [Oper.wp, execOp, resolve, invoke, builtin, Oper.upon, Act.eval, hrun1, Result.andThen, Sem.run_bind])
  try dsimp only
  refine hK.out _ _ (HS.out _ (Fr.of HB4.out)) (fun hS4 => ?_)
  clear hK K
  (try simp only [List.getElem_toArray, List.getElem_cons_succ, List.getElem_cons_zero, Act.put, List.setIfInBounds_toArray, List.set_cons_zero, List.set_cons_succ])
  refine wpAnyH_ready (rs := [6]) (by kernel_rfl) (by simp) ?_
  refine AllReadyH.cons (o := _) rfl (fun K hK => ?_) AllReadyH.nil
  have HB5 := HW2
  (rw [if_pos (by rfl)]; simp [Oper.wp, execOp, resolve, invoke, builtin, Oper.upon, Act.eval, hrun2, Result.andThen, Sem.run_bind])
  try dsimp only
  refine hK.out _ _ (HS.out _ (Fr.of HB5.out)) (fun hS5 => ?_)
  clear hK K
  (try simp only [List.getElem_toArray, List.getElem_cons_succ, List.getElem_cons_zero, Act.put, List.setIfInBounds_toArray, List.set_cons_zero, List.set_cons_succ])
  refine wpAnyH_take (i := 7) (oi := _) (v := ?_) rfl (by kernel_rfl) (by kernel_rfl) (by kernel_rfl) (fun _ _ _ h => h) (Or.inl ⟨by rfl, ?_⟩) (by assumption) ?_
  rotate_left
  · (intro w' hSw; obtain ⟨z0, z1, z2, z3, z4, z5⟩ := hSw; go_simp; try with_reducible rfl)
  (try simp only [List.getElem_toArray, List.getElem_cons_succ, List.getElem_cons_zero, Act.put, List.setIfInBounds_toArray, List.set_cons_zero, List.set_cons_succ])
  refine wpAnyH_ready (rs := [8]) (by kernel_rfl) (by simp) ?_
  refine AllReadyH.cons (o := _) rfl (fun K hK => ?_) AllReadyH.nil
  clear hrun1 hrun2
  have g0 := (HW2.out.block w.heap.size (by have := HZ.out; omega)).trans HK0.out
  have tl : w2.cell? ⟨w.heap.size, 0, none⟩ = some (.slice ac m.code.length cc) := by rw [cell_of_row w2 _ 0 _ _ _ g0]; rfl
  have tf : w2.frozen? ⟨w.heap.size, 0, none⟩ = false := by simp [World.frozen?, g0]
  have G0 := mkHid (st0_set g0 (.slice a2 (m.code.length + 1) c2))
  have G2 := mkHid ((Below.heap_setCell w2 ⟨w.heap.size, 0, none⟩ (.slice a2 (m.code.length + 1) c2) (w.heap.size + 2) (by show w.heap.size + 2 ≠ w.heap.size; omega)).trans ((HW2.out.block (w.heap.size + 2) (by have := HZ.out; omega)).trans HK2.out))
  have HF3 := mkHid ((Fr.of HW2.out : Fr [w.heap.size] y0 w2).set (g := w.heap.size) (k := 0) (by simp) (.slice a2 (m.code.length + 1) c2))
  have HF2 := mkHid ((Fr.refl us2 w2).set (g := w.heap.size) (k := 0) (by rw [← hus2]; simp) (.slice a2 (m.code.length + 1) c2))
  have HL2 := mkHid ((HBY.out.trans (HW2.out.mono HYS.out)).setCell (p := ⟨w.heap.size, 0, none⟩) (Nat.le_refl _) (.slice a2 (m.code.length + 1) c2))
  clear g0
  go_simp
  try dsimp only
  refine hK.out _ _ (HS.out _ HF3.out) (fun hSz => ?_)
  clear hK K tl tf
  (try simp only [List.getElem_toArray, List.getElem_cons_succ, List.getElem_cons_zero, Act.put, List.setIfInBounds_toArray, List.set_cons_zero, List.set_cons_succ])
  refine wpAnyH_done (by kernel_rfl) (NoPanic.normal ?_) _
  generalize w2.setCell ⟨w.heap.size, 0, none⟩ (.slice a2 (m.code.length + 1) c2) = w3 at *
  obtain ⟨l0, l1, l2, l3⟩ := st_cells G0.out
  obtain ⟨k0, k1, k2, k3⟩ := st_cells G2.out
  obtain ⟨f0, f1, f2, f3⟩ := st_free G2.out
  clear G0 G2 HK0 HK2 HS hSz HF3 HW2
  go_wp2_with fail
  refine bodyPost_ret (v := .agg #[.slice a2 (m.code.length + 1) c2, .int .i64 m.next, .slice av vs.length cv, .slice ar rs.length cr]) (by simp [results, Try.results70, go_sem, *]) rfl ⟨a2, c2, rfl, ?_, ?_⟩
  · refine HR2.out.keeps ((HF2.out.set (g := w.heap.size + 2) (k := 0) (by rw [← hus2]; simp) _).set (g := w.heap.size + 2) (k := 1) (by rw [← hus2]; simp) _ |>.set (g := w.heap.size + 2) (k := 2) (by rw [← hus2]; simp) _ |>.set (g := w.heap.size + 2) (k := 3) (by rw [← hus2]; simp) _).keeps |>.keeps (veil_mono _ fun k hk => ?_)
    rw [← hus2]
    exact List.mem_append_right _ hk
  · exact (((HL2.out.setCell (p := ⟨w.heap.size + 2, 0, none⟩) (by simp) _).setCell (p := ⟨w.heap.size + 2, 1, none⟩) (by simp) _).setCell (p := ⟨w.heap.size + 2, 2, none⟩) (by simp) _).setCell (p := ⟨w.heap.size + 2, 3, none⟩) (by simp) _
end Go.Proofs.Ytmmnfkggfnokjaa
