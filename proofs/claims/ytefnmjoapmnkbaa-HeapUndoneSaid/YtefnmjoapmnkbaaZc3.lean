/-
  Of layer 8 of sorrel: whatever arguments come in, the law HeapUndone returns true, and what was handed in reads as it did: whatever is put, and made alike, behind a Mark: gone back to it, the heap is as it was. No condition.
-/
import Derived.Test.YtefnmjoapmnkbaaZr8
import Derived.OrdersHeld
import Derived.Deep.RegionHeld3
set_option linter.unusedVariables false
namespace Go.Proofs.Ytefnmjoapmnkbaa
open Go.RowKit

/-! ### HeapUndone -/
/-- a box of a mark that was just made -/
def ZK (W : World) (V : Nat) : Prop := W.heap[V]? = some (.cells #[.int .i64 0, .int .i64 0, .slice none 0 0] 43 (0, 0))
section
variable {W W' : World} {V : Nat}
theorem ZK.new (W : World) : ZK (W.alloc (.cells #[.int .i64 0, .int .i64 0, .slice none 0 0] 43)) W.heap.size := heap_alloc_new W _
theorem ZK.lt (h : ZK W V) : V < W.heap.size := by
  unfold ZK at h
  exact (Array.getElem?_eq_some_iff.1 h).1
theorem ZK.below (h : ZK W V) (hb : Below W.heap.size W W') : ZK W' V := (hb.block V h.lt).trans h
theorem ZK.cell (h : ZK W V) (k : Nat) : W.cell? ⟨V, k, none⟩ = (#[Value.int .i64 0, .int .i64 0, .slice none 0 0])[k]? := cell_of_row W V k _ _ _ h
theorem ZK.froz (h : ZK W V) (k : Nat) : W.frozen? ⟨V, k, none⟩ = false := by
  unfold ZK at h
  simp [World.frozen?, h]
theorem ZK.set3 (hz : ZK W V) (x y z : Value) : C38 (((W.setCell ⟨V, 0, none⟩ x).setCell ⟨V, 1, none⟩ y).setCell ⟨V, 2, none⟩ z) V x y z := by
  have hz' := hz
  unfold ZK at hz'
  have key : (((W.setCell ⟨V, 0, none⟩ x).setCell ⟨V, 1, none⟩ y).setCell ⟨V, 2, none⟩ z).heap[V]? = some (.cells #[x, y, z] 43 (0, 0)) := by
    simp [World.setCell, Array.getElem?_modify, hz', Option.map_some]
  exact ⟨cell_of_row _ V 0 _ _ _ key, cell_of_row _ V 1 _ _ _ key, cell_of_row _ V 2 _ _ _ key⟩
theorem ZK.ne {U : Nat} (h : ZK W V) (h2 : ZB W U) : U ≠ V := by
  rintro rfl
  unfold ZK at h
  unfold ZB at h2
  rw [h] at h2
  simp at h2
theorem ZB.other {U : Nat} (h : ZB W V) (hne : V ≠ U) (x y z : Value) : ZB (((W.setCell ⟨U, 0, none⟩ x).setCell ⟨U, 1, none⟩ y).setCell ⟨U, 2, none⟩ z) V :=
  ((set3_grown U W x y z).block V h.lt (fun e => hne (by injection e))).trans h
theorem ZB.put3 (hz : ZB W V) (a2 : Option Addr) (n2 c2 : Nat) (a3 : Option Addr) (n3 c3 : Nat) (r2 : Int) : ZH (((W.setCell ⟨V, 0, none⟩ (.slice a2 n2 c2)).setCell ⟨V, 1, none⟩ (.slice a3 n3 c3)).setCell ⟨V, 2, none⟩ (.int .i64 r2)) V a2 n2 c2 a3 n3 c3 r2 := by
  unfold ZB at hz
  unfold ZH
  simp [World.setCell, Array.getElem?_modify, hz, Option.map_some]
end
theorem C38.ne {W W' : World} {V G : Nat} {x y z : Value} (h : C38 W V x y z) (ho : Oth G W W') (hne : V ≠ G) : C38 W' V x y z := ⟨ho _ _ _ hne h.c0, ho _ _ _ hne h.c1, ho _ _ _ hne h.c2⟩
theorem PlOk.ne8 {m : Nat} {ps : List Int} {r : Int} (h : PlOk m ps) (h1 : 1 ≤ r) (h2 : (m : Int) ≤ r) : ∀ p ∈ ps, p ≠ r := fun p hp => by
  rcases h p hp with e | ⟨e1, e2⟩ <;> omega
structure HLoopU (w wr : World) (G : Nat) (r : Int) (l : List Cel) (ts : List Int) (m : Nat) (xs : List Cel) (us ps : List Int) (ag : Option Addr) (cg : Nat) (tg : Option Addr) (ct : Nat) (pa : Option Addr) (pc : Nat) : Prop where
  z : ZH wr G ag xs.length cg tg us.length ct r
  rx : Row wr ag cg xs
  ru : Row wr tg ct us
  rp : Row wr pa pc ps
  few : Few xs
  pl : PlOk xs.length ps
  sh : ps.length ≤ 1000
  le : (xs.length : Int) ≤ r
  le2 : us.length ≤ 120 + 5000 * m
  une : ∀ u ∈ us, u ≠ r
  und : ∃ L, Und l ts xs us L
  below : Below w.heap.size w wr
/-- Undo to a mark taken at l, ts -/
theorem undoU {a : Option Addr} {cap : Nat} {a' : Option Addr} {cap' : Nat} {r : Int} {ra : Option Addr} {rn rc : Nat} {w : World} {l xs : List Cel} {ts us : List Int} (h : ∃ L, Und l ts xs us L) (hx : Row w a cap xs) (ht : Row w a' cap' us) (hl : xs.length ≤ 1000000) (hl2 : us.length ≤ 1000000) :
    Calls Try.prog 30 #[hv a xs.length cap a' us.length cap' r, .agg #[.int .i64 (l.length : Int), .int .i64 (ts.length : Int), .slice ra rn rc]] w fun e w' => ∃ a2 cap2 a3 cap3, e = .returned (hv a2 l.length cap2 a3 ts.length cap3 r) ∧ Row w' a2 cap2 l ∧ Row w' a3 cap3 ts ∧ Below w.heap.size w w' := by
  obtain ⟨L, hU⟩ := h
  obtain ⟨h1, h2⟩ := hU.back
  have hlen := hU.len
  have htl : ts.length ≤ us.length := by have := congrArg List.length hU.tr; rw [List.length_append] at this; omega
  have hb : begN us.length (ts.length : Int) = ts.length := by unfold begN; omega
  have hu := undo_any a cap a' cap' r (l.length : Int) (ts.length : Int) ra rn rc w xs us hx ht hl hl2 (by omega) (by omega) (by omega) (by omega)
  rw [h1, h2, hb] at hu
  exact hu
set_option maxRecDepth 100000 in
set_option maxHeartbeats 64000000 in
theorem lawUndone_any (HD : ∀ w : World, Calls Try.prog 12 #[] w fun e w' => e = .returned (.bool true) ∧ Below w.heap.size w w')
    (a : Option Addr) (cap : Nat) (a' : Option Addr) (cap' : Nat) (r : Int) (d : Option Addr) (cd : Nat) (w : World) (l : List Cel) (ts : List Int) (ops : List OpH)
    (hr : Row w a cap l) (ht : Row w a' cap' ts) (ho : Row w d cd ops) :
    Calls Try.prog 8 #[hv a l.length cap a' ts.length cap' r, .slice d ops.length cd] w fun e w' => e = .returned (.bool true) ∧ Below w.heap.size w w' := by
  have hm := hr.max
  have hle := hr.le
  have hm2 := ht.max
  have hle2 := ht.le
  have hm3 := ho.max
  have hle3 := ho.le
  have HR := mkHid hr
  have HT := mkHid ht
  have HO := mkHid ho
  have HR0 := mkHid hr
  have HT0 := mkHid ht
  clear hr ht ho
  go_enter Try.func8, Try.ntmps8
  have HB := mkHid (Below.refl w.heap.size w)
  go_wp2_with fail
  obtain ⟨W, hW⟩ : ∃ V, w.alloc (.cells #[.slice a l.length cap, .slice a' ts.length cap', .int .i64 r] 25) = V := ⟨_, rfl⟩
  have hb0 : Below w.heap.size w W := by rw [← hW]; exact (Below.refl _ _).new _
  have q0 : C38 W w.heap.size (.slice a l.length cap) (.slice a' ts.length cap') (.int .i64 r) := by rw [← hW]; exact C38.new w _ _ _ _
  rw [hW]
  clear hW
  obtain ⟨B0, hB0⟩ : ∃ V, w.heap.size = V := ⟨_, rfl⟩
  rw [hB0] at q0 ⊢
  have HB00 := mkHid hB0
  clear hB0
  replace HR := mkHid (HR.out.below hb0)
  replace HT := mkHid (HT.out.below hb0)
  replace HB := mkHid (HB.out.then hb0)
  have X0 := mkHid q0
  clear q0 hb0
  refine (HD _).mono ?_
  rintro e w1 ⟨rfl, hw1⟩
  replace HR := mkHid (HR.out.below hw1)
  replace HT := mkHid (HT.out.below hw1)
  replace X0 := mkHid (X0.out.below hw1)
  replace HB := mkHid (HB.out.then hw1)
  clear hw1
  have k0 := X0.out.lt
  obtain ⟨j00, j01, j02⟩ := X0.out
  go_wp2_with fail
  clear j00 j01 j02 k0
  refine (may8_any a cap a' cap' r _ l ts HR.out HT.out).mono ?_
  rintro e w2 ⟨⟨t, rfl, hMay⟩, hw2⟩
  replace HR := mkHid (HR.out.below hw2)
  replace HT := mkHid (HT.out.below hw2)
  replace X0 := mkHid (X0.out.below hw2)
  replace HB := mkHid (HB.out.then hw2)
  clear hw2
  have HM := mkHid hMay
  clear hMay
  cases t with
  | false =>
    go_wp2_with fail
    go_ret
    exact ⟨ret_bool rfl, HB.out⟩
  | true =>
    have HMP := mkHid (HM.out.1 (by first | rfl | trivial))
    clear HM
    have hl1 := HMP.out.1
    have hl2 := HMP.out.2.1
    go_wp2_with fail
    generalize hA4 : Act.mk _ _ = A4
    refine Code.wp_mono (Q := fun ev A' W' => ev = .normal ∧ ∃ (e21 e22 e23 : Value) (GE GM G7 : Nat) (ma : Option Addr) (mc : Nat), A' = ((((((A4.put (some 21) e21).put (some 22) e22).put (some 23) e23).put (some 24) (.slice (some ⟨GE, 0, none⟩) 0 0)).put (some 6) (.pointer (some ⟨GM, 0, none⟩))).put (some 7) (.pointer (some ⟨G7, 0, none⟩))).put (some 8) (.slice (some ⟨GE, 0, none⟩) 0 0) ∧ ZH W' G7 a l.length cap a' ts.length cap' r ∧ C38 W' GM (.int .i64 (l.length : Int)) (.int .i64 (ts.length : Int)) (.slice ma 0 mc) ∧ GM ≠ G7 ∧ w2.heap.size ≤ GM ∧ w2.heap.size ≤ G7 ∧ Below w2.heap.size w2 W') ?_ ?_
    rotate_left
    · subst hA4
      have HS : Hid (∀ X, Below w2.heap.size w2 X → (fun X => C38 X B0 (.slice a l.length cap) (.slice a' ts.length cap') (.int .i64 r)) X) := fun X h => X0.out.below h
      have hd0 : Below w2.heap.size w2 w2.drew := (Below.refl _ _).drew
      refine wp_region_noPanic ?_
      refine wp_region_held_drew (S := fun X => C38 X B0 (.slice a l.length cap) (.slice a' ts.length cap') (.int .i64 r)) (by kernel_rfl) (HS.out _ hd0) (fun hSd => ?_)
      obtain ⟨v0, hx0⟩ : ∃ X, w2.drew = X := ⟨_, rfl⟩
      rw [hx0] at hd0 hSd ⊢
      clear hx0
      refine wpAnyH_take (i := 0) (oi := _) (v := ?_) rfl (by kernel_rfl) (by kernel_rfl) (by kernel_rfl) (fun _ _ _ h => h) (Or.inl ⟨by rfl, ?_⟩) (by assumption) ?_
      rotate_left
      · (intro w' hSw; obtain ⟨q0, q1, q2⟩ := hSw; go_simp; try with_reducible rfl)
      (try simp only [List.getElem_toArray, List.getElem_cons_succ, List.getElem_cons_zero, Act.put, List.setIfInBounds_toArray, List.set_cons_zero, List.set_cons_succ])
      refine wpAnyH_take (i := 2) (oi := _) (v := ?_) rfl (by kernel_rfl) (by kernel_rfl) (by kernel_rfl) (fun _ _ _ h => h) (Or.inl ⟨by rfl, ?_⟩) (by assumption) ?_
      rotate_left
      · (intro w' hSw; obtain ⟨q0, q1, q2⟩ := hSw; go_simp; try with_reducible rfl)
      (try simp only [List.getElem_toArray, List.getElem_cons_succ, List.getElem_cons_zero, Act.put, List.setIfInBounds_toArray, List.set_cons_zero, List.set_cons_succ])
      refine wpAnyH_ready (rs := [1, 3, 4, 5]) (by kernel_rfl) (by simp) ?_
      refine AllReadyH.cons (o := _) rfl (fun K hK => ?_) ?_
      go_simp
      refine (markK _ rfl rfl).mono ?_
      rintro e v1 ⟨ma, mc, rfl, hbv1⟩
      have hd1 := hd0.then hbv1
      try dsimp only
      clear hbv1
      refine hK.out _ _ (HS.out _ hd1) (fun hS1 => ?_)
      clear hK K
      (try simp only [List.getElem_toArray, List.getElem_cons_succ, List.getElem_cons_zero, Act.put, List.setIfInBounds_toArray, List.set_cons_zero, List.set_cons_succ])
      refine wpAnyH_ready (rs := [3, 4, 5]) (by kernel_rfl) (by simp) ?_
      refine AllReadyH.cons (o := _) rfl (fun K hK => ?_) ?_
      go_simp
      try dsimp only
      have hge := hd1.size
      have hbv2 := (Below.refl v1.heap.size v1).new (.cells #[] 3)
      have hd2 := hd1.then hbv2
      clear hbv2
      refine hK.out _ _ (HS.out _ hd2) (fun hS2 => ?_)
      clear hK K
      (try simp only [List.getElem_toArray, List.getElem_cons_succ, List.getElem_cons_zero, Act.put, List.setIfInBounds_toArray, List.set_cons_zero, List.set_cons_succ])
      obtain ⟨v2, hV⟩ : ∃ V, v1.alloc (.cells #[] 3) = V := ⟨_, rfl⟩
      obtain ⟨GE, hG⟩ : ∃ V, v1.heap.size = V := ⟨_, rfl⟩
      rw [hV] at hd2 hS2  ⊢
      rw [hG] at hge ⊢
      have NGE := mkHid hge
      clear hge hV hG
      refine wpAnyH_ready (rs := [4, 5]) (by kernel_rfl) (by simp) ?_
      refine AllReadyH.cons (o := _) rfl (fun K hK => ?_) ?_
      go_simp
      try dsimp only
      have q0 := ZK.new v2
      have hge := hd2.size
      have hbv3 := (Below.refl v2.heap.size v2).new (.cells #[.int .i64 0, .int .i64 0, .slice none 0 0] 43)
      have hd3 := hd2.then hbv3
      clear hbv3
      refine hK.out _ _ (HS.out _ hd3) (fun hS3 => ?_)
      clear hK K
      (try simp only [List.getElem_toArray, List.getElem_cons_succ, List.getElem_cons_zero, Act.put, List.setIfInBounds_toArray, List.set_cons_zero, List.set_cons_succ])
      obtain ⟨v3, hV⟩ : ∃ V, v2.alloc (.cells #[.int .i64 0, .int .i64 0, .slice none 0 0] 43) = V := ⟨_, rfl⟩
      obtain ⟨GM, hG⟩ : ∃ V, v2.heap.size = V := ⟨_, rfl⟩
      rw [hV] at hd3 hS3  q0 ⊢
      rw [hG] at hge q0 ⊢
      have NGM := mkHid hge
      clear hge hV hG
      have ZM := mkHid q0
      clear q0
      refine wpAnyH_ready (rs := [5]) (by kernel_rfl) (by simp) ?_
      refine AllReadyH.cons (o := _) rfl (fun K hK => ?_) AllReadyH.nil
      go_simp
      try dsimp only
      have q0 := ZB.new v3
      have hge := hd3.size
      have hbv4 := (Below.refl v3.heap.size v3).new (.cells #[.slice none 0 0, .slice none 0 0, .int .i64 0] 25)
      have hd4 := hd3.then hbv4
      replace ZM := mkHid (ZM.out.below hbv4)
      clear hbv4
      refine hK.out _ _ (HS.out _ hd4) (fun hS4 => ?_)
      clear hK K
      (try simp only [List.getElem_toArray, List.getElem_cons_succ, List.getElem_cons_zero, Act.put, List.setIfInBounds_toArray, List.set_cons_zero, List.set_cons_succ])
      obtain ⟨v4, hV⟩ : ∃ V, v3.alloc (.cells #[.slice none 0 0, .slice none 0 0, .int .i64 0] 25) = V := ⟨_, rfl⟩
      obtain ⟨G7, hG⟩ : ∃ V, v3.heap.size = V := ⟨_, rfl⟩
      rw [hV] at hd4 hS4 ZM q0 ⊢
      rw [hG] at hge q0 ⊢
      have NG7 := mkHid hge
      clear hge hV hG
      have Z7 := mkHid q0
      clear q0
      refine wpAnyH_ready (rs := [6]) (by kernel_rfl) (by simp) ?_
      refine AllReadyH.cons (o := _) rfl (fun K hK => ?_) AllReadyH.nil
      have z0 := ZM.out.cell 0
      have z1 := ZM.out.cell 1
      have z2 := ZM.out.cell 2
      have y0 := ZM.out.froz 0
      have y1 := ZM.out.froz 1
      have y2 := ZM.out.froz 2
      simp only [List.getElem?_toArray, List.getElem?_cons_zero, List.getElem?_cons_succ] at z0 z1 z2
      go_simp
      try dsimp only
      have hd5 : Below w2.heap.size w2 (((v4.setCell ⟨GM, 0, none⟩ (.int .i64 (l.length : Int))).setCell ⟨GM, 1, none⟩ (.int .i64 (ts.length : Int))).setCell ⟨GM, 2, none⟩ (.slice ma 0 mc)) := hd4.trans ((set3 GM v4 _ _ _).mono NGM.out)
      clear z0 z1 z2 y0 y1 y2
      have hne := ZM.out.ne Z7.out
      have XM := mkHid (ZM.out.set3 (.int .i64 (l.length : Int)) (.int .i64 (ts.length : Int)) (.slice ma 0 mc))
      replace Z7 := mkHid (Z7.out.other hne (.int .i64 (l.length : Int)) (.int .i64 (ts.length : Int)) (.slice ma 0 mc))
      clear ZM
      have HNE := mkHid hne
      clear hne
      refine hK.out _ _ (HS.out _ hd5) (fun hS5 => ?_)
      clear hK K
      (try simp only [List.getElem_toArray, List.getElem_cons_succ, List.getElem_cons_zero, Act.put, List.setIfInBounds_toArray, List.set_cons_zero, List.set_cons_succ])
      obtain ⟨v5, hV⟩ : ∃ V, (((v4.setCell ⟨GM, 0, none⟩ (.int .i64 (l.length : Int))).setCell ⟨GM, 1, none⟩ (.int .i64 (ts.length : Int))).setCell ⟨GM, 2, none⟩ (.slice ma 0 mc)) = V := ⟨_, rfl⟩
      rw [hV] at hd5 hS5 XM Z7 ⊢
      clear hV
      refine wpAnyH_ready (rs := [7]) (by kernel_rfl) (by simp) ?_
      refine AllReadyH.cons (o := _) rfl (fun K hK => ?_) AllReadyH.nil
      have z0 := Z7.out.cell 0
      have z1 := Z7.out.cell 1
      have z2 := Z7.out.cell 2
      have y0 := Z7.out.froz 0
      have y1 := Z7.out.froz 1
      have y2 := Z7.out.froz 2
      simp only [List.getElem?_toArray, List.getElem?_cons_zero, List.getElem?_cons_succ] at z0 z1 z2
      go_simp
      try dsimp only
      have hd6 : Below w2.heap.size w2 (((v5.setCell ⟨G7, 0, none⟩ (.slice a l.length cap)).setCell ⟨G7, 1, none⟩ (.slice a' ts.length cap')).setCell ⟨G7, 2, none⟩ (.int .i64 r)) := hd5.trans ((set3 G7 v5 _ _ _).mono NG7.out)
      clear z0 z1 z2 y0 y1 y2
      have zf := Z7.out.put3 a l.length cap a' ts.length cap' r
      have xm := XM.out.ne (Oth.set3 v5 G7 (.slice a l.length cap) (.slice a' ts.length cap') (.int .i64 r)) (fun e => HNE.out e.symm)
      refine hK.out _ _ (HS.out _ hd6) (fun hS6 => ?_)
      clear hK K
      (try simp only [List.getElem_toArray, List.getElem_cons_succ, List.getElem_cons_zero, Act.put, List.setIfInBounds_toArray, List.set_cons_zero, List.set_cons_succ])
      replace XM := mkHid xm
      have ZF := mkHid zf
      clear xm zf Z7
      obtain ⟨v6, hV⟩ : ∃ V, (((v5.setCell ⟨G7, 0, none⟩ (.slice a l.length cap)).setCell ⟨G7, 1, none⟩ (.slice a' ts.length cap')).setCell ⟨G7, 2, none⟩ (.int .i64 r)) = V := ⟨_, rfl⟩
      rw [hV] at hd6 hS6 XM ZF ⊢
      clear hV
      refine wpAnyH_take (i := 8) (oi := _) (v := ?_) rfl (by kernel_rfl) (by kernel_rfl) (by kernel_rfl) (fun _ _ _ h => h) (Or.inl ⟨by rfl, ?_⟩) (by assumption) ?_
      rotate_left
      · (intro w' hSw; obtain ⟨q0, q1, q2⟩ := hSw; go_simp; try with_reducible rfl)
      (try simp only [List.getElem_toArray, List.getElem_cons_succ, List.getElem_cons_zero, Act.put, List.setIfInBounds_toArray, List.set_cons_zero, List.set_cons_succ])
      refine wpAnyH_done (by kernel_rfl) (NoPanic.normal ?_) _
      refine ⟨rfl, ?_⟩
      (repeat apply Exists.intro)
      exact ⟨rfl, ZF.out, XM.out, (fun e => HNE.out e.symm), NGM.out, NG7.out, hd6⟩
      refine AllReadyH.cons (o := _) rfl (fun K hK => ?_) AllReadyH.nil
      go_simp
      try dsimp only
      have q0 := ZB.new v2
      have hge := hd2.size
      have hbv7 := (Below.refl v2.heap.size v2).new (.cells #[.slice none 0 0, .slice none 0 0, .int .i64 0] 25)
      have hd7 := hd2.then hbv7
      clear hbv7
      refine hK.out _ _ (HS.out _ hd7) (fun hS7 => ?_)
      clear hK K
      (try simp only [List.getElem_toArray, List.getElem_cons_succ, List.getElem_cons_zero, Act.put, List.setIfInBounds_toArray, List.set_cons_zero, List.set_cons_succ])
      obtain ⟨v7, hV⟩ : ∃ V, v2.alloc (.cells #[.slice none 0 0, .slice none 0 0, .int .i64 0] 25) = V := ⟨_, rfl⟩
      obtain ⟨G7, hG⟩ : ∃ V, v2.heap.size = V := ⟨_, rfl⟩
      rw [hV] at hd7 hS7  q0 ⊢
      rw [hG] at hge q0 ⊢
      have NG7 := mkHid hge
      clear hge hV hG
      have Z7 := mkHid q0
      clear q0
      refine wpAnyH_ready (rs := [4]) (by kernel_rfl) (by simp) ?_
      refine AllReadyH.cons (o := _) rfl (fun K hK => ?_) AllReadyH.nil
      go_simp
      try dsimp only
      have q0 := ZK.new v7
      have hge := hd7.size
      have hbv8 := (Below.refl v7.heap.size v7).new (.cells #[.int .i64 0, .int .i64 0, .slice none 0 0] 43)
      have hd8 := hd7.then hbv8
      replace Z7 := mkHid (Z7.out.below hbv8)
      clear hbv8
      refine hK.out _ _ (HS.out _ hd8) (fun hS8 => ?_)
      clear hK K
      (try simp only [List.getElem_toArray, List.getElem_cons_succ, List.getElem_cons_zero, Act.put, List.setIfInBounds_toArray, List.set_cons_zero, List.set_cons_succ])
      obtain ⟨v8, hV⟩ : ∃ V, v7.alloc (.cells #[.int .i64 0, .int .i64 0, .slice none 0 0] 43) = V := ⟨_, rfl⟩
      obtain ⟨GM, hG⟩ : ∃ V, v7.heap.size = V := ⟨_, rfl⟩
      rw [hV] at hd8 hS8 Z7 q0 ⊢
      rw [hG] at hge q0 ⊢
      have NGM := mkHid hge
      clear hge hV hG
      have ZM := mkHid q0
      clear q0
      refine wpAnyH_ready (rs := [6]) (by kernel_rfl) (by simp) ?_
      refine AllReadyH.cons (o := _) rfl (fun K hK => ?_) AllReadyH.nil
      have z0 := ZM.out.cell 0
      have z1 := ZM.out.cell 1
      have z2 := ZM.out.cell 2
      have y0 := ZM.out.froz 0
      have y1 := ZM.out.froz 1
      have y2 := ZM.out.froz 2
      simp only [List.getElem?_toArray, List.getElem?_cons_zero, List.getElem?_cons_succ] at z0 z1 z2
      go_simp
      try dsimp only
      have hd9 : Below w2.heap.size w2 (((v8.setCell ⟨GM, 0, none⟩ (.int .i64 (l.length : Int))).setCell ⟨GM, 1, none⟩ (.int .i64 (ts.length : Int))).setCell ⟨GM, 2, none⟩ (.slice ma 0 mc)) := hd8.trans ((set3 GM v8 _ _ _).mono NGM.out)
      clear z0 z1 z2 y0 y1 y2
      have hne := ZM.out.ne Z7.out
      have XM := mkHid (ZM.out.set3 (.int .i64 (l.length : Int)) (.int .i64 (ts.length : Int)) (.slice ma 0 mc))
      replace Z7 := mkHid (Z7.out.other hne (.int .i64 (l.length : Int)) (.int .i64 (ts.length : Int)) (.slice ma 0 mc))
      clear ZM
      have HNE := mkHid hne
      clear hne
      refine hK.out _ _ (HS.out _ hd9) (fun hS9 => ?_)
      clear hK K
      (try simp only [List.getElem_toArray, List.getElem_cons_succ, List.getElem_cons_zero, Act.put, List.setIfInBounds_toArray, List.set_cons_zero, List.set_cons_succ])
      obtain ⟨v9, hV⟩ : ∃ V, (((v8.setCell ⟨GM, 0, none⟩ (.int .i64 (l.length : Int))).setCell ⟨GM, 1, none⟩ (.int .i64 (ts.length : Int))).setCell ⟨GM, 2, none⟩ (.slice ma 0 mc)) = V := ⟨_, rfl⟩
      rw [hV] at hd9 hS9 XM Z7 ⊢
      clear hV
      refine wpAnyH_ready (rs := [7]) (by kernel_rfl) (by simp) ?_
      refine AllReadyH.cons (o := _) rfl (fun K hK => ?_) AllReadyH.nil
      have z0 := Z7.out.cell 0
      have z1 := Z7.out.cell 1
      have z2 := Z7.out.cell 2
      have y0 := Z7.out.froz 0
      have y1 := Z7.out.froz 1
      have y2 := Z7.out.froz 2
      simp only [List.getElem?_toArray, List.getElem?_cons_zero, List.getElem?_cons_succ] at z0 z1 z2
      go_simp
      try dsimp only
      have hd10 : Below w2.heap.size w2 (((v9.setCell ⟨G7, 0, none⟩ (.slice a l.length cap)).setCell ⟨G7, 1, none⟩ (.slice a' ts.length cap')).setCell ⟨G7, 2, none⟩ (.int .i64 r)) := hd9.trans ((set3 G7 v9 _ _ _).mono NG7.out)
      clear z0 z1 z2 y0 y1 y2
      have zf := Z7.out.put3 a l.length cap a' ts.length cap' r
      have xm := XM.out.ne (Oth.set3 v9 G7 (.slice a l.length cap) (.slice a' ts.length cap') (.int .i64 r)) (fun e => HNE.out e.symm)
      refine hK.out _ _ (HS.out _ hd10) (fun hS10 => ?_)
      clear hK K
      (try simp only [List.getElem_toArray, List.getElem_cons_succ, List.getElem_cons_zero, Act.put, List.setIfInBounds_toArray, List.set_cons_zero, List.set_cons_succ])
      replace XM := mkHid xm
      have ZF := mkHid zf
      clear xm zf Z7
      obtain ⟨v10, hV⟩ : ∃ V, (((v9.setCell ⟨G7, 0, none⟩ (.slice a l.length cap)).setCell ⟨G7, 1, none⟩ (.slice a' ts.length cap')).setCell ⟨G7, 2, none⟩ (.int .i64 r)) = V := ⟨_, rfl⟩
      rw [hV] at hd10 hS10 XM ZF ⊢
      clear hV
      refine wpAnyH_take (i := 8) (oi := _) (v := ?_) rfl (by kernel_rfl) (by kernel_rfl) (by kernel_rfl) (fun _ _ _ h => h) (Or.inl ⟨by rfl, ?_⟩) (by assumption) ?_
      rotate_left
      · (intro w' hSw; obtain ⟨q0, q1, q2⟩ := hSw; go_simp; try with_reducible rfl)
      (try simp only [List.getElem_toArray, List.getElem_cons_succ, List.getElem_cons_zero, Act.put, List.setIfInBounds_toArray, List.set_cons_zero, List.set_cons_succ])
      refine wpAnyH_done (by kernel_rfl) (NoPanic.normal ?_) _
      refine ⟨rfl, ?_⟩
      (repeat apply Exists.intro)
      exact ⟨rfl, ZF.out, XM.out, (fun e => HNE.out e.symm), NGM.out, NG7.out, hd10⟩
      refine AllReadyH.cons (o := _) rfl (fun K hK => ?_) ?_
      go_simp
      try dsimp only
      have q0 := ZK.new v1
      have hge := hd1.size
      have hbv11 := (Below.refl v1.heap.size v1).new (.cells #[.int .i64 0, .int .i64 0, .slice none 0 0] 43)
      have hd11 := hd1.then hbv11
      clear hbv11
      refine hK.out _ _ (HS.out _ hd11) (fun hS11 => ?_)
      clear hK K
      (try simp only [List.getElem_toArray, List.getElem_cons_succ, List.getElem_cons_zero, Act.put, List.setIfInBounds_toArray, List.set_cons_zero, List.set_cons_succ])
      obtain ⟨v11, hV⟩ : ∃ V, v1.alloc (.cells #[.int .i64 0, .int .i64 0, .slice none 0 0] 43) = V := ⟨_, rfl⟩
      obtain ⟨GM, hG⟩ : ∃ V, v1.heap.size = V := ⟨_, rfl⟩
      rw [hV] at hd11 hS11  q0 ⊢
      rw [hG] at hge q0 ⊢
      have NGM := mkHid hge
      clear hge hV hG
      have ZM := mkHid q0
      clear q0
      refine wpAnyH_ready (rs := [3, 5]) (by kernel_rfl) (by simp) ?_
      refine AllReadyH.cons (o := _) rfl (fun K hK => ?_) ?_
      go_simp
      try dsimp only
      have hge := hd11.size
      have hbv12 := (Below.refl v11.heap.size v11).new (.cells #[] 3)
      have hd12 := hd11.then hbv12
      replace ZM := mkHid (ZM.out.below hbv12)
      clear hbv12
      refine hK.out _ _ (HS.out _ hd12) (fun hS12 => ?_)
      clear hK K
      (try simp only [List.getElem_toArray, List.getElem_cons_succ, List.getElem_cons_zero, Act.put, List.setIfInBounds_toArray, List.set_cons_zero, List.set_cons_succ])
      obtain ⟨v12, hV⟩ : ∃ V, v11.alloc (.cells #[] 3) = V := ⟨_, rfl⟩
      obtain ⟨GE, hG⟩ : ∃ V, v11.heap.size = V := ⟨_, rfl⟩
      rw [hV] at hd12 hS12 ZM ⊢
      rw [hG] at hge ⊢
      have NGE := mkHid hge
      clear hge hV hG
      refine wpAnyH_ready (rs := [5]) (by kernel_rfl) (by simp) ?_
      refine AllReadyH.cons (o := _) rfl (fun K hK => ?_) AllReadyH.nil
      go_simp
      try dsimp only
      have q0 := ZB.new v12
      have hge := hd12.size
      have hbv13 := (Below.refl v12.heap.size v12).new (.cells #[.slice none 0 0, .slice none 0 0, .int .i64 0] 25)
      have hd13 := hd12.then hbv13
      replace ZM := mkHid (ZM.out.below hbv13)
      clear hbv13
      refine hK.out _ _ (HS.out _ hd13) (fun hS13 => ?_)
      clear hK K
      (try simp only [List.getElem_toArray, List.getElem_cons_succ, List.getElem_cons_zero, Act.put, List.setIfInBounds_toArray, List.set_cons_zero, List.set_cons_succ])
      obtain ⟨v13, hV⟩ : ∃ V, v12.alloc (.cells #[.slice none 0 0, .slice none 0 0, .int .i64 0] 25) = V := ⟨_, rfl⟩
      obtain ⟨G7, hG⟩ : ∃ V, v12.heap.size = V := ⟨_, rfl⟩
      rw [hV] at hd13 hS13 ZM q0 ⊢
      rw [hG] at hge q0 ⊢
      have NG7 := mkHid hge
      clear hge hV hG
      have Z7 := mkHid q0
      clear q0
      refine wpAnyH_ready (rs := [6]) (by kernel_rfl) (by simp) ?_
      refine AllReadyH.cons (o := _) rfl (fun K hK => ?_) AllReadyH.nil
      have z0 := ZM.out.cell 0
      have z1 := ZM.out.cell 1
      have z2 := ZM.out.cell 2
      have y0 := ZM.out.froz 0
      have y1 := ZM.out.froz 1
      have y2 := ZM.out.froz 2
      simp only [List.getElem?_toArray, List.getElem?_cons_zero, List.getElem?_cons_succ] at z0 z1 z2
      go_simp
      try dsimp only
      have hd14 : Below w2.heap.size w2 (((v13.setCell ⟨GM, 0, none⟩ (.int .i64 (l.length : Int))).setCell ⟨GM, 1, none⟩ (.int .i64 (ts.length : Int))).setCell ⟨GM, 2, none⟩ (.slice ma 0 mc)) := hd13.trans ((set3 GM v13 _ _ _).mono NGM.out)
      clear z0 z1 z2 y0 y1 y2
      have hne := ZM.out.ne Z7.out
      have XM := mkHid (ZM.out.set3 (.int .i64 (l.length : Int)) (.int .i64 (ts.length : Int)) (.slice ma 0 mc))
      replace Z7 := mkHid (Z7.out.other hne (.int .i64 (l.length : Int)) (.int .i64 (ts.length : Int)) (.slice ma 0 mc))
      clear ZM
      have HNE := mkHid hne
      clear hne
      refine hK.out _ _ (HS.out _ hd14) (fun hS14 => ?_)
      clear hK K
      (try simp only [List.getElem_toArray, List.getElem_cons_succ, List.getElem_cons_zero, Act.put, List.setIfInBounds_toArray, List.set_cons_zero, List.set_cons_succ])
      obtain ⟨v14, hV⟩ : ∃ V, (((v13.setCell ⟨GM, 0, none⟩ (.int .i64 (l.length : Int))).setCell ⟨GM, 1, none⟩ (.int .i64 (ts.length : Int))).setCell ⟨GM, 2, none⟩ (.slice ma 0 mc)) = V := ⟨_, rfl⟩
      rw [hV] at hd14 hS14 XM Z7 ⊢
      clear hV
      refine wpAnyH_ready (rs := [7]) (by kernel_rfl) (by simp) ?_
      refine AllReadyH.cons (o := _) rfl (fun K hK => ?_) AllReadyH.nil
      have z0 := Z7.out.cell 0
      have z1 := Z7.out.cell 1
      have z2 := Z7.out.cell 2
      have y0 := Z7.out.froz 0
      have y1 := Z7.out.froz 1
      have y2 := Z7.out.froz 2
      simp only [List.getElem?_toArray, List.getElem?_cons_zero, List.getElem?_cons_succ] at z0 z1 z2
      go_simp
      try dsimp only
      have hd15 : Below w2.heap.size w2 (((v14.setCell ⟨G7, 0, none⟩ (.slice a l.length cap)).setCell ⟨G7, 1, none⟩ (.slice a' ts.length cap')).setCell ⟨G7, 2, none⟩ (.int .i64 r)) := hd14.trans ((set3 G7 v14 _ _ _).mono NG7.out)
      clear z0 z1 z2 y0 y1 y2
      have zf := Z7.out.put3 a l.length cap a' ts.length cap' r
      have xm := XM.out.ne (Oth.set3 v14 G7 (.slice a l.length cap) (.slice a' ts.length cap') (.int .i64 r)) (fun e => HNE.out e.symm)
      refine hK.out _ _ (HS.out _ hd15) (fun hS15 => ?_)
      clear hK K
      (try simp only [List.getElem_toArray, List.getElem_cons_succ, List.getElem_cons_zero, Act.put, List.setIfInBounds_toArray, List.set_cons_zero, List.set_cons_succ])
      replace XM := mkHid xm
      have ZF := mkHid zf
      clear xm zf Z7
      obtain ⟨v15, hV⟩ : ∃ V, (((v14.setCell ⟨G7, 0, none⟩ (.slice a l.length cap)).setCell ⟨G7, 1, none⟩ (.slice a' ts.length cap')).setCell ⟨G7, 2, none⟩ (.int .i64 r)) = V := ⟨_, rfl⟩
      rw [hV] at hd15 hS15 XM ZF ⊢
      clear hV
      refine wpAnyH_take (i := 8) (oi := _) (v := ?_) rfl (by kernel_rfl) (by kernel_rfl) (by kernel_rfl) (fun _ _ _ h => h) (Or.inl ⟨by rfl, ?_⟩) (by assumption) ?_
      rotate_left
      · (intro w' hSw; obtain ⟨q0, q1, q2⟩ := hSw; go_simp; try with_reducible rfl)
      (try simp only [List.getElem_toArray, List.getElem_cons_succ, List.getElem_cons_zero, Act.put, List.setIfInBounds_toArray, List.set_cons_zero, List.set_cons_succ])
      refine wpAnyH_done (by kernel_rfl) (NoPanic.normal ?_) _
      refine ⟨rfl, ?_⟩
      (repeat apply Exists.intro)
      exact ⟨rfl, ZF.out, XM.out, (fun e => HNE.out e.symm), NGM.out, NG7.out, hd15⟩
      refine AllReadyH.cons (o := _) rfl (fun K hK => ?_) AllReadyH.nil
      go_simp
      try dsimp only
      have q0 := ZB.new v11
      have hge := hd11.size
      have hbv16 := (Below.refl v11.heap.size v11).new (.cells #[.slice none 0 0, .slice none 0 0, .int .i64 0] 25)
      have hd16 := hd11.then hbv16
      replace ZM := mkHid (ZM.out.below hbv16)
      clear hbv16
      refine hK.out _ _ (HS.out _ hd16) (fun hS16 => ?_)
      clear hK K
      (try simp only [List.getElem_toArray, List.getElem_cons_succ, List.getElem_cons_zero, Act.put, List.setIfInBounds_toArray, List.set_cons_zero, List.set_cons_succ])
      obtain ⟨v16, hV⟩ : ∃ V, v11.alloc (.cells #[.slice none 0 0, .slice none 0 0, .int .i64 0] 25) = V := ⟨_, rfl⟩
      obtain ⟨G7, hG⟩ : ∃ V, v11.heap.size = V := ⟨_, rfl⟩
      rw [hV] at hd16 hS16 ZM q0 ⊢
      rw [hG] at hge q0 ⊢
      have NG7 := mkHid hge
      clear hge hV hG
      have Z7 := mkHid q0
      clear q0
      refine wpAnyH_ready (rs := [3, 6]) (by kernel_rfl) (by simp) ?_
      refine AllReadyH.cons (o := _) rfl (fun K hK => ?_) ?_
      go_simp
      try dsimp only
      have hge := hd16.size
      have hbv17 := (Below.refl v16.heap.size v16).new (.cells #[] 3)
      have hd17 := hd16.then hbv17
      replace ZM := mkHid (ZM.out.below hbv17)
      replace Z7 := mkHid (Z7.out.below hbv17)
      clear hbv17
      refine hK.out _ _ (HS.out _ hd17) (fun hS17 => ?_)
      clear hK K
      (try simp only [List.getElem_toArray, List.getElem_cons_succ, List.getElem_cons_zero, Act.put, List.setIfInBounds_toArray, List.set_cons_zero, List.set_cons_succ])
      obtain ⟨v17, hV⟩ : ∃ V, v16.alloc (.cells #[] 3) = V := ⟨_, rfl⟩
      obtain ⟨GE, hG⟩ : ∃ V, v16.heap.size = V := ⟨_, rfl⟩
      rw [hV] at hd17 hS17 ZM Z7 ⊢
      rw [hG] at hge ⊢
      have NGE := mkHid hge
      clear hge hV hG
      refine wpAnyH_ready (rs := [6]) (by kernel_rfl) (by simp) ?_
      refine AllReadyH.cons (o := _) rfl (fun K hK => ?_) AllReadyH.nil
      have z0 := ZM.out.cell 0
      have z1 := ZM.out.cell 1
      have z2 := ZM.out.cell 2
      have y0 := ZM.out.froz 0
      have y1 := ZM.out.froz 1
      have y2 := ZM.out.froz 2
      simp only [List.getElem?_toArray, List.getElem?_cons_zero, List.getElem?_cons_succ] at z0 z1 z2
      go_simp
      try dsimp only
      have hd18 : Below w2.heap.size w2 (((v17.setCell ⟨GM, 0, none⟩ (.int .i64 (l.length : Int))).setCell ⟨GM, 1, none⟩ (.int .i64 (ts.length : Int))).setCell ⟨GM, 2, none⟩ (.slice ma 0 mc)) := hd17.trans ((set3 GM v17 _ _ _).mono NGM.out)
      clear z0 z1 z2 y0 y1 y2
      have hne := ZM.out.ne Z7.out
      have XM := mkHid (ZM.out.set3 (.int .i64 (l.length : Int)) (.int .i64 (ts.length : Int)) (.slice ma 0 mc))
      replace Z7 := mkHid (Z7.out.other hne (.int .i64 (l.length : Int)) (.int .i64 (ts.length : Int)) (.slice ma 0 mc))
      clear ZM
      have HNE := mkHid hne
      clear hne
      refine hK.out _ _ (HS.out _ hd18) (fun hS18 => ?_)
      clear hK K
      (try simp only [List.getElem_toArray, List.getElem_cons_succ, List.getElem_cons_zero, Act.put, List.setIfInBounds_toArray, List.set_cons_zero, List.set_cons_succ])
      obtain ⟨v18, hV⟩ : ∃ V, (((v17.setCell ⟨GM, 0, none⟩ (.int .i64 (l.length : Int))).setCell ⟨GM, 1, none⟩ (.int .i64 (ts.length : Int))).setCell ⟨GM, 2, none⟩ (.slice ma 0 mc)) = V := ⟨_, rfl⟩
      rw [hV] at hd18 hS18 XM Z7 ⊢
      clear hV
      refine wpAnyH_ready (rs := [7]) (by kernel_rfl) (by simp) ?_
      refine AllReadyH.cons (o := _) rfl (fun K hK => ?_) AllReadyH.nil
      have z0 := Z7.out.cell 0
      have z1 := Z7.out.cell 1
      have z2 := Z7.out.cell 2
      have y0 := Z7.out.froz 0
      have y1 := Z7.out.froz 1
      have y2 := Z7.out.froz 2
      simp only [List.getElem?_toArray, List.getElem?_cons_zero, List.getElem?_cons_succ] at z0 z1 z2
      go_simp
      try dsimp only
      have hd19 : Below w2.heap.size w2 (((v18.setCell ⟨G7, 0, none⟩ (.slice a l.length cap)).setCell ⟨G7, 1, none⟩ (.slice a' ts.length cap')).setCell ⟨G7, 2, none⟩ (.int .i64 r)) := hd18.trans ((set3 G7 v18 _ _ _).mono NG7.out)
      clear z0 z1 z2 y0 y1 y2
      have zf := Z7.out.put3 a l.length cap a' ts.length cap' r
      have xm := XM.out.ne (Oth.set3 v18 G7 (.slice a l.length cap) (.slice a' ts.length cap') (.int .i64 r)) (fun e => HNE.out e.symm)
      refine hK.out _ _ (HS.out _ hd19) (fun hS19 => ?_)
      clear hK K
      (try simp only [List.getElem_toArray, List.getElem_cons_succ, List.getElem_cons_zero, Act.put, List.setIfInBounds_toArray, List.set_cons_zero, List.set_cons_succ])
      replace XM := mkHid xm
      have ZF := mkHid zf
      clear xm zf Z7
      obtain ⟨v19, hV⟩ : ∃ V, (((v18.setCell ⟨G7, 0, none⟩ (.slice a l.length cap)).setCell ⟨G7, 1, none⟩ (.slice a' ts.length cap')).setCell ⟨G7, 2, none⟩ (.int .i64 r)) = V := ⟨_, rfl⟩
      rw [hV] at hd19 hS19 XM ZF ⊢
      clear hV
      refine wpAnyH_take (i := 8) (oi := _) (v := ?_) rfl (by kernel_rfl) (by kernel_rfl) (by kernel_rfl) (fun _ _ _ h => h) (Or.inl ⟨by rfl, ?_⟩) (by assumption) ?_
      rotate_left
      · (intro w' hSw; obtain ⟨q0, q1, q2⟩ := hSw; go_simp; try with_reducible rfl)
      (try simp only [List.getElem_toArray, List.getElem_cons_succ, List.getElem_cons_zero, Act.put, List.setIfInBounds_toArray, List.set_cons_zero, List.set_cons_succ])
      refine wpAnyH_done (by kernel_rfl) (NoPanic.normal ?_) _
      refine ⟨rfl, ?_⟩
      (repeat apply Exists.intro)
      exact ⟨rfl, ZF.out, XM.out, (fun e => HNE.out e.symm), NGM.out, NG7.out, hd19⟩
      refine AllReadyH.cons (o := _) rfl (fun K hK => ?_) AllReadyH.nil
      have z0 := ZM.out.cell 0
      have z1 := ZM.out.cell 1
      have z2 := ZM.out.cell 2
      have y0 := ZM.out.froz 0
      have y1 := ZM.out.froz 1
      have y2 := ZM.out.froz 2
      simp only [List.getElem?_toArray, List.getElem?_cons_zero, List.getElem?_cons_succ] at z0 z1 z2
      go_simp
      try dsimp only
      have hd20 : Below w2.heap.size w2 (((v16.setCell ⟨GM, 0, none⟩ (.int .i64 (l.length : Int))).setCell ⟨GM, 1, none⟩ (.int .i64 (ts.length : Int))).setCell ⟨GM, 2, none⟩ (.slice ma 0 mc)) := hd16.trans ((set3 GM v16 _ _ _).mono NGM.out)
      clear z0 z1 z2 y0 y1 y2
      have hne := ZM.out.ne Z7.out
      have XM := mkHid (ZM.out.set3 (.int .i64 (l.length : Int)) (.int .i64 (ts.length : Int)) (.slice ma 0 mc))
      replace Z7 := mkHid (Z7.out.other hne (.int .i64 (l.length : Int)) (.int .i64 (ts.length : Int)) (.slice ma 0 mc))
      clear ZM
      have HNE := mkHid hne
      clear hne
      refine hK.out _ _ (HS.out _ hd20) (fun hS20 => ?_)
      clear hK K
      (try simp only [List.getElem_toArray, List.getElem_cons_succ, List.getElem_cons_zero, Act.put, List.setIfInBounds_toArray, List.set_cons_zero, List.set_cons_succ])
      obtain ⟨v20, hV⟩ : ∃ V, (((v16.setCell ⟨GM, 0, none⟩ (.int .i64 (l.length : Int))).setCell ⟨GM, 1, none⟩ (.int .i64 (ts.length : Int))).setCell ⟨GM, 2, none⟩ (.slice ma 0 mc)) = V := ⟨_, rfl⟩
      rw [hV] at hd20 hS20 XM Z7 ⊢
      clear hV
      refine wpAnyH_ready (rs := [3, 7]) (by kernel_rfl) (by simp) ?_
      refine AllReadyH.cons (o := _) rfl (fun K hK => ?_) ?_
      go_simp
      try dsimp only
      have hge := hd20.size
      have hbv21 := (Below.refl v20.heap.size v20).new (.cells #[] 3)
      have hd21 := hd20.then hbv21
      replace XM := mkHid (XM.out.below hbv21)
      replace Z7 := mkHid (Z7.out.below hbv21)
      clear hbv21
      refine hK.out _ _ (HS.out _ hd21) (fun hS21 => ?_)
      clear hK K
      (try simp only [List.getElem_toArray, List.getElem_cons_succ, List.getElem_cons_zero, Act.put, List.setIfInBounds_toArray, List.set_cons_zero, List.set_cons_succ])
      obtain ⟨v21, hV⟩ : ∃ V, v20.alloc (.cells #[] 3) = V := ⟨_, rfl⟩
      obtain ⟨GE, hG⟩ : ∃ V, v20.heap.size = V := ⟨_, rfl⟩
      rw [hV] at hd21 hS21 XM Z7 ⊢
      rw [hG] at hge ⊢
      have NGE := mkHid hge
      clear hge hV hG
      refine wpAnyH_ready (rs := [7]) (by kernel_rfl) (by simp) ?_
      refine AllReadyH.cons (o := _) rfl (fun K hK => ?_) AllReadyH.nil
      have z0 := Z7.out.cell 0
      have z1 := Z7.out.cell 1
      have z2 := Z7.out.cell 2
      have y0 := Z7.out.froz 0
      have y1 := Z7.out.froz 1
      have y2 := Z7.out.froz 2
      simp only [List.getElem?_toArray, List.getElem?_cons_zero, List.getElem?_cons_succ] at z0 z1 z2
      go_simp
      try dsimp only
      have hd22 : Below w2.heap.size w2 (((v21.setCell ⟨G7, 0, none⟩ (.slice a l.length cap)).setCell ⟨G7, 1, none⟩ (.slice a' ts.length cap')).setCell ⟨G7, 2, none⟩ (.int .i64 r)) := hd21.trans ((set3 G7 v21 _ _ _).mono NG7.out)
      clear z0 z1 z2 y0 y1 y2
      have zf := Z7.out.put3 a l.length cap a' ts.length cap' r
      have xm := XM.out.ne (Oth.set3 v21 G7 (.slice a l.length cap) (.slice a' ts.length cap') (.int .i64 r)) (fun e => HNE.out e.symm)
      refine hK.out _ _ (HS.out _ hd22) (fun hS22 => ?_)
      clear hK K
      (try simp only [List.getElem_toArray, List.getElem_cons_succ, List.getElem_cons_zero, Act.put, List.setIfInBounds_toArray, List.set_cons_zero, List.set_cons_succ])
      replace XM := mkHid xm
      have ZF := mkHid zf
      clear xm zf Z7
      obtain ⟨v22, hV⟩ : ∃ V, (((v21.setCell ⟨G7, 0, none⟩ (.slice a l.length cap)).setCell ⟨G7, 1, none⟩ (.slice a' ts.length cap')).setCell ⟨G7, 2, none⟩ (.int .i64 r)) = V := ⟨_, rfl⟩
      rw [hV] at hd22 hS22 XM ZF ⊢
      clear hV
      refine wpAnyH_take (i := 8) (oi := _) (v := ?_) rfl (by kernel_rfl) (by kernel_rfl) (by kernel_rfl) (fun _ _ _ h => h) (Or.inl ⟨by rfl, ?_⟩) (by assumption) ?_
      rotate_left
      · (intro w' hSw; obtain ⟨q0, q1, q2⟩ := hSw; go_simp; try with_reducible rfl)
      (try simp only [List.getElem_toArray, List.getElem_cons_succ, List.getElem_cons_zero, Act.put, List.setIfInBounds_toArray, List.set_cons_zero, List.set_cons_succ])
      refine wpAnyH_done (by kernel_rfl) (NoPanic.normal ?_) _
      refine ⟨rfl, ?_⟩
      (repeat apply Exists.intro)
      exact ⟨rfl, ZF.out, XM.out, (fun e => HNE.out e.symm), NGM.out, NG7.out, hd22⟩
      refine AllReadyH.cons (o := _) rfl (fun K hK => ?_) AllReadyH.nil
      have z0 := Z7.out.cell 0
      have z1 := Z7.out.cell 1
      have z2 := Z7.out.cell 2
      have y0 := Z7.out.froz 0
      have y1 := Z7.out.froz 1
      have y2 := Z7.out.froz 2
      simp only [List.getElem?_toArray, List.getElem?_cons_zero, List.getElem?_cons_succ] at z0 z1 z2
      go_simp
      try dsimp only
      have hd23 : Below w2.heap.size w2 (((v20.setCell ⟨G7, 0, none⟩ (.slice a l.length cap)).setCell ⟨G7, 1, none⟩ (.slice a' ts.length cap')).setCell ⟨G7, 2, none⟩ (.int .i64 r)) := hd20.trans ((set3 G7 v20 _ _ _).mono NG7.out)
      clear z0 z1 z2 y0 y1 y2
      have zf := Z7.out.put3 a l.length cap a' ts.length cap' r
      have xm := XM.out.ne (Oth.set3 v20 G7 (.slice a l.length cap) (.slice a' ts.length cap') (.int .i64 r)) (fun e => HNE.out e.symm)
      refine hK.out _ _ (HS.out _ hd23) (fun hS23 => ?_)
      clear hK K
      (try simp only [List.getElem_toArray, List.getElem_cons_succ, List.getElem_cons_zero, Act.put, List.setIfInBounds_toArray, List.set_cons_zero, List.set_cons_succ])
      replace XM := mkHid xm
      have ZF := mkHid zf
      clear xm zf Z7
      obtain ⟨v23, hV⟩ : ∃ V, (((v20.setCell ⟨G7, 0, none⟩ (.slice a l.length cap)).setCell ⟨G7, 1, none⟩ (.slice a' ts.length cap')).setCell ⟨G7, 2, none⟩ (.int .i64 r)) = V := ⟨_, rfl⟩
      rw [hV] at hd23 hS23 XM ZF ⊢
      clear hV
      refine wpAnyH_ready (rs := [3]) (by kernel_rfl) (by simp) ?_
      refine AllReadyH.cons (o := _) rfl (fun K hK => ?_) AllReadyH.nil
      go_simp
      try dsimp only
      have hge := hd23.size
      have hbv24 := (Below.refl v23.heap.size v23).new (.cells #[] 3)
      have hd24 := hd23.then hbv24
      replace XM := mkHid (XM.out.below hbv24)
      replace ZF := mkHid (ZF.out.below hbv24)
      clear hbv24
      refine hK.out _ _ (HS.out _ hd24) (fun hS24 => ?_)
      clear hK K
      (try simp only [List.getElem_toArray, List.getElem_cons_succ, List.getElem_cons_zero, Act.put, List.setIfInBounds_toArray, List.set_cons_zero, List.set_cons_succ])
      obtain ⟨v24, hV⟩ : ∃ V, v23.alloc (.cells #[] 3) = V := ⟨_, rfl⟩
      obtain ⟨GE, hG⟩ : ∃ V, v23.heap.size = V := ⟨_, rfl⟩
      rw [hV] at hd24 hS24 XM ZF ⊢
      rw [hG] at hge ⊢
      have NGE := mkHid hge
      clear hge hV hG
      refine wpAnyH_take (i := 8) (oi := _) (v := ?_) rfl (by kernel_rfl) (by kernel_rfl) (by kernel_rfl) (fun _ _ _ h => h) (Or.inl ⟨by rfl, ?_⟩) (by assumption) ?_
      rotate_left
      · (intro w' hSw; obtain ⟨q0, q1, q2⟩ := hSw; go_simp; try with_reducible rfl)
      (try simp only [List.getElem_toArray, List.getElem_cons_succ, List.getElem_cons_zero, Act.put, List.setIfInBounds_toArray, List.set_cons_zero, List.set_cons_succ])
      refine wpAnyH_done (by kernel_rfl) (NoPanic.normal ?_) _
      refine ⟨rfl, ?_⟩
      (repeat apply Exists.intro)
      exact ⟨rfl, ZF.out, XM.out, (fun e => HNE.out e.symm), NGM.out, NG7.out, hd24⟩
      refine AllReadyH.cons (o := _) rfl (fun K hK => ?_) AllReadyH.nil
      go_simp
      try dsimp only
      have q0 := ZB.new v1
      have hge := hd1.size
      have hbv25 := (Below.refl v1.heap.size v1).new (.cells #[.slice none 0 0, .slice none 0 0, .int .i64 0] 25)
      have hd25 := hd1.then hbv25
      clear hbv25
      refine hK.out _ _ (HS.out _ hd25) (fun hS25 => ?_)
      clear hK K
      (try simp only [List.getElem_toArray, List.getElem_cons_succ, List.getElem_cons_zero, Act.put, List.setIfInBounds_toArray, List.set_cons_zero, List.set_cons_succ])
      obtain ⟨v25, hV⟩ : ∃ V, v1.alloc (.cells #[.slice none 0 0, .slice none 0 0, .int .i64 0] 25) = V := ⟨_, rfl⟩
      obtain ⟨G7, hG⟩ : ∃ V, v1.heap.size = V := ⟨_, rfl⟩
      rw [hV] at hd25 hS25  q0 ⊢
      rw [hG] at hge q0 ⊢
      have NG7 := mkHid hge
      clear hge hV hG
      have Z7 := mkHid q0
      clear q0
      refine wpAnyH_ready (rs := [3, 4]) (by kernel_rfl) (by simp) ?_
      refine AllReadyH.cons (o := _) rfl (fun K hK => ?_) ?_
      go_simp
      try dsimp only
      have hge := hd25.size
      have hbv26 := (Below.refl v25.heap.size v25).new (.cells #[] 3)
      have hd26 := hd25.then hbv26
      replace Z7 := mkHid (Z7.out.below hbv26)
      clear hbv26
      refine hK.out _ _ (HS.out _ hd26) (fun hS26 => ?_)
      clear hK K
      (try simp only [List.getElem_toArray, List.getElem_cons_succ, List.getElem_cons_zero, Act.put, List.setIfInBounds_toArray, List.set_cons_zero, List.set_cons_succ])
      obtain ⟨v26, hV⟩ : ∃ V, v25.alloc (.cells #[] 3) = V := ⟨_, rfl⟩
      obtain ⟨GE, hG⟩ : ∃ V, v25.heap.size = V := ⟨_, rfl⟩
      rw [hV] at hd26 hS26 Z7 ⊢
      rw [hG] at hge ⊢
      have NGE := mkHid hge
      clear hge hV hG
      refine wpAnyH_ready (rs := [4]) (by kernel_rfl) (by simp) ?_
      refine AllReadyH.cons (o := _) rfl (fun K hK => ?_) AllReadyH.nil
      go_simp
      try dsimp only
      have q0 := ZK.new v26
      have hge := hd26.size
      have hbv27 := (Below.refl v26.heap.size v26).new (.cells #[.int .i64 0, .int .i64 0, .slice none 0 0] 43)
      have hd27 := hd26.then hbv27
      replace Z7 := mkHid (Z7.out.below hbv27)
      clear hbv27
      refine hK.out _ _ (HS.out _ hd27) (fun hS27 => ?_)
      clear hK K
      (try simp only [List.getElem_toArray, List.getElem_cons_succ, List.getElem_cons_zero, Act.put, List.setIfInBounds_toArray, List.set_cons_zero, List.set_cons_succ])
      obtain ⟨v27, hV⟩ : ∃ V, v26.alloc (.cells #[.int .i64 0, .int .i64 0, .slice none 0 0] 43) = V := ⟨_, rfl⟩
      obtain ⟨GM, hG⟩ : ∃ V, v26.heap.size = V := ⟨_, rfl⟩
      rw [hV] at hd27 hS27 Z7 q0 ⊢
      rw [hG] at hge q0 ⊢
      have NGM := mkHid hge
      clear hge hV hG
      have ZM := mkHid q0
      clear q0
      refine wpAnyH_ready (rs := [6]) (by kernel_rfl) (by simp) ?_
      refine AllReadyH.cons (o := _) rfl (fun K hK => ?_) AllReadyH.nil
      have z0 := ZM.out.cell 0
      have z1 := ZM.out.cell 1
      have z2 := ZM.out.cell 2
      have y0 := ZM.out.froz 0
      have y1 := ZM.out.froz 1
      have y2 := ZM.out.froz 2
      simp only [List.getElem?_toArray, List.getElem?_cons_zero, List.getElem?_cons_succ] at z0 z1 z2
      go_simp
      try dsimp only
      have hd28 : Below w2.heap.size w2 (((v27.setCell ⟨GM, 0, none⟩ (.int .i64 (l.length : Int))).setCell ⟨GM, 1, none⟩ (.int .i64 (ts.length : Int))).setCell ⟨GM, 2, none⟩ (.slice ma 0 mc)) := hd27.trans ((set3 GM v27 _ _ _).mono NGM.out)
      clear z0 z1 z2 y0 y1 y2
      have hne := ZM.out.ne Z7.out
      have XM := mkHid (ZM.out.set3 (.int .i64 (l.length : Int)) (.int .i64 (ts.length : Int)) (.slice ma 0 mc))
      replace Z7 := mkHid (Z7.out.other hne (.int .i64 (l.length : Int)) (.int .i64 (ts.length : Int)) (.slice ma 0 mc))
      clear ZM
      have HNE := mkHid hne
      clear hne
      refine hK.out _ _ (HS.out _ hd28) (fun hS28 => ?_)
      clear hK K
      (try simp only [List.getElem_toArray, List.getElem_cons_succ, List.getElem_cons_zero, Act.put, List.setIfInBounds_toArray, List.set_cons_zero, List.set_cons_succ])
      obtain ⟨v28, hV⟩ : ∃ V, (((v27.setCell ⟨GM, 0, none⟩ (.int .i64 (l.length : Int))).setCell ⟨GM, 1, none⟩ (.int .i64 (ts.length : Int))).setCell ⟨GM, 2, none⟩ (.slice ma 0 mc)) = V := ⟨_, rfl⟩
      rw [hV] at hd28 hS28 XM Z7 ⊢
      clear hV
      refine wpAnyH_ready (rs := [7]) (by kernel_rfl) (by simp) ?_
      refine AllReadyH.cons (o := _) rfl (fun K hK => ?_) AllReadyH.nil
      have z0 := Z7.out.cell 0
      have z1 := Z7.out.cell 1
      have z2 := Z7.out.cell 2
      have y0 := Z7.out.froz 0
      have y1 := Z7.out.froz 1
      have y2 := Z7.out.froz 2
      simp only [List.getElem?_toArray, List.getElem?_cons_zero, List.getElem?_cons_succ] at z0 z1 z2
      go_simp
      try dsimp only
      have hd29 : Below w2.heap.size w2 (((v28.setCell ⟨G7, 0, none⟩ (.slice a l.length cap)).setCell ⟨G7, 1, none⟩ (.slice a' ts.length cap')).setCell ⟨G7, 2, none⟩ (.int .i64 r)) := hd28.trans ((set3 G7 v28 _ _ _).mono NG7.out)
      clear z0 z1 z2 y0 y1 y2
      have zf := Z7.out.put3 a l.length cap a' ts.length cap' r
      have xm := XM.out.ne (Oth.set3 v28 G7 (.slice a l.length cap) (.slice a' ts.length cap') (.int .i64 r)) (fun e => HNE.out e.symm)
      refine hK.out _ _ (HS.out _ hd29) (fun hS29 => ?_)
      clear hK K
      (try simp only [List.getElem_toArray, List.getElem_cons_succ, List.getElem_cons_zero, Act.put, List.setIfInBounds_toArray, List.set_cons_zero, List.set_cons_succ])
      replace XM := mkHid xm
      have ZF := mkHid zf
      clear xm zf Z7
      obtain ⟨v29, hV⟩ : ∃ V, (((v28.setCell ⟨G7, 0, none⟩ (.slice a l.length cap)).setCell ⟨G7, 1, none⟩ (.slice a' ts.length cap')).setCell ⟨G7, 2, none⟩ (.int .i64 r)) = V := ⟨_, rfl⟩
      rw [hV] at hd29 hS29 XM ZF ⊢
      clear hV
      refine wpAnyH_take (i := 8) (oi := _) (v := ?_) rfl (by kernel_rfl) (by kernel_rfl) (by kernel_rfl) (fun _ _ _ h => h) (Or.inl ⟨by rfl, ?_⟩) (by assumption) ?_
      rotate_left
      · (intro w' hSw; obtain ⟨q0, q1, q2⟩ := hSw; go_simp; try with_reducible rfl)
      (try simp only [List.getElem_toArray, List.getElem_cons_succ, List.getElem_cons_zero, Act.put, List.setIfInBounds_toArray, List.set_cons_zero, List.set_cons_succ])
      refine wpAnyH_done (by kernel_rfl) (NoPanic.normal ?_) _
      refine ⟨rfl, ?_⟩
      (repeat apply Exists.intro)
      exact ⟨rfl, ZF.out, XM.out, (fun e => HNE.out e.symm), NGM.out, NG7.out, hd29⟩
      refine AllReadyH.cons (o := _) rfl (fun K hK => ?_) AllReadyH.nil
      go_simp
      try dsimp only
      have q0 := ZK.new v25
      have hge := hd25.size
      have hbv30 := (Below.refl v25.heap.size v25).new (.cells #[.int .i64 0, .int .i64 0, .slice none 0 0] 43)
      have hd30 := hd25.then hbv30
      replace Z7 := mkHid (Z7.out.below hbv30)
      clear hbv30
      refine hK.out _ _ (HS.out _ hd30) (fun hS30 => ?_)
      clear hK K
      (try simp only [List.getElem_toArray, List.getElem_cons_succ, List.getElem_cons_zero, Act.put, List.setIfInBounds_toArray, List.set_cons_zero, List.set_cons_succ])
      obtain ⟨v30, hV⟩ : ∃ V, v25.alloc (.cells #[.int .i64 0, .int .i64 0, .slice none 0 0] 43) = V := ⟨_, rfl⟩
      obtain ⟨GM, hG⟩ : ∃ V, v25.heap.size = V := ⟨_, rfl⟩
      rw [hV] at hd30 hS30 Z7 q0 ⊢
      rw [hG] at hge q0 ⊢
      have NGM := mkHid hge
      clear hge hV hG
      have ZM := mkHid q0
      clear q0
      refine wpAnyH_ready (rs := [3, 6]) (by kernel_rfl) (by simp) ?_
      refine AllReadyH.cons (o := _) rfl (fun K hK => ?_) ?_
      go_simp
      try dsimp only
      have hge := hd30.size
      have hbv31 := (Below.refl v30.heap.size v30).new (.cells #[] 3)
      have hd31 := hd30.then hbv31
      replace Z7 := mkHid (Z7.out.below hbv31)
      replace ZM := mkHid (ZM.out.below hbv31)
      clear hbv31
      refine hK.out _ _ (HS.out _ hd31) (fun hS31 => ?_)
      clear hK K
      (try simp only [List.getElem_toArray, List.getElem_cons_succ, List.getElem_cons_zero, Act.put, List.setIfInBounds_toArray, List.set_cons_zero, List.set_cons_succ])
      obtain ⟨v31, hV⟩ : ∃ V, v30.alloc (.cells #[] 3) = V := ⟨_, rfl⟩
      obtain ⟨GE, hG⟩ : ∃ V, v30.heap.size = V := ⟨_, rfl⟩
      rw [hV] at hd31 hS31 Z7 ZM ⊢
      rw [hG] at hge ⊢
      have NGE := mkHid hge
      clear hge hV hG
      refine wpAnyH_ready (rs := [6]) (by kernel_rfl) (by simp) ?_
      refine AllReadyH.cons (o := _) rfl (fun K hK => ?_) AllReadyH.nil
      have z0 := ZM.out.cell 0
      have z1 := ZM.out.cell 1
      have z2 := ZM.out.cell 2
      have y0 := ZM.out.froz 0
      have y1 := ZM.out.froz 1
      have y2 := ZM.out.froz 2
      simp only [List.getElem?_toArray, List.getElem?_cons_zero, List.getElem?_cons_succ] at z0 z1 z2
      go_simp
      try dsimp only
      have hd32 : Below w2.heap.size w2 (((v31.setCell ⟨GM, 0, none⟩ (.int .i64 (l.length : Int))).setCell ⟨GM, 1, none⟩ (.int .i64 (ts.length : Int))).setCell ⟨GM, 2, none⟩ (.slice ma 0 mc)) := hd31.trans ((set3 GM v31 _ _ _).mono NGM.out)
      clear z0 z1 z2 y0 y1 y2
      have hne := ZM.out.ne Z7.out
      have XM := mkHid (ZM.out.set3 (.int .i64 (l.length : Int)) (.int .i64 (ts.length : Int)) (.slice ma 0 mc))
      replace Z7 := mkHid (Z7.out.other hne (.int .i64 (l.length : Int)) (.int .i64 (ts.length : Int)) (.slice ma 0 mc))
      clear ZM
      have HNE := mkHid hne
      clear hne
      refine hK.out _ _ (HS.out _ hd32) (fun hS32 => ?_)
      clear hK K
      (try simp only [List.getElem_toArray, List.getElem_cons_succ, List.getElem_cons_zero, Act.put, List.setIfInBounds_toArray, List.set_cons_zero, List.set_cons_succ])
      obtain ⟨v32, hV⟩ : ∃ V, (((v31.setCell ⟨GM, 0, none⟩ (.int .i64 (l.length : Int))).setCell ⟨GM, 1, none⟩ (.int .i64 (ts.length : Int))).setCell ⟨GM, 2, none⟩ (.slice ma 0 mc)) = V := ⟨_, rfl⟩
      rw [hV] at hd32 hS32 XM Z7 ⊢
      clear hV
      refine wpAnyH_ready (rs := [7]) (by kernel_rfl) (by simp) ?_
      refine AllReadyH.cons (o := _) rfl (fun K hK => ?_) AllReadyH.nil
      have z0 := Z7.out.cell 0
      have z1 := Z7.out.cell 1
      have z2 := Z7.out.cell 2
      have y0 := Z7.out.froz 0
      have y1 := Z7.out.froz 1
      have y2 := Z7.out.froz 2
      simp only [List.getElem?_toArray, List.getElem?_cons_zero, List.getElem?_cons_succ] at z0 z1 z2
      go_simp
      try dsimp only
      have hd33 : Below w2.heap.size w2 (((v32.setCell ⟨G7, 0, none⟩ (.slice a l.length cap)).setCell ⟨G7, 1, none⟩ (.slice a' ts.length cap')).setCell ⟨G7, 2, none⟩ (.int .i64 r)) := hd32.trans ((set3 G7 v32 _ _ _).mono NG7.out)
      clear z0 z1 z2 y0 y1 y2
      have zf := Z7.out.put3 a l.length cap a' ts.length cap' r
      have xm := XM.out.ne (Oth.set3 v32 G7 (.slice a l.length cap) (.slice a' ts.length cap') (.int .i64 r)) (fun e => HNE.out e.symm)
      refine hK.out _ _ (HS.out _ hd33) (fun hS33 => ?_)
      clear hK K
      (try simp only [List.getElem_toArray, List.getElem_cons_succ, List.getElem_cons_zero, Act.put, List.setIfInBounds_toArray, List.set_cons_zero, List.set_cons_succ])
      replace XM := mkHid xm
      have ZF := mkHid zf
      clear xm zf Z7
      obtain ⟨v33, hV⟩ : ∃ V, (((v32.setCell ⟨G7, 0, none⟩ (.slice a l.length cap)).setCell ⟨G7, 1, none⟩ (.slice a' ts.length cap')).setCell ⟨G7, 2, none⟩ (.int .i64 r)) = V := ⟨_, rfl⟩
      rw [hV] at hd33 hS33 XM ZF ⊢
      clear hV
      refine wpAnyH_take (i := 8) (oi := _) (v := ?_) rfl (by kernel_rfl) (by kernel_rfl) (by kernel_rfl) (fun _ _ _ h => h) (Or.inl ⟨by rfl, ?_⟩) (by assumption) ?_
      rotate_left
      · (intro w' hSw; obtain ⟨q0, q1, q2⟩ := hSw; go_simp; try with_reducible rfl)
      (try simp only [List.getElem_toArray, List.getElem_cons_succ, List.getElem_cons_zero, Act.put, List.setIfInBounds_toArray, List.set_cons_zero, List.set_cons_succ])
      refine wpAnyH_done (by kernel_rfl) (NoPanic.normal ?_) _
      refine ⟨rfl, ?_⟩
      (repeat apply Exists.intro)
      exact ⟨rfl, ZF.out, XM.out, (fun e => HNE.out e.symm), NGM.out, NG7.out, hd33⟩
      refine AllReadyH.cons (o := _) rfl (fun K hK => ?_) AllReadyH.nil
      have z0 := ZM.out.cell 0
      have z1 := ZM.out.cell 1
      have z2 := ZM.out.cell 2
      have y0 := ZM.out.froz 0
      have y1 := ZM.out.froz 1
      have y2 := ZM.out.froz 2
      simp only [List.getElem?_toArray, List.getElem?_cons_zero, List.getElem?_cons_succ] at z0 z1 z2
      go_simp
      try dsimp only
      have hd34 : Below w2.heap.size w2 (((v30.setCell ⟨GM, 0, none⟩ (.int .i64 (l.length : Int))).setCell ⟨GM, 1, none⟩ (.int .i64 (ts.length : Int))).setCell ⟨GM, 2, none⟩ (.slice ma 0 mc)) := hd30.trans ((set3 GM v30 _ _ _).mono NGM.out)
      clear z0 z1 z2 y0 y1 y2
      have hne := ZM.out.ne Z7.out
      have XM := mkHid (ZM.out.set3 (.int .i64 (l.length : Int)) (.int .i64 (ts.length : Int)) (.slice ma 0 mc))
      replace Z7 := mkHid (Z7.out.other hne (.int .i64 (l.length : Int)) (.int .i64 (ts.length : Int)) (.slice ma 0 mc))
      clear ZM
      have HNE := mkHid hne
      clear hne
      refine hK.out _ _ (HS.out _ hd34) (fun hS34 => ?_)
      clear hK K
      (try simp only [List.getElem_toArray, List.getElem_cons_succ, List.getElem_cons_zero, Act.put, List.setIfInBounds_toArray, List.set_cons_zero, List.set_cons_succ])
      obtain ⟨v34, hV⟩ : ∃ V, (((v30.setCell ⟨GM, 0, none⟩ (.int .i64 (l.length : Int))).setCell ⟨GM, 1, none⟩ (.int .i64 (ts.length : Int))).setCell ⟨GM, 2, none⟩ (.slice ma 0 mc)) = V := ⟨_, rfl⟩
      rw [hV] at hd34 hS34 XM Z7 ⊢
      clear hV
      refine wpAnyH_ready (rs := [3, 7]) (by kernel_rfl) (by simp) ?_
      refine AllReadyH.cons (o := _) rfl (fun K hK => ?_) ?_
      go_simp
      try dsimp only
      have hge := hd34.size
      have hbv35 := (Below.refl v34.heap.size v34).new (.cells #[] 3)
      have hd35 := hd34.then hbv35
      replace XM := mkHid (XM.out.below hbv35)
      replace Z7 := mkHid (Z7.out.below hbv35)
      clear hbv35
      refine hK.out _ _ (HS.out _ hd35) (fun hS35 => ?_)
      clear hK K
      (try simp only [List.getElem_toArray, List.getElem_cons_succ, List.getElem_cons_zero, Act.put, List.setIfInBounds_toArray, List.set_cons_zero, List.set_cons_succ])
      obtain ⟨v35, hV⟩ : ∃ V, v34.alloc (.cells #[] 3) = V := ⟨_, rfl⟩
      obtain ⟨GE, hG⟩ : ∃ V, v34.heap.size = V := ⟨_, rfl⟩
      rw [hV] at hd35 hS35 XM Z7 ⊢
      rw [hG] at hge ⊢
      have NGE := mkHid hge
      clear hge hV hG
      refine wpAnyH_ready (rs := [7]) (by kernel_rfl) (by simp) ?_
      refine AllReadyH.cons (o := _) rfl (fun K hK => ?_) AllReadyH.nil
      have z0 := Z7.out.cell 0
      have z1 := Z7.out.cell 1
      have z2 := Z7.out.cell 2
      have y0 := Z7.out.froz 0
      have y1 := Z7.out.froz 1
      have y2 := Z7.out.froz 2
      simp only [List.getElem?_toArray, List.getElem?_cons_zero, List.getElem?_cons_succ] at z0 z1 z2
      go_simp
      try dsimp only
      have hd36 : Below w2.heap.size w2 (((v35.setCell ⟨G7, 0, none⟩ (.slice a l.length cap)).setCell ⟨G7, 1, none⟩ (.slice a' ts.length cap')).setCell ⟨G7, 2, none⟩ (.int .i64 r)) := hd35.trans ((set3 G7 v35 _ _ _).mono NG7.out)
      clear z0 z1 z2 y0 y1 y2
      have zf := Z7.out.put3 a l.length cap a' ts.length cap' r
      have xm := XM.out.ne (Oth.set3 v35 G7 (.slice a l.length cap) (.slice a' ts.length cap') (.int .i64 r)) (fun e => HNE.out e.symm)
      refine hK.out _ _ (HS.out _ hd36) (fun hS36 => ?_)
      clear hK K
      (try simp only [List.getElem_toArray, List.getElem_cons_succ, List.getElem_cons_zero, Act.put, List.setIfInBounds_toArray, List.set_cons_zero, List.set_cons_succ])
      replace XM := mkHid xm
      have ZF := mkHid zf
      clear xm zf Z7
      obtain ⟨v36, hV⟩ : ∃ V, (((v35.setCell ⟨G7, 0, none⟩ (.slice a l.length cap)).setCell ⟨G7, 1, none⟩ (.slice a' ts.length cap')).setCell ⟨G7, 2, none⟩ (.int .i64 r)) = V := ⟨_, rfl⟩
      rw [hV] at hd36 hS36 XM ZF ⊢
      clear hV
      refine wpAnyH_take (i := 8) (oi := _) (v := ?_) rfl (by kernel_rfl) (by kernel_rfl) (by kernel_rfl) (fun _ _ _ h => h) (Or.inl ⟨by rfl, ?_⟩) (by assumption) ?_
      rotate_left
      · (intro w' hSw; obtain ⟨q0, q1, q2⟩ := hSw; go_simp; try with_reducible rfl)
      (try simp only [List.getElem_toArray, List.getElem_cons_succ, List.getElem_cons_zero, Act.put, List.setIfInBounds_toArray, List.set_cons_zero, List.set_cons_succ])
      refine wpAnyH_done (by kernel_rfl) (NoPanic.normal ?_) _
      refine ⟨rfl, ?_⟩
      (repeat apply Exists.intro)
      exact ⟨rfl, ZF.out, XM.out, (fun e => HNE.out e.symm), NGM.out, NG7.out, hd36⟩
      refine AllReadyH.cons (o := _) rfl (fun K hK => ?_) AllReadyH.nil
      have z0 := Z7.out.cell 0
      have z1 := Z7.out.cell 1
      have z2 := Z7.out.cell 2
      have y0 := Z7.out.froz 0
      have y1 := Z7.out.froz 1
      have y2 := Z7.out.froz 2
      simp only [List.getElem?_toArray, List.getElem?_cons_zero, List.getElem?_cons_succ] at z0 z1 z2
      go_simp
      try dsimp only
      have hd37 : Below w2.heap.size w2 (((v34.setCell ⟨G7, 0, none⟩ (.slice a l.length cap)).setCell ⟨G7, 1, none⟩ (.slice a' ts.length cap')).setCell ⟨G7, 2, none⟩ (.int .i64 r)) := hd34.trans ((set3 G7 v34 _ _ _).mono NG7.out)
      clear z0 z1 z2 y0 y1 y2
      have zf := Z7.out.put3 a l.length cap a' ts.length cap' r
      have xm := XM.out.ne (Oth.set3 v34 G7 (.slice a l.length cap) (.slice a' ts.length cap') (.int .i64 r)) (fun e => HNE.out e.symm)
      refine hK.out _ _ (HS.out _ hd37) (fun hS37 => ?_)
      clear hK K
      (try simp only [List.getElem_toArray, List.getElem_cons_succ, List.getElem_cons_zero, Act.put, List.setIfInBounds_toArray, List.set_cons_zero, List.set_cons_succ])
      replace XM := mkHid xm
      have ZF := mkHid zf
      clear xm zf Z7
      obtain ⟨v37, hV⟩ : ∃ V, (((v34.setCell ⟨G7, 0, none⟩ (.slice a l.length cap)).setCell ⟨G7, 1, none⟩ (.slice a' ts.length cap')).setCell ⟨G7, 2, none⟩ (.int .i64 r)) = V := ⟨_, rfl⟩
      rw [hV] at hd37 hS37 XM ZF ⊢
      clear hV
      refine wpAnyH_ready (rs := [3]) (by kernel_rfl) (by simp) ?_
      refine AllReadyH.cons (o := _) rfl (fun K hK => ?_) AllReadyH.nil
      go_simp
      try dsimp only
      have hge := hd37.size
      have hbv38 := (Below.refl v37.heap.size v37).new (.cells #[] 3)
      have hd38 := hd37.then hbv38
      replace XM := mkHid (XM.out.below hbv38)
      replace ZF := mkHid (ZF.out.below hbv38)
      clear hbv38
      refine hK.out _ _ (HS.out _ hd38) (fun hS38 => ?_)
      clear hK K
      (try simp only [List.getElem_toArray, List.getElem_cons_succ, List.getElem_cons_zero, Act.put, List.setIfInBounds_toArray, List.set_cons_zero, List.set_cons_succ])
      obtain ⟨v38, hV⟩ : ∃ V, v37.alloc (.cells #[] 3) = V := ⟨_, rfl⟩
      obtain ⟨GE, hG⟩ : ∃ V, v37.heap.size = V := ⟨_, rfl⟩
      rw [hV] at hd38 hS38 XM ZF ⊢
      rw [hG] at hge ⊢
      have NGE := mkHid hge
      clear hge hV hG
      refine wpAnyH_take (i := 8) (oi := _) (v := ?_) rfl (by kernel_rfl) (by kernel_rfl) (by kernel_rfl) (fun _ _ _ h => h) (Or.inl ⟨by rfl, ?_⟩) (by assumption) ?_
      rotate_left
      · (intro w' hSw; obtain ⟨q0, q1, q2⟩ := hSw; go_simp; try with_reducible rfl)
      (try simp only [List.getElem_toArray, List.getElem_cons_succ, List.getElem_cons_zero, Act.put, List.setIfInBounds_toArray, List.set_cons_zero, List.set_cons_succ])
      refine wpAnyH_done (by kernel_rfl) (NoPanic.normal ?_) _
      refine ⟨rfl, ?_⟩
      (repeat apply Exists.intro)
      exact ⟨rfl, ZF.out, XM.out, (fun e => HNE.out e.symm), NGM.out, NG7.out, hd38⟩
      refine AllReadyH.cons (o := _) rfl (fun K hK => ?_) ?_
      go_simp
      try dsimp only
      have hge := hd0.size
      have hbv39 := (Below.refl v0.heap.size v0).new (.cells #[] 3)
      have hd39 := hd0.then hbv39
      clear hbv39
      refine hK.out _ _ (HS.out _ hd39) (fun hS39 => ?_)
      clear hK K
      (try simp only [List.getElem_toArray, List.getElem_cons_succ, List.getElem_cons_zero, Act.put, List.setIfInBounds_toArray, List.set_cons_zero, List.set_cons_succ])
      obtain ⟨v39, hV⟩ : ∃ V, v0.alloc (.cells #[] 3) = V := ⟨_, rfl⟩
      obtain ⟨GE, hG⟩ : ∃ V, v0.heap.size = V := ⟨_, rfl⟩
      rw [hV] at hd39 hS39  ⊢
      rw [hG] at hge ⊢
      have NGE := mkHid hge
      clear hge hV hG
      refine wpAnyH_ready (rs := [1, 4, 5]) (by kernel_rfl) (by simp) ?_
      refine AllReadyH.cons (o := _) rfl (fun K hK => ?_) ?_
      go_simp
      refine (markK _ rfl rfl).mono ?_
      rintro e v40 ⟨ma, mc, rfl, hbv40⟩
      have hd40 := hd39.then hbv40
      try dsimp only
      clear hbv40
      refine hK.out _ _ (HS.out _ hd40) (fun hS40 => ?_)
      clear hK K
      (try simp only [List.getElem_toArray, List.getElem_cons_succ, List.getElem_cons_zero, Act.put, List.setIfInBounds_toArray, List.set_cons_zero, List.set_cons_succ])
      refine wpAnyH_ready (rs := [4, 5]) (by kernel_rfl) (by simp) ?_
      refine AllReadyH.cons (o := _) rfl (fun K hK => ?_) ?_
      go_simp
      try dsimp only
      have q0 := ZK.new v40
      have hge := hd40.size
      have hbv41 := (Below.refl v40.heap.size v40).new (.cells #[.int .i64 0, .int .i64 0, .slice none 0 0] 43)
      have hd41 := hd40.then hbv41
      clear hbv41
      refine hK.out _ _ (HS.out _ hd41) (fun hS41 => ?_)
      clear hK K
      (try simp only [List.getElem_toArray, List.getElem_cons_succ, List.getElem_cons_zero, Act.put, List.setIfInBounds_toArray, List.set_cons_zero, List.set_cons_succ])
      obtain ⟨v41, hV⟩ : ∃ V, v40.alloc (.cells #[.int .i64 0, .int .i64 0, .slice none 0 0] 43) = V := ⟨_, rfl⟩
      obtain ⟨GM, hG⟩ : ∃ V, v40.heap.size = V := ⟨_, rfl⟩
      rw [hV] at hd41 hS41  q0 ⊢
      rw [hG] at hge q0 ⊢
      have NGM := mkHid hge
      clear hge hV hG
      have ZM := mkHid q0
      clear q0
      refine wpAnyH_ready (rs := [5]) (by kernel_rfl) (by simp) ?_
      refine AllReadyH.cons (o := _) rfl (fun K hK => ?_) AllReadyH.nil
      go_simp
      try dsimp only
      have q0 := ZB.new v41
      have hge := hd41.size
      have hbv42 := (Below.refl v41.heap.size v41).new (.cells #[.slice none 0 0, .slice none 0 0, .int .i64 0] 25)
      have hd42 := hd41.then hbv42
      replace ZM := mkHid (ZM.out.below hbv42)
      clear hbv42
      refine hK.out _ _ (HS.out _ hd42) (fun hS42 => ?_)
      clear hK K
      (try simp only [List.getElem_toArray, List.getElem_cons_succ, List.getElem_cons_zero, Act.put, List.setIfInBounds_toArray, List.set_cons_zero, List.set_cons_succ])
      obtain ⟨v42, hV⟩ : ∃ V, v41.alloc (.cells #[.slice none 0 0, .slice none 0 0, .int .i64 0] 25) = V := ⟨_, rfl⟩
      obtain ⟨G7, hG⟩ : ∃ V, v41.heap.size = V := ⟨_, rfl⟩
      rw [hV] at hd42 hS42 ZM q0 ⊢
      rw [hG] at hge q0 ⊢
      have NG7 := mkHid hge
      clear hge hV hG
      have Z7 := mkHid q0
      clear q0
      refine wpAnyH_ready (rs := [6]) (by kernel_rfl) (by simp) ?_
      refine AllReadyH.cons (o := _) rfl (fun K hK => ?_) AllReadyH.nil
      have z0 := ZM.out.cell 0
      have z1 := ZM.out.cell 1
      have z2 := ZM.out.cell 2
      have y0 := ZM.out.froz 0
      have y1 := ZM.out.froz 1
      have y2 := ZM.out.froz 2
      simp only [List.getElem?_toArray, List.getElem?_cons_zero, List.getElem?_cons_succ] at z0 z1 z2
      go_simp
      try dsimp only
      have hd43 : Below w2.heap.size w2 (((v42.setCell ⟨GM, 0, none⟩ (.int .i64 (l.length : Int))).setCell ⟨GM, 1, none⟩ (.int .i64 (ts.length : Int))).setCell ⟨GM, 2, none⟩ (.slice ma 0 mc)) := hd42.trans ((set3 GM v42 _ _ _).mono NGM.out)
      clear z0 z1 z2 y0 y1 y2
      have hne := ZM.out.ne Z7.out
      have XM := mkHid (ZM.out.set3 (.int .i64 (l.length : Int)) (.int .i64 (ts.length : Int)) (.slice ma 0 mc))
      replace Z7 := mkHid (Z7.out.other hne (.int .i64 (l.length : Int)) (.int .i64 (ts.length : Int)) (.slice ma 0 mc))
      clear ZM
      have HNE := mkHid hne
      clear hne
      refine hK.out _ _ (HS.out _ hd43) (fun hS43 => ?_)
      clear hK K
      (try simp only [List.getElem_toArray, List.getElem_cons_succ, List.getElem_cons_zero, Act.put, List.setIfInBounds_toArray, List.set_cons_zero, List.set_cons_succ])
      obtain ⟨v43, hV⟩ : ∃ V, (((v42.setCell ⟨GM, 0, none⟩ (.int .i64 (l.length : Int))).setCell ⟨GM, 1, none⟩ (.int .i64 (ts.length : Int))).setCell ⟨GM, 2, none⟩ (.slice ma 0 mc)) = V := ⟨_, rfl⟩
      rw [hV] at hd43 hS43 XM Z7 ⊢
      clear hV
      refine wpAnyH_ready (rs := [7]) (by kernel_rfl) (by simp) ?_
      refine AllReadyH.cons (o := _) rfl (fun K hK => ?_) AllReadyH.nil
      have z0 := Z7.out.cell 0
      have z1 := Z7.out.cell 1
      have z2 := Z7.out.cell 2
      have y0 := Z7.out.froz 0
      have y1 := Z7.out.froz 1
      have y2 := Z7.out.froz 2
      simp only [List.getElem?_toArray, List.getElem?_cons_zero, List.getElem?_cons_succ] at z0 z1 z2
      go_simp
      try dsimp only
      have hd44 : Below w2.heap.size w2 (((v43.setCell ⟨G7, 0, none⟩ (.slice a l.length cap)).setCell ⟨G7, 1, none⟩ (.slice a' ts.length cap')).setCell ⟨G7, 2, none⟩ (.int .i64 r)) := hd43.trans ((set3 G7 v43 _ _ _).mono NG7.out)
      clear z0 z1 z2 y0 y1 y2
      have zf := Z7.out.put3 a l.length cap a' ts.length cap' r
      have xm := XM.out.ne (Oth.set3 v43 G7 (.slice a l.length cap) (.slice a' ts.length cap') (.int .i64 r)) (fun e => HNE.out e.symm)
      refine hK.out _ _ (HS.out _ hd44) (fun hS44 => ?_)
      clear hK K
      (try simp only [List.getElem_toArray, List.getElem_cons_succ, List.getElem_cons_zero, Act.put, List.setIfInBounds_toArray, List.set_cons_zero, List.set_cons_succ])
      replace XM := mkHid xm
      have ZF := mkHid zf
      clear xm zf Z7
      obtain ⟨v44, hV⟩ : ∃ V, (((v43.setCell ⟨G7, 0, none⟩ (.slice a l.length cap)).setCell ⟨G7, 1, none⟩ (.slice a' ts.length cap')).setCell ⟨G7, 2, none⟩ (.int .i64 r)) = V := ⟨_, rfl⟩
      rw [hV] at hd44 hS44 XM ZF ⊢
      clear hV
      refine wpAnyH_take (i := 8) (oi := _) (v := ?_) rfl (by kernel_rfl) (by kernel_rfl) (by kernel_rfl) (fun _ _ _ h => h) (Or.inl ⟨by rfl, ?_⟩) (by assumption) ?_
      rotate_left
      · (intro w' hSw; obtain ⟨q0, q1, q2⟩ := hSw; go_simp; try with_reducible rfl)
      (try simp only [List.getElem_toArray, List.getElem_cons_succ, List.getElem_cons_zero, Act.put, List.setIfInBounds_toArray, List.set_cons_zero, List.set_cons_succ])
      refine wpAnyH_done (by kernel_rfl) (NoPanic.normal ?_) _
      refine ⟨rfl, ?_⟩
      (repeat apply Exists.intro)
      exact ⟨rfl, ZF.out, XM.out, (fun e => HNE.out e.symm), NGM.out, NG7.out, hd44⟩
      refine AllReadyH.cons (o := _) rfl (fun K hK => ?_) AllReadyH.nil
      go_simp
      try dsimp only
      have q0 := ZB.new v40
      have hge := hd40.size
      have hbv45 := (Below.refl v40.heap.size v40).new (.cells #[.slice none 0 0, .slice none 0 0, .int .i64 0] 25)
      have hd45 := hd40.then hbv45
      clear hbv45
      refine hK.out _ _ (HS.out _ hd45) (fun hS45 => ?_)
      clear hK K
      (try simp only [List.getElem_toArray, List.getElem_cons_succ, List.getElem_cons_zero, Act.put, List.setIfInBounds_toArray, List.set_cons_zero, List.set_cons_succ])
      obtain ⟨v45, hV⟩ : ∃ V, v40.alloc (.cells #[.slice none 0 0, .slice none 0 0, .int .i64 0] 25) = V := ⟨_, rfl⟩
      obtain ⟨G7, hG⟩ : ∃ V, v40.heap.size = V := ⟨_, rfl⟩
      rw [hV] at hd45 hS45  q0 ⊢
      rw [hG] at hge q0 ⊢
      have NG7 := mkHid hge
      clear hge hV hG
      have Z7 := mkHid q0
      clear q0
      refine wpAnyH_ready (rs := [4]) (by kernel_rfl) (by simp) ?_
      refine AllReadyH.cons (o := _) rfl (fun K hK => ?_) AllReadyH.nil
      go_simp
      try dsimp only
      have q0 := ZK.new v45
      have hge := hd45.size
      have hbv46 := (Below.refl v45.heap.size v45).new (.cells #[.int .i64 0, .int .i64 0, .slice none 0 0] 43)
      have hd46 := hd45.then hbv46
      replace Z7 := mkHid (Z7.out.below hbv46)
      clear hbv46
      refine hK.out _ _ (HS.out _ hd46) (fun hS46 => ?_)
      clear hK K
      (try simp only [List.getElem_toArray, List.getElem_cons_succ, List.getElem_cons_zero, Act.put, List.setIfInBounds_toArray, List.set_cons_zero, List.set_cons_succ])
      obtain ⟨v46, hV⟩ : ∃ V, v45.alloc (.cells #[.int .i64 0, .int .i64 0, .slice none 0 0] 43) = V := ⟨_, rfl⟩
      obtain ⟨GM, hG⟩ : ∃ V, v45.heap.size = V := ⟨_, rfl⟩
      rw [hV] at hd46 hS46 Z7 q0 ⊢
      rw [hG] at hge q0 ⊢
      have NGM := mkHid hge
      clear hge hV hG
      have ZM := mkHid q0
      clear q0
      refine wpAnyH_ready (rs := [6]) (by kernel_rfl) (by simp) ?_
      refine AllReadyH.cons (o := _) rfl (fun K hK => ?_) AllReadyH.nil
      have z0 := ZM.out.cell 0
      have z1 := ZM.out.cell 1
      have z2 := ZM.out.cell 2
      have y0 := ZM.out.froz 0
      have y1 := ZM.out.froz 1
      have y2 := ZM.out.froz 2
      simp only [List.getElem?_toArray, List.getElem?_cons_zero, List.getElem?_cons_succ] at z0 z1 z2
      go_simp
      try dsimp only
      have hd47 : Below w2.heap.size w2 (((v46.setCell ⟨GM, 0, none⟩ (.int .i64 (l.length : Int))).setCell ⟨GM, 1, none⟩ (.int .i64 (ts.length : Int))).setCell ⟨GM, 2, none⟩ (.slice ma 0 mc)) := hd46.trans ((set3 GM v46 _ _ _).mono NGM.out)
      clear z0 z1 z2 y0 y1 y2
      have hne := ZM.out.ne Z7.out
      have XM := mkHid (ZM.out.set3 (.int .i64 (l.length : Int)) (.int .i64 (ts.length : Int)) (.slice ma 0 mc))
      replace Z7 := mkHid (Z7.out.other hne (.int .i64 (l.length : Int)) (.int .i64 (ts.length : Int)) (.slice ma 0 mc))
      clear ZM
      have HNE := mkHid hne
      clear hne
      refine hK.out _ _ (HS.out _ hd47) (fun hS47 => ?_)
      clear hK K
      (try simp only [List.getElem_toArray, List.getElem_cons_succ, List.getElem_cons_zero, Act.put, List.setIfInBounds_toArray, List.set_cons_zero, List.set_cons_succ])
      obtain ⟨v47, hV⟩ : ∃ V, (((v46.setCell ⟨GM, 0, none⟩ (.int .i64 (l.length : Int))).setCell ⟨GM, 1, none⟩ (.int .i64 (ts.length : Int))).setCell ⟨GM, 2, none⟩ (.slice ma 0 mc)) = V := ⟨_, rfl⟩
      rw [hV] at hd47 hS47 XM Z7 ⊢
      clear hV
      refine wpAnyH_ready (rs := [7]) (by kernel_rfl) (by simp) ?_
      refine AllReadyH.cons (o := _) rfl (fun K hK => ?_) AllReadyH.nil
      have z0 := Z7.out.cell 0
      have z1 := Z7.out.cell 1
      have z2 := Z7.out.cell 2
      have y0 := Z7.out.froz 0
      have y1 := Z7.out.froz 1
      have y2 := Z7.out.froz 2
      simp only [List.getElem?_toArray, List.getElem?_cons_zero, List.getElem?_cons_succ] at z0 z1 z2
      go_simp
      try dsimp only
      have hd48 : Below w2.heap.size w2 (((v47.setCell ⟨G7, 0, none⟩ (.slice a l.length cap)).setCell ⟨G7, 1, none⟩ (.slice a' ts.length cap')).setCell ⟨G7, 2, none⟩ (.int .i64 r)) := hd47.trans ((set3 G7 v47 _ _ _).mono NG7.out)
      clear z0 z1 z2 y0 y1 y2
      have zf := Z7.out.put3 a l.length cap a' ts.length cap' r
      have xm := XM.out.ne (Oth.set3 v47 G7 (.slice a l.length cap) (.slice a' ts.length cap') (.int .i64 r)) (fun e => HNE.out e.symm)
      refine hK.out _ _ (HS.out _ hd48) (fun hS48 => ?_)
      clear hK K
      (try simp only [List.getElem_toArray, List.getElem_cons_succ, List.getElem_cons_zero, Act.put, List.setIfInBounds_toArray, List.set_cons_zero, List.set_cons_succ])
      replace XM := mkHid xm
      have ZF := mkHid zf
      clear xm zf Z7
      obtain ⟨v48, hV⟩ : ∃ V, (((v47.setCell ⟨G7, 0, none⟩ (.slice a l.length cap)).setCell ⟨G7, 1, none⟩ (.slice a' ts.length cap')).setCell ⟨G7, 2, none⟩ (.int .i64 r)) = V := ⟨_, rfl⟩
      rw [hV] at hd48 hS48 XM ZF ⊢
      clear hV
      refine wpAnyH_take (i := 8) (oi := _) (v := ?_) rfl (by kernel_rfl) (by kernel_rfl) (by kernel_rfl) (fun _ _ _ h => h) (Or.inl ⟨by rfl, ?_⟩) (by assumption) ?_
      rotate_left
      · (intro w' hSw; obtain ⟨q0, q1, q2⟩ := hSw; go_simp; try with_reducible rfl)
      (try simp only [List.getElem_toArray, List.getElem_cons_succ, List.getElem_cons_zero, Act.put, List.setIfInBounds_toArray, List.set_cons_zero, List.set_cons_succ])
      refine wpAnyH_done (by kernel_rfl) (NoPanic.normal ?_) _
      refine ⟨rfl, ?_⟩
      (repeat apply Exists.intro)
      exact ⟨rfl, ZF.out, XM.out, (fun e => HNE.out e.symm), NGM.out, NG7.out, hd48⟩
      refine AllReadyH.cons (o := _) rfl (fun K hK => ?_) ?_
      go_simp
      try dsimp only
      have q0 := ZK.new v39
      have hge := hd39.size
      have hbv49 := (Below.refl v39.heap.size v39).new (.cells #[.int .i64 0, .int .i64 0, .slice none 0 0] 43)
      have hd49 := hd39.then hbv49
      clear hbv49
      refine hK.out _ _ (HS.out _ hd49) (fun hS49 => ?_)
      clear hK K
      (try simp only [List.getElem_toArray, List.getElem_cons_succ, List.getElem_cons_zero, Act.put, List.setIfInBounds_toArray, List.set_cons_zero, List.set_cons_succ])
      obtain ⟨v49, hV⟩ : ∃ V, v39.alloc (.cells #[.int .i64 0, .int .i64 0, .slice none 0 0] 43) = V := ⟨_, rfl⟩
      obtain ⟨GM, hG⟩ : ∃ V, v39.heap.size = V := ⟨_, rfl⟩
      rw [hV] at hd49 hS49  q0 ⊢
      rw [hG] at hge q0 ⊢
      have NGM := mkHid hge
      clear hge hV hG
      have ZM := mkHid q0
      clear q0
      refine wpAnyH_ready (rs := [1, 5]) (by kernel_rfl) (by simp) ?_
      refine AllReadyH.cons (o := _) rfl (fun K hK => ?_) ?_
      go_simp
      refine (markK _ rfl rfl).mono ?_
      rintro e v50 ⟨ma, mc, rfl, hbv50⟩
      replace ZM := mkHid (ZM.out.below hbv50)
      have hd50 := hd49.then hbv50
      try dsimp only
      clear hbv50
      refine hK.out _ _ (HS.out _ hd50) (fun hS50 => ?_)
      clear hK K
      (try simp only [List.getElem_toArray, List.getElem_cons_succ, List.getElem_cons_zero, Act.put, List.setIfInBounds_toArray, List.set_cons_zero, List.set_cons_succ])
      refine wpAnyH_ready (rs := [5]) (by kernel_rfl) (by simp) ?_
      refine AllReadyH.cons (o := _) rfl (fun K hK => ?_) AllReadyH.nil
      go_simp
      try dsimp only
      have q0 := ZB.new v50
      have hge := hd50.size
      have hbv51 := (Below.refl v50.heap.size v50).new (.cells #[.slice none 0 0, .slice none 0 0, .int .i64 0] 25)
      have hd51 := hd50.then hbv51
      replace ZM := mkHid (ZM.out.below hbv51)
      clear hbv51
      refine hK.out _ _ (HS.out _ hd51) (fun hS51 => ?_)
      clear hK K
      (try simp only [List.getElem_toArray, List.getElem_cons_succ, List.getElem_cons_zero, Act.put, List.setIfInBounds_toArray, List.set_cons_zero, List.set_cons_succ])
      obtain ⟨v51, hV⟩ : ∃ V, v50.alloc (.cells #[.slice none 0 0, .slice none 0 0, .int .i64 0] 25) = V := ⟨_, rfl⟩
      obtain ⟨G7, hG⟩ : ∃ V, v50.heap.size = V := ⟨_, rfl⟩
      rw [hV] at hd51 hS51 ZM q0 ⊢
      rw [hG] at hge q0 ⊢
      have NG7 := mkHid hge
      clear hge hV hG
      have Z7 := mkHid q0
      clear q0
      refine wpAnyH_ready (rs := [6]) (by kernel_rfl) (by simp) ?_
      refine AllReadyH.cons (o := _) rfl (fun K hK => ?_) AllReadyH.nil
      have z0 := ZM.out.cell 0
      have z1 := ZM.out.cell 1
      have z2 := ZM.out.cell 2
      have y0 := ZM.out.froz 0
      have y1 := ZM.out.froz 1
      have y2 := ZM.out.froz 2
      simp only [List.getElem?_toArray, List.getElem?_cons_zero, List.getElem?_cons_succ] at z0 z1 z2
      go_simp
      try dsimp only
      have hd52 : Below w2.heap.size w2 (((v51.setCell ⟨GM, 0, none⟩ (.int .i64 (l.length : Int))).setCell ⟨GM, 1, none⟩ (.int .i64 (ts.length : Int))).setCell ⟨GM, 2, none⟩ (.slice ma 0 mc)) := hd51.trans ((set3 GM v51 _ _ _).mono NGM.out)
      clear z0 z1 z2 y0 y1 y2
      have hne := ZM.out.ne Z7.out
      have XM := mkHid (ZM.out.set3 (.int .i64 (l.length : Int)) (.int .i64 (ts.length : Int)) (.slice ma 0 mc))
      replace Z7 := mkHid (Z7.out.other hne (.int .i64 (l.length : Int)) (.int .i64 (ts.length : Int)) (.slice ma 0 mc))
      clear ZM
      have HNE := mkHid hne
      clear hne
      refine hK.out _ _ (HS.out _ hd52) (fun hS52 => ?_)
      clear hK K
      (try simp only [List.getElem_toArray, List.getElem_cons_succ, List.getElem_cons_zero, Act.put, List.setIfInBounds_toArray, List.set_cons_zero, List.set_cons_succ])
      obtain ⟨v52, hV⟩ : ∃ V, (((v51.setCell ⟨GM, 0, none⟩ (.int .i64 (l.length : Int))).setCell ⟨GM, 1, none⟩ (.int .i64 (ts.length : Int))).setCell ⟨GM, 2, none⟩ (.slice ma 0 mc)) = V := ⟨_, rfl⟩
      rw [hV] at hd52 hS52 XM Z7 ⊢
      clear hV
      refine wpAnyH_ready (rs := [7]) (by kernel_rfl) (by simp) ?_
      refine AllReadyH.cons (o := _) rfl (fun K hK => ?_) AllReadyH.nil
      have z0 := Z7.out.cell 0
      have z1 := Z7.out.cell 1
      have z2 := Z7.out.cell 2
      have y0 := Z7.out.froz 0
      have y1 := Z7.out.froz 1
      have y2 := Z7.out.froz 2
      simp only [List.getElem?_toArray, List.getElem?_cons_zero, List.getElem?_cons_succ] at z0 z1 z2
      go_simp
      try dsimp only
      have hd53 : Below w2.heap.size w2 (((v52.setCell ⟨G7, 0, none⟩ (.slice a l.length cap)).setCell ⟨G7, 1, none⟩ (.slice a' ts.length cap')).setCell ⟨G7, 2, none⟩ (.int .i64 r)) := hd52.trans ((set3 G7 v52 _ _ _).mono NG7.out)
      clear z0 z1 z2 y0 y1 y2
      have zf := Z7.out.put3 a l.length cap a' ts.length cap' r
      have xm := XM.out.ne (Oth.set3 v52 G7 (.slice a l.length cap) (.slice a' ts.length cap') (.int .i64 r)) (fun e => HNE.out e.symm)
      refine hK.out _ _ (HS.out _ hd53) (fun hS53 => ?_)
      clear hK K
      (try simp only [List.getElem_toArray, List.getElem_cons_succ, List.getElem_cons_zero, Act.put, List.setIfInBounds_toArray, List.set_cons_zero, List.set_cons_succ])
      replace XM := mkHid xm
      have ZF := mkHid zf
      clear xm zf Z7
      obtain ⟨v53, hV⟩ : ∃ V, (((v52.setCell ⟨G7, 0, none⟩ (.slice a l.length cap)).setCell ⟨G7, 1, none⟩ (.slice a' ts.length cap')).setCell ⟨G7, 2, none⟩ (.int .i64 r)) = V := ⟨_, rfl⟩
      rw [hV] at hd53 hS53 XM ZF ⊢
      clear hV
      refine wpAnyH_take (i := 8) (oi := _) (v := ?_) rfl (by kernel_rfl) (by kernel_rfl) (by kernel_rfl) (fun _ _ _ h => h) (Or.inl ⟨by rfl, ?_⟩) (by assumption) ?_
      rotate_left
      · (intro w' hSw; obtain ⟨q0, q1, q2⟩ := hSw; go_simp; try with_reducible rfl)
      (try simp only [List.getElem_toArray, List.getElem_cons_succ, List.getElem_cons_zero, Act.put, List.setIfInBounds_toArray, List.set_cons_zero, List.set_cons_succ])
      refine wpAnyH_done (by kernel_rfl) (NoPanic.normal ?_) _
      refine ⟨rfl, ?_⟩
      (repeat apply Exists.intro)
      exact ⟨rfl, ZF.out, XM.out, (fun e => HNE.out e.symm), NGM.out, NG7.out, hd53⟩
      refine AllReadyH.cons (o := _) rfl (fun K hK => ?_) AllReadyH.nil
      go_simp
      try dsimp only
      have q0 := ZB.new v49
      have hge := hd49.size
      have hbv54 := (Below.refl v49.heap.size v49).new (.cells #[.slice none 0 0, .slice none 0 0, .int .i64 0] 25)
      have hd54 := hd49.then hbv54
      replace ZM := mkHid (ZM.out.below hbv54)
      clear hbv54
      refine hK.out _ _ (HS.out _ hd54) (fun hS54 => ?_)
      clear hK K
      (try simp only [List.getElem_toArray, List.getElem_cons_succ, List.getElem_cons_zero, Act.put, List.setIfInBounds_toArray, List.set_cons_zero, List.set_cons_succ])
      obtain ⟨v54, hV⟩ : ∃ V, v49.alloc (.cells #[.slice none 0 0, .slice none 0 0, .int .i64 0] 25) = V := ⟨_, rfl⟩
      obtain ⟨G7, hG⟩ : ∃ V, v49.heap.size = V := ⟨_, rfl⟩
      rw [hV] at hd54 hS54 ZM q0 ⊢
      rw [hG] at hge q0 ⊢
      have NG7 := mkHid hge
      clear hge hV hG
      have Z7 := mkHid q0
      clear q0
      refine wpAnyH_ready (rs := [1]) (by kernel_rfl) (by simp) ?_
      refine AllReadyH.cons (o := _) rfl (fun K hK => ?_) AllReadyH.nil
      go_simp
      refine (markK _ rfl rfl).mono ?_
      rintro e v55 ⟨ma, mc, rfl, hbv55⟩
      replace ZM := mkHid (ZM.out.below hbv55)
      replace Z7 := mkHid (Z7.out.below hbv55)
      have hd55 := hd54.then hbv55
      try dsimp only
      clear hbv55
      refine hK.out _ _ (HS.out _ hd55) (fun hS55 => ?_)
      clear hK K
      (try simp only [List.getElem_toArray, List.getElem_cons_succ, List.getElem_cons_zero, Act.put, List.setIfInBounds_toArray, List.set_cons_zero, List.set_cons_succ])
      refine wpAnyH_ready (rs := [6]) (by kernel_rfl) (by simp) ?_
      refine AllReadyH.cons (o := _) rfl (fun K hK => ?_) AllReadyH.nil
      have z0 := ZM.out.cell 0
      have z1 := ZM.out.cell 1
      have z2 := ZM.out.cell 2
      have y0 := ZM.out.froz 0
      have y1 := ZM.out.froz 1
      have y2 := ZM.out.froz 2
      simp only [List.getElem?_toArray, List.getElem?_cons_zero, List.getElem?_cons_succ] at z0 z1 z2
      go_simp
      try dsimp only
      have hd56 : Below w2.heap.size w2 (((v55.setCell ⟨GM, 0, none⟩ (.int .i64 (l.length : Int))).setCell ⟨GM, 1, none⟩ (.int .i64 (ts.length : Int))).setCell ⟨GM, 2, none⟩ (.slice ma 0 mc)) := hd55.trans ((set3 GM v55 _ _ _).mono NGM.out)
      clear z0 z1 z2 y0 y1 y2
      have hne := ZM.out.ne Z7.out
      have XM := mkHid (ZM.out.set3 (.int .i64 (l.length : Int)) (.int .i64 (ts.length : Int)) (.slice ma 0 mc))
      replace Z7 := mkHid (Z7.out.other hne (.int .i64 (l.length : Int)) (.int .i64 (ts.length : Int)) (.slice ma 0 mc))
      clear ZM
      have HNE := mkHid hne
      clear hne
      refine hK.out _ _ (HS.out _ hd56) (fun hS56 => ?_)
      clear hK K
      (try simp only [List.getElem_toArray, List.getElem_cons_succ, List.getElem_cons_zero, Act.put, List.setIfInBounds_toArray, List.set_cons_zero, List.set_cons_succ])
      obtain ⟨v56, hV⟩ : ∃ V, (((v55.setCell ⟨GM, 0, none⟩ (.int .i64 (l.length : Int))).setCell ⟨GM, 1, none⟩ (.int .i64 (ts.length : Int))).setCell ⟨GM, 2, none⟩ (.slice ma 0 mc)) = V := ⟨_, rfl⟩
      rw [hV] at hd56 hS56 XM Z7 ⊢
      clear hV
      refine wpAnyH_ready (rs := [7]) (by kernel_rfl) (by simp) ?_
      refine AllReadyH.cons (o := _) rfl (fun K hK => ?_) AllReadyH.nil
      have z0 := Z7.out.cell 0
      have z1 := Z7.out.cell 1
      have z2 := Z7.out.cell 2
      have y0 := Z7.out.froz 0
      have y1 := Z7.out.froz 1
      have y2 := Z7.out.froz 2
      simp only [List.getElem?_toArray, List.getElem?_cons_zero, List.getElem?_cons_succ] at z0 z1 z2
      go_simp
      try dsimp only
      have hd57 : Below w2.heap.size w2 (((v56.setCell ⟨G7, 0, none⟩ (.slice a l.length cap)).setCell ⟨G7, 1, none⟩ (.slice a' ts.length cap')).setCell ⟨G7, 2, none⟩ (.int .i64 r)) := hd56.trans ((set3 G7 v56 _ _ _).mono NG7.out)
      clear z0 z1 z2 y0 y1 y2
      have zf := Z7.out.put3 a l.length cap a' ts.length cap' r
      have xm := XM.out.ne (Oth.set3 v56 G7 (.slice a l.length cap) (.slice a' ts.length cap') (.int .i64 r)) (fun e => HNE.out e.symm)
      refine hK.out _ _ (HS.out _ hd57) (fun hS57 => ?_)
      clear hK K
      (try simp only [List.getElem_toArray, List.getElem_cons_succ, List.getElem_cons_zero, Act.put, List.setIfInBounds_toArray, List.set_cons_zero, List.set_cons_succ])
      replace XM := mkHid xm
      have ZF := mkHid zf
      clear xm zf Z7
      obtain ⟨v57, hV⟩ : ∃ V, (((v56.setCell ⟨G7, 0, none⟩ (.slice a l.length cap)).setCell ⟨G7, 1, none⟩ (.slice a' ts.length cap')).setCell ⟨G7, 2, none⟩ (.int .i64 r)) = V := ⟨_, rfl⟩
      rw [hV] at hd57 hS57 XM ZF ⊢
      clear hV
      refine wpAnyH_take (i := 8) (oi := _) (v := ?_) rfl (by kernel_rfl) (by kernel_rfl) (by kernel_rfl) (fun _ _ _ h => h) (Or.inl ⟨by rfl, ?_⟩) (by assumption) ?_
      rotate_left
      · (intro w' hSw; obtain ⟨q0, q1, q2⟩ := hSw; go_simp; try with_reducible rfl)
      (try simp only [List.getElem_toArray, List.getElem_cons_succ, List.getElem_cons_zero, Act.put, List.setIfInBounds_toArray, List.set_cons_zero, List.set_cons_succ])
      refine wpAnyH_done (by kernel_rfl) (NoPanic.normal ?_) _
      refine ⟨rfl, ?_⟩
      (repeat apply Exists.intro)
      exact ⟨rfl, ZF.out, XM.out, (fun e => HNE.out e.symm), NGM.out, NG7.out, hd57⟩
      refine AllReadyH.cons (o := _) rfl (fun K hK => ?_) AllReadyH.nil
      go_simp
      try dsimp only
      have q0 := ZB.new v39
      have hge := hd39.size
      have hbv58 := (Below.refl v39.heap.size v39).new (.cells #[.slice none 0 0, .slice none 0 0, .int .i64 0] 25)
      have hd58 := hd39.then hbv58
      clear hbv58
      refine hK.out _ _ (HS.out _ hd58) (fun hS58 => ?_)
      clear hK K
      (try simp only [List.getElem_toArray, List.getElem_cons_succ, List.getElem_cons_zero, Act.put, List.setIfInBounds_toArray, List.set_cons_zero, List.set_cons_succ])
      obtain ⟨v58, hV⟩ : ∃ V, v39.alloc (.cells #[.slice none 0 0, .slice none 0 0, .int .i64 0] 25) = V := ⟨_, rfl⟩
      obtain ⟨G7, hG⟩ : ∃ V, v39.heap.size = V := ⟨_, rfl⟩
      rw [hV] at hd58 hS58  q0 ⊢
      rw [hG] at hge q0 ⊢
      have NG7 := mkHid hge
      clear hge hV hG
      have Z7 := mkHid q0
      clear q0
      refine wpAnyH_ready (rs := [1, 4]) (by kernel_rfl) (by simp) ?_
      refine AllReadyH.cons (o := _) rfl (fun K hK => ?_) ?_
      go_simp
      refine (markK _ rfl rfl).mono ?_
      rintro e v59 ⟨ma, mc, rfl, hbv59⟩
      replace Z7 := mkHid (Z7.out.below hbv59)
      have hd59 := hd58.then hbv59
      try dsimp only
      clear hbv59
      refine hK.out _ _ (HS.out _ hd59) (fun hS59 => ?_)
      clear hK K
      (try simp only [List.getElem_toArray, List.getElem_cons_succ, List.getElem_cons_zero, Act.put, List.setIfInBounds_toArray, List.set_cons_zero, List.set_cons_succ])
      refine wpAnyH_ready (rs := [4]) (by kernel_rfl) (by simp) ?_
      refine AllReadyH.cons (o := _) rfl (fun K hK => ?_) AllReadyH.nil
      go_simp
      try dsimp only
      have q0 := ZK.new v59
      have hge := hd59.size
      have hbv60 := (Below.refl v59.heap.size v59).new (.cells #[.int .i64 0, .int .i64 0, .slice none 0 0] 43)
      have hd60 := hd59.then hbv60
      replace Z7 := mkHid (Z7.out.below hbv60)
      clear hbv60
      refine hK.out _ _ (HS.out _ hd60) (fun hS60 => ?_)
      clear hK K
      (try simp only [List.getElem_toArray, List.getElem_cons_succ, List.getElem_cons_zero, Act.put, List.setIfInBounds_toArray, List.set_cons_zero, List.set_cons_succ])
      obtain ⟨v60, hV⟩ : ∃ V, v59.alloc (.cells #[.int .i64 0, .int .i64 0, .slice none 0 0] 43) = V := ⟨_, rfl⟩
      obtain ⟨GM, hG⟩ : ∃ V, v59.heap.size = V := ⟨_, rfl⟩
      rw [hV] at hd60 hS60 Z7 q0 ⊢
      rw [hG] at hge q0 ⊢
      have NGM := mkHid hge
      clear hge hV hG
      have ZM := mkHid q0
      clear q0
      refine wpAnyH_ready (rs := [6]) (by kernel_rfl) (by simp) ?_
      refine AllReadyH.cons (o := _) rfl (fun K hK => ?_) AllReadyH.nil
      have z0 := ZM.out.cell 0
      have z1 := ZM.out.cell 1
      have z2 := ZM.out.cell 2
      have y0 := ZM.out.froz 0
      have y1 := ZM.out.froz 1
      have y2 := ZM.out.froz 2
      simp only [List.getElem?_toArray, List.getElem?_cons_zero, List.getElem?_cons_succ] at z0 z1 z2
      go_simp
      try dsimp only
      have hd61 : Below w2.heap.size w2 (((v60.setCell ⟨GM, 0, none⟩ (.int .i64 (l.length : Int))).setCell ⟨GM, 1, none⟩ (.int .i64 (ts.length : Int))).setCell ⟨GM, 2, none⟩ (.slice ma 0 mc)) := hd60.trans ((set3 GM v60 _ _ _).mono NGM.out)
      clear z0 z1 z2 y0 y1 y2
      have hne := ZM.out.ne Z7.out
      have XM := mkHid (ZM.out.set3 (.int .i64 (l.length : Int)) (.int .i64 (ts.length : Int)) (.slice ma 0 mc))
      replace Z7 := mkHid (Z7.out.other hne (.int .i64 (l.length : Int)) (.int .i64 (ts.length : Int)) (.slice ma 0 mc))
      clear ZM
      have HNE := mkHid hne
      clear hne
      refine hK.out _ _ (HS.out _ hd61) (fun hS61 => ?_)
      clear hK K
      (try simp only [List.getElem_toArray, List.getElem_cons_succ, List.getElem_cons_zero, Act.put, List.setIfInBounds_toArray, List.set_cons_zero, List.set_cons_succ])
      obtain ⟨v61, hV⟩ : ∃ V, (((v60.setCell ⟨GM, 0, none⟩ (.int .i64 (l.length : Int))).setCell ⟨GM, 1, none⟩ (.int .i64 (ts.length : Int))).setCell ⟨GM, 2, none⟩ (.slice ma 0 mc)) = V := ⟨_, rfl⟩
      rw [hV] at hd61 hS61 XM Z7 ⊢
      clear hV
      refine wpAnyH_ready (rs := [7]) (by kernel_rfl) (by simp) ?_
      refine AllReadyH.cons (o := _) rfl (fun K hK => ?_) AllReadyH.nil
      have z0 := Z7.out.cell 0
      have z1 := Z7.out.cell 1
      have z2 := Z7.out.cell 2
      have y0 := Z7.out.froz 0
      have y1 := Z7.out.froz 1
      have y2 := Z7.out.froz 2
      simp only [List.getElem?_toArray, List.getElem?_cons_zero, List.getElem?_cons_succ] at z0 z1 z2
      go_simp
      try dsimp only
      have hd62 : Below w2.heap.size w2 (((v61.setCell ⟨G7, 0, none⟩ (.slice a l.length cap)).setCell ⟨G7, 1, none⟩ (.slice a' ts.length cap')).setCell ⟨G7, 2, none⟩ (.int .i64 r)) := hd61.trans ((set3 G7 v61 _ _ _).mono NG7.out)
      clear z0 z1 z2 y0 y1 y2
      have zf := Z7.out.put3 a l.length cap a' ts.length cap' r
      have xm := XM.out.ne (Oth.set3 v61 G7 (.slice a l.length cap) (.slice a' ts.length cap') (.int .i64 r)) (fun e => HNE.out e.symm)
      refine hK.out _ _ (HS.out _ hd62) (fun hS62 => ?_)
      clear hK K
      (try simp only [List.getElem_toArray, List.getElem_cons_succ, List.getElem_cons_zero, Act.put, List.setIfInBounds_toArray, List.set_cons_zero, List.set_cons_succ])
      replace XM := mkHid xm
      have ZF := mkHid zf
      clear xm zf Z7
      obtain ⟨v62, hV⟩ : ∃ V, (((v61.setCell ⟨G7, 0, none⟩ (.slice a l.length cap)).setCell ⟨G7, 1, none⟩ (.slice a' ts.length cap')).setCell ⟨G7, 2, none⟩ (.int .i64 r)) = V := ⟨_, rfl⟩
      rw [hV] at hd62 hS62 XM ZF ⊢
      clear hV
      refine wpAnyH_take (i := 8) (oi := _) (v := ?_) rfl (by kernel_rfl) (by kernel_rfl) (by kernel_rfl) (fun _ _ _ h => h) (Or.inl ⟨by rfl, ?_⟩) (by assumption) ?_
      rotate_left
      · (intro w' hSw; obtain ⟨q0, q1, q2⟩ := hSw; go_simp; try with_reducible rfl)
      (try simp only [List.getElem_toArray, List.getElem_cons_succ, List.getElem_cons_zero, Act.put, List.setIfInBounds_toArray, List.set_cons_zero, List.set_cons_succ])
      refine wpAnyH_done (by kernel_rfl) (NoPanic.normal ?_) _
      refine ⟨rfl, ?_⟩
      (repeat apply Exists.intro)
      exact ⟨rfl, ZF.out, XM.out, (fun e => HNE.out e.symm), NGM.out, NG7.out, hd62⟩
      refine AllReadyH.cons (o := _) rfl (fun K hK => ?_) AllReadyH.nil
      go_simp
      try dsimp only
      have q0 := ZK.new v58
      have hge := hd58.size
      have hbv63 := (Below.refl v58.heap.size v58).new (.cells #[.int .i64 0, .int .i64 0, .slice none 0 0] 43)
      have hd63 := hd58.then hbv63
      replace Z7 := mkHid (Z7.out.below hbv63)
      clear hbv63
      refine hK.out _ _ (HS.out _ hd63) (fun hS63 => ?_)
      clear hK K
      (try simp only [List.getElem_toArray, List.getElem_cons_succ, List.getElem_cons_zero, Act.put, List.setIfInBounds_toArray, List.set_cons_zero, List.set_cons_succ])
      obtain ⟨v63, hV⟩ : ∃ V, v58.alloc (.cells #[.int .i64 0, .int .i64 0, .slice none 0 0] 43) = V := ⟨_, rfl⟩
      obtain ⟨GM, hG⟩ : ∃ V, v58.heap.size = V := ⟨_, rfl⟩
      rw [hV] at hd63 hS63 Z7 q0 ⊢
      rw [hG] at hge q0 ⊢
      have NGM := mkHid hge
      clear hge hV hG
      have ZM := mkHid q0
      clear q0
      refine wpAnyH_ready (rs := [1]) (by kernel_rfl) (by simp) ?_
      refine AllReadyH.cons (o := _) rfl (fun K hK => ?_) AllReadyH.nil
      go_simp
      refine (markK _ rfl rfl).mono ?_
      rintro e v64 ⟨ma, mc, rfl, hbv64⟩
      replace Z7 := mkHid (Z7.out.below hbv64)
      replace ZM := mkHid (ZM.out.below hbv64)
      have hd64 := hd63.then hbv64
      try dsimp only
      clear hbv64
      refine hK.out _ _ (HS.out _ hd64) (fun hS64 => ?_)
      clear hK K
      (try simp only [List.getElem_toArray, List.getElem_cons_succ, List.getElem_cons_zero, Act.put, List.setIfInBounds_toArray, List.set_cons_zero, List.set_cons_succ])
      refine wpAnyH_ready (rs := [6]) (by kernel_rfl) (by simp) ?_
      refine AllReadyH.cons (o := _) rfl (fun K hK => ?_) AllReadyH.nil
      have z0 := ZM.out.cell 0
      have z1 := ZM.out.cell 1
      have z2 := ZM.out.cell 2
      have y0 := ZM.out.froz 0
      have y1 := ZM.out.froz 1
      have y2 := ZM.out.froz 2
      simp only [List.getElem?_toArray, List.getElem?_cons_zero, List.getElem?_cons_succ] at z0 z1 z2
      go_simp
      try dsimp only
      have hd65 : Below w2.heap.size w2 (((v64.setCell ⟨GM, 0, none⟩ (.int .i64 (l.length : Int))).setCell ⟨GM, 1, none⟩ (.int .i64 (ts.length : Int))).setCell ⟨GM, 2, none⟩ (.slice ma 0 mc)) := hd64.trans ((set3 GM v64 _ _ _).mono NGM.out)
      clear z0 z1 z2 y0 y1 y2
      have hne := ZM.out.ne Z7.out
      have XM := mkHid (ZM.out.set3 (.int .i64 (l.length : Int)) (.int .i64 (ts.length : Int)) (.slice ma 0 mc))
      replace Z7 := mkHid (Z7.out.other hne (.int .i64 (l.length : Int)) (.int .i64 (ts.length : Int)) (.slice ma 0 mc))
      clear ZM
      have HNE := mkHid hne
      clear hne
      refine hK.out _ _ (HS.out _ hd65) (fun hS65 => ?_)
      clear hK K
      (try simp only [List.getElem_toArray, List.getElem_cons_succ, List.getElem_cons_zero, Act.put, List.setIfInBounds_toArray, List.set_cons_zero, List.set_cons_succ])
      obtain ⟨v65, hV⟩ : ∃ V, (((v64.setCell ⟨GM, 0, none⟩ (.int .i64 (l.length : Int))).setCell ⟨GM, 1, none⟩ (.int .i64 (ts.length : Int))).setCell ⟨GM, 2, none⟩ (.slice ma 0 mc)) = V := ⟨_, rfl⟩
      rw [hV] at hd65 hS65 XM Z7 ⊢
      clear hV
      refine wpAnyH_ready (rs := [7]) (by kernel_rfl) (by simp) ?_
      refine AllReadyH.cons (o := _) rfl (fun K hK => ?_) AllReadyH.nil
      have z0 := Z7.out.cell 0
      have z1 := Z7.out.cell 1
      have z2 := Z7.out.cell 2
      have y0 := Z7.out.froz 0
      have y1 := Z7.out.froz 1
      have y2 := Z7.out.froz 2
      simp only [List.getElem?_toArray, List.getElem?_cons_zero, List.getElem?_cons_succ] at z0 z1 z2
      go_simp
      try dsimp only
      have hd66 : Below w2.heap.size w2 (((v65.setCell ⟨G7, 0, none⟩ (.slice a l.length cap)).setCell ⟨G7, 1, none⟩ (.slice a' ts.length cap')).setCell ⟨G7, 2, none⟩ (.int .i64 r)) := hd65.trans ((set3 G7 v65 _ _ _).mono NG7.out)
      clear z0 z1 z2 y0 y1 y2
      have zf := Z7.out.put3 a l.length cap a' ts.length cap' r
      have xm := XM.out.ne (Oth.set3 v65 G7 (.slice a l.length cap) (.slice a' ts.length cap') (.int .i64 r)) (fun e => HNE.out e.symm)
      refine hK.out _ _ (HS.out _ hd66) (fun hS66 => ?_)
      clear hK K
      (try simp only [List.getElem_toArray, List.getElem_cons_succ, List.getElem_cons_zero, Act.put, List.setIfInBounds_toArray, List.set_cons_zero, List.set_cons_succ])
      replace XM := mkHid xm
      have ZF := mkHid zf
      clear xm zf Z7
      obtain ⟨v66, hV⟩ : ∃ V, (((v65.setCell ⟨G7, 0, none⟩ (.slice a l.length cap)).setCell ⟨G7, 1, none⟩ (.slice a' ts.length cap')).setCell ⟨G7, 2, none⟩ (.int .i64 r)) = V := ⟨_, rfl⟩
      rw [hV] at hd66 hS66 XM ZF ⊢
      clear hV
      refine wpAnyH_take (i := 8) (oi := _) (v := ?_) rfl (by kernel_rfl) (by kernel_rfl) (by kernel_rfl) (fun _ _ _ h => h) (Or.inl ⟨by rfl, ?_⟩) (by assumption) ?_
      rotate_left
      · (intro w' hSw; obtain ⟨q0, q1, q2⟩ := hSw; go_simp; try with_reducible rfl)
      (try simp only [List.getElem_toArray, List.getElem_cons_succ, List.getElem_cons_zero, Act.put, List.setIfInBounds_toArray, List.set_cons_zero, List.set_cons_succ])
      refine wpAnyH_done (by kernel_rfl) (NoPanic.normal ?_) _
      refine ⟨rfl, ?_⟩
      (repeat apply Exists.intro)
      exact ⟨rfl, ZF.out, XM.out, (fun e => HNE.out e.symm), NGM.out, NG7.out, hd66⟩
      refine AllReadyH.cons (o := _) rfl (fun K hK => ?_) ?_
      go_simp
      try dsimp only
      have q0 := ZK.new v0
      have hge := hd0.size
      have hbv67 := (Below.refl v0.heap.size v0).new (.cells #[.int .i64 0, .int .i64 0, .slice none 0 0] 43)
      have hd67 := hd0.then hbv67
      clear hbv67
      refine hK.out _ _ (HS.out _ hd67) (fun hS67 => ?_)
      clear hK K
      (try simp only [List.getElem_toArray, List.getElem_cons_succ, List.getElem_cons_zero, Act.put, List.setIfInBounds_toArray, List.set_cons_zero, List.set_cons_succ])
      obtain ⟨v67, hV⟩ : ∃ V, v0.alloc (.cells #[.int .i64 0, .int .i64 0, .slice none 0 0] 43) = V := ⟨_, rfl⟩
      obtain ⟨GM, hG⟩ : ∃ V, v0.heap.size = V := ⟨_, rfl⟩
      rw [hV] at hd67 hS67  q0 ⊢
      rw [hG] at hge q0 ⊢
      have NGM := mkHid hge
      clear hge hV hG
      have ZM := mkHid q0
      clear q0
      refine wpAnyH_ready (rs := [1, 3, 5]) (by kernel_rfl) (by simp) ?_
      refine AllReadyH.cons (o := _) rfl (fun K hK => ?_) ?_
      go_simp
      refine (markK _ rfl rfl).mono ?_
      rintro e v68 ⟨ma, mc, rfl, hbv68⟩
      replace ZM := mkHid (ZM.out.below hbv68)
      have hd68 := hd67.then hbv68
      try dsimp only
      clear hbv68
      refine hK.out _ _ (HS.out _ hd68) (fun hS68 => ?_)
      clear hK K
      (try simp only [List.getElem_toArray, List.getElem_cons_succ, List.getElem_cons_zero, Act.put, List.setIfInBounds_toArray, List.set_cons_zero, List.set_cons_succ])
      refine wpAnyH_ready (rs := [3, 5]) (by kernel_rfl) (by simp) ?_
      refine AllReadyH.cons (o := _) rfl (fun K hK => ?_) ?_
      go_simp
      try dsimp only
      have hge := hd68.size
      have hbv69 := (Below.refl v68.heap.size v68).new (.cells #[] 3)
      have hd69 := hd68.then hbv69
      replace ZM := mkHid (ZM.out.below hbv69)
      clear hbv69
      refine hK.out _ _ (HS.out _ hd69) (fun hS69 => ?_)
      clear hK K
      (try simp only [List.getElem_toArray, List.getElem_cons_succ, List.getElem_cons_zero, Act.put, List.setIfInBounds_toArray, List.set_cons_zero, List.set_cons_succ])
      obtain ⟨v69, hV⟩ : ∃ V, v68.alloc (.cells #[] 3) = V := ⟨_, rfl⟩
      obtain ⟨GE, hG⟩ : ∃ V, v68.heap.size = V := ⟨_, rfl⟩
      rw [hV] at hd69 hS69 ZM ⊢
      rw [hG] at hge ⊢
      have NGE := mkHid hge
      clear hge hV hG
      refine wpAnyH_ready (rs := [5]) (by kernel_rfl) (by simp) ?_
      refine AllReadyH.cons (o := _) rfl (fun K hK => ?_) AllReadyH.nil
      go_simp
      try dsimp only
      have q0 := ZB.new v69
      have hge := hd69.size
      have hbv70 := (Below.refl v69.heap.size v69).new (.cells #[.slice none 0 0, .slice none 0 0, .int .i64 0] 25)
      have hd70 := hd69.then hbv70
      replace ZM := mkHid (ZM.out.below hbv70)
      clear hbv70
      refine hK.out _ _ (HS.out _ hd70) (fun hS70 => ?_)
      clear hK K
      (try simp only [List.getElem_toArray, List.getElem_cons_succ, List.getElem_cons_zero, Act.put, List.setIfInBounds_toArray, List.set_cons_zero, List.set_cons_succ])
      obtain ⟨v70, hV⟩ : ∃ V, v69.alloc (.cells #[.slice none 0 0, .slice none 0 0, .int .i64 0] 25) = V := ⟨_, rfl⟩
      obtain ⟨G7, hG⟩ : ∃ V, v69.heap.size = V := ⟨_, rfl⟩
      rw [hV] at hd70 hS70 ZM q0 ⊢
      rw [hG] at hge q0 ⊢
      have NG7 := mkHid hge
      clear hge hV hG
      have Z7 := mkHid q0
      clear q0
      refine wpAnyH_ready (rs := [6]) (by kernel_rfl) (by simp) ?_
      refine AllReadyH.cons (o := _) rfl (fun K hK => ?_) AllReadyH.nil
      have z0 := ZM.out.cell 0
      have z1 := ZM.out.cell 1
      have z2 := ZM.out.cell 2
      have y0 := ZM.out.froz 0
      have y1 := ZM.out.froz 1
      have y2 := ZM.out.froz 2
      simp only [List.getElem?_toArray, List.getElem?_cons_zero, List.getElem?_cons_succ] at z0 z1 z2
      go_simp
      try dsimp only
      have hd71 : Below w2.heap.size w2 (((v70.setCell ⟨GM, 0, none⟩ (.int .i64 (l.length : Int))).setCell ⟨GM, 1, none⟩ (.int .i64 (ts.length : Int))).setCell ⟨GM, 2, none⟩ (.slice ma 0 mc)) := hd70.trans ((set3 GM v70 _ _ _).mono NGM.out)
      clear z0 z1 z2 y0 y1 y2
      have hne := ZM.out.ne Z7.out
      have XM := mkHid (ZM.out.set3 (.int .i64 (l.length : Int)) (.int .i64 (ts.length : Int)) (.slice ma 0 mc))
      replace Z7 := mkHid (Z7.out.other hne (.int .i64 (l.length : Int)) (.int .i64 (ts.length : Int)) (.slice ma 0 mc))
      clear ZM
      have HNE := mkHid hne
      clear hne
      refine hK.out _ _ (HS.out _ hd71) (fun hS71 => ?_)
      clear hK K
      (try simp only [List.getElem_toArray, List.getElem_cons_succ, List.getElem_cons_zero, Act.put, List.setIfInBounds_toArray, List.set_cons_zero, List.set_cons_succ])
      obtain ⟨v71, hV⟩ : ∃ V, (((v70.setCell ⟨GM, 0, none⟩ (.int .i64 (l.length : Int))).setCell ⟨GM, 1, none⟩ (.int .i64 (ts.length : Int))).setCell ⟨GM, 2, none⟩ (.slice ma 0 mc)) = V := ⟨_, rfl⟩
      rw [hV] at hd71 hS71 XM Z7 ⊢
      clear hV
      refine wpAnyH_ready (rs := [7]) (by kernel_rfl) (by simp) ?_
      refine AllReadyH.cons (o := _) rfl (fun K hK => ?_) AllReadyH.nil
      have z0 := Z7.out.cell 0
      have z1 := Z7.out.cell 1
      have z2 := Z7.out.cell 2
      have y0 := Z7.out.froz 0
      have y1 := Z7.out.froz 1
      have y2 := Z7.out.froz 2
      simp only [List.getElem?_toArray, List.getElem?_cons_zero, List.getElem?_cons_succ] at z0 z1 z2
      go_simp
      try dsimp only
      have hd72 : Below w2.heap.size w2 (((v71.setCell ⟨G7, 0, none⟩ (.slice a l.length cap)).setCell ⟨G7, 1, none⟩ (.slice a' ts.length cap')).setCell ⟨G7, 2, none⟩ (.int .i64 r)) := hd71.trans ((set3 G7 v71 _ _ _).mono NG7.out)
      clear z0 z1 z2 y0 y1 y2
      have zf := Z7.out.put3 a l.length cap a' ts.length cap' r
      have xm := XM.out.ne (Oth.set3 v71 G7 (.slice a l.length cap) (.slice a' ts.length cap') (.int .i64 r)) (fun e => HNE.out e.symm)
      refine hK.out _ _ (HS.out _ hd72) (fun hS72 => ?_)
      clear hK K
      (try simp only [List.getElem_toArray, List.getElem_cons_succ, List.getElem_cons_zero, Act.put, List.setIfInBounds_toArray, List.set_cons_zero, List.set_cons_succ])
      replace XM := mkHid xm
      have ZF := mkHid zf
      clear xm zf Z7
      obtain ⟨v72, hV⟩ : ∃ V, (((v71.setCell ⟨G7, 0, none⟩ (.slice a l.length cap)).setCell ⟨G7, 1, none⟩ (.slice a' ts.length cap')).setCell ⟨G7, 2, none⟩ (.int .i64 r)) = V := ⟨_, rfl⟩
      rw [hV] at hd72 hS72 XM ZF ⊢
      clear hV
      refine wpAnyH_take (i := 8) (oi := _) (v := ?_) rfl (by kernel_rfl) (by kernel_rfl) (by kernel_rfl) (fun _ _ _ h => h) (Or.inl ⟨by rfl, ?_⟩) (by assumption) ?_
      rotate_left
      · (intro w' hSw; obtain ⟨q0, q1, q2⟩ := hSw; go_simp; try with_reducible rfl)
      (try simp only [List.getElem_toArray, List.getElem_cons_succ, List.getElem_cons_zero, Act.put, List.setIfInBounds_toArray, List.set_cons_zero, List.set_cons_succ])
      refine wpAnyH_done (by kernel_rfl) (NoPanic.normal ?_) _
      refine ⟨rfl, ?_⟩
      (repeat apply Exists.intro)
      exact ⟨rfl, ZF.out, XM.out, (fun e => HNE.out e.symm), NGM.out, NG7.out, hd72⟩
      refine AllReadyH.cons (o := _) rfl (fun K hK => ?_) AllReadyH.nil
      go_simp
      try dsimp only
      have q0 := ZB.new v68
      have hge := hd68.size
      have hbv73 := (Below.refl v68.heap.size v68).new (.cells #[.slice none 0 0, .slice none 0 0, .int .i64 0] 25)
      have hd73 := hd68.then hbv73
      replace ZM := mkHid (ZM.out.below hbv73)
      clear hbv73
      refine hK.out _ _ (HS.out _ hd73) (fun hS73 => ?_)
      clear hK K
      (try simp only [List.getElem_toArray, List.getElem_cons_succ, List.getElem_cons_zero, Act.put, List.setIfInBounds_toArray, List.set_cons_zero, List.set_cons_succ])
      obtain ⟨v73, hV⟩ : ∃ V, v68.alloc (.cells #[.slice none 0 0, .slice none 0 0, .int .i64 0] 25) = V := ⟨_, rfl⟩
      obtain ⟨G7, hG⟩ : ∃ V, v68.heap.size = V := ⟨_, rfl⟩
      rw [hV] at hd73 hS73 ZM q0 ⊢
      rw [hG] at hge q0 ⊢
      have NG7 := mkHid hge
      clear hge hV hG
      have Z7 := mkHid q0
      clear q0
      refine wpAnyH_ready (rs := [3, 6]) (by kernel_rfl) (by simp) ?_
      refine AllReadyH.cons (o := _) rfl (fun K hK => ?_) ?_
      go_simp
      try dsimp only
      have hge := hd73.size
      have hbv74 := (Below.refl v73.heap.size v73).new (.cells #[] 3)
      have hd74 := hd73.then hbv74
      replace ZM := mkHid (ZM.out.below hbv74)
      replace Z7 := mkHid (Z7.out.below hbv74)
      clear hbv74
      refine hK.out _ _ (HS.out _ hd74) (fun hS74 => ?_)
      clear hK K
      (try simp only [List.getElem_toArray, List.getElem_cons_succ, List.getElem_cons_zero, Act.put, List.setIfInBounds_toArray, List.set_cons_zero, List.set_cons_succ])
      obtain ⟨v74, hV⟩ : ∃ V, v73.alloc (.cells #[] 3) = V := ⟨_, rfl⟩
      obtain ⟨GE, hG⟩ : ∃ V, v73.heap.size = V := ⟨_, rfl⟩
      rw [hV] at hd74 hS74 ZM Z7 ⊢
      rw [hG] at hge ⊢
      have NGE := mkHid hge
      clear hge hV hG
      refine wpAnyH_ready (rs := [6]) (by kernel_rfl) (by simp) ?_
      refine AllReadyH.cons (o := _) rfl (fun K hK => ?_) AllReadyH.nil
      have z0 := ZM.out.cell 0
      have z1 := ZM.out.cell 1
      have z2 := ZM.out.cell 2
      have y0 := ZM.out.froz 0
      have y1 := ZM.out.froz 1
      have y2 := ZM.out.froz 2
      simp only [List.getElem?_toArray, List.getElem?_cons_zero, List.getElem?_cons_succ] at z0 z1 z2
      go_simp
      try dsimp only
      have hd75 : Below w2.heap.size w2 (((v74.setCell ⟨GM, 0, none⟩ (.int .i64 (l.length : Int))).setCell ⟨GM, 1, none⟩ (.int .i64 (ts.length : Int))).setCell ⟨GM, 2, none⟩ (.slice ma 0 mc)) := hd74.trans ((set3 GM v74 _ _ _).mono NGM.out)
      clear z0 z1 z2 y0 y1 y2
      have hne := ZM.out.ne Z7.out
      have XM := mkHid (ZM.out.set3 (.int .i64 (l.length : Int)) (.int .i64 (ts.length : Int)) (.slice ma 0 mc))
      replace Z7 := mkHid (Z7.out.other hne (.int .i64 (l.length : Int)) (.int .i64 (ts.length : Int)) (.slice ma 0 mc))
      clear ZM
      have HNE := mkHid hne
      clear hne
      refine hK.out _ _ (HS.out _ hd75) (fun hS75 => ?_)
      clear hK K
      (try simp only [List.getElem_toArray, List.getElem_cons_succ, List.getElem_cons_zero, Act.put, List.setIfInBounds_toArray, List.set_cons_zero, List.set_cons_succ])
      obtain ⟨v75, hV⟩ : ∃ V, (((v74.setCell ⟨GM, 0, none⟩ (.int .i64 (l.length : Int))).setCell ⟨GM, 1, none⟩ (.int .i64 (ts.length : Int))).setCell ⟨GM, 2, none⟩ (.slice ma 0 mc)) = V := ⟨_, rfl⟩
      rw [hV] at hd75 hS75 XM Z7 ⊢
      clear hV
      refine wpAnyH_ready (rs := [7]) (by kernel_rfl) (by simp) ?_
      refine AllReadyH.cons (o := _) rfl (fun K hK => ?_) AllReadyH.nil
      have z0 := Z7.out.cell 0
      have z1 := Z7.out.cell 1
      have z2 := Z7.out.cell 2
      have y0 := Z7.out.froz 0
      have y1 := Z7.out.froz 1
      have y2 := Z7.out.froz 2
      simp only [List.getElem?_toArray, List.getElem?_cons_zero, List.getElem?_cons_succ] at z0 z1 z2
      go_simp
      try dsimp only
      have hd76 : Below w2.heap.size w2 (((v75.setCell ⟨G7, 0, none⟩ (.slice a l.length cap)).setCell ⟨G7, 1, none⟩ (.slice a' ts.length cap')).setCell ⟨G7, 2, none⟩ (.int .i64 r)) := hd75.trans ((set3 G7 v75 _ _ _).mono NG7.out)
      clear z0 z1 z2 y0 y1 y2
      have zf := Z7.out.put3 a l.length cap a' ts.length cap' r
      have xm := XM.out.ne (Oth.set3 v75 G7 (.slice a l.length cap) (.slice a' ts.length cap') (.int .i64 r)) (fun e => HNE.out e.symm)
      refine hK.out _ _ (HS.out _ hd76) (fun hS76 => ?_)
      clear hK K
      (try simp only [List.getElem_toArray, List.getElem_cons_succ, List.getElem_cons_zero, Act.put, List.setIfInBounds_toArray, List.set_cons_zero, List.set_cons_succ])
      replace XM := mkHid xm
      have ZF := mkHid zf
      clear xm zf Z7
      obtain ⟨v76, hV⟩ : ∃ V, (((v75.setCell ⟨G7, 0, none⟩ (.slice a l.length cap)).setCell ⟨G7, 1, none⟩ (.slice a' ts.length cap')).setCell ⟨G7, 2, none⟩ (.int .i64 r)) = V := ⟨_, rfl⟩
      rw [hV] at hd76 hS76 XM ZF ⊢
      clear hV
      refine wpAnyH_take (i := 8) (oi := _) (v := ?_) rfl (by kernel_rfl) (by kernel_rfl) (by kernel_rfl) (fun _ _ _ h => h) (Or.inl ⟨by rfl, ?_⟩) (by assumption) ?_
      rotate_left
      · (intro w' hSw; obtain ⟨q0, q1, q2⟩ := hSw; go_simp; try with_reducible rfl)
      (try simp only [List.getElem_toArray, List.getElem_cons_succ, List.getElem_cons_zero, Act.put, List.setIfInBounds_toArray, List.set_cons_zero, List.set_cons_succ])
      refine wpAnyH_done (by kernel_rfl) (NoPanic.normal ?_) _
      refine ⟨rfl, ?_⟩
      (repeat apply Exists.intro)
      exact ⟨rfl, ZF.out, XM.out, (fun e => HNE.out e.symm), NGM.out, NG7.out, hd76⟩
      refine AllReadyH.cons (o := _) rfl (fun K hK => ?_) AllReadyH.nil
      have z0 := ZM.out.cell 0
      have z1 := ZM.out.cell 1
      have z2 := ZM.out.cell 2
      have y0 := ZM.out.froz 0
      have y1 := ZM.out.froz 1
      have y2 := ZM.out.froz 2
      simp only [List.getElem?_toArray, List.getElem?_cons_zero, List.getElem?_cons_succ] at z0 z1 z2
      go_simp
      try dsimp only
      have hd77 : Below w2.heap.size w2 (((v73.setCell ⟨GM, 0, none⟩ (.int .i64 (l.length : Int))).setCell ⟨GM, 1, none⟩ (.int .i64 (ts.length : Int))).setCell ⟨GM, 2, none⟩ (.slice ma 0 mc)) := hd73.trans ((set3 GM v73 _ _ _).mono NGM.out)
      clear z0 z1 z2 y0 y1 y2
      have hne := ZM.out.ne Z7.out
      have XM := mkHid (ZM.out.set3 (.int .i64 (l.length : Int)) (.int .i64 (ts.length : Int)) (.slice ma 0 mc))
      replace Z7 := mkHid (Z7.out.other hne (.int .i64 (l.length : Int)) (.int .i64 (ts.length : Int)) (.slice ma 0 mc))
      clear ZM
      have HNE := mkHid hne
      clear hne
      refine hK.out _ _ (HS.out _ hd77) (fun hS77 => ?_)
      clear hK K
      (try simp only [List.getElem_toArray, List.getElem_cons_succ, List.getElem_cons_zero, Act.put, List.setIfInBounds_toArray, List.set_cons_zero, List.set_cons_succ])
      obtain ⟨v77, hV⟩ : ∃ V, (((v73.setCell ⟨GM, 0, none⟩ (.int .i64 (l.length : Int))).setCell ⟨GM, 1, none⟩ (.int .i64 (ts.length : Int))).setCell ⟨GM, 2, none⟩ (.slice ma 0 mc)) = V := ⟨_, rfl⟩
      rw [hV] at hd77 hS77 XM Z7 ⊢
      clear hV
      refine wpAnyH_ready (rs := [3, 7]) (by kernel_rfl) (by simp) ?_
      refine AllReadyH.cons (o := _) rfl (fun K hK => ?_) ?_
      go_simp
      try dsimp only
      have hge := hd77.size
      have hbv78 := (Below.refl v77.heap.size v77).new (.cells #[] 3)
      have hd78 := hd77.then hbv78
      replace XM := mkHid (XM.out.below hbv78)
      replace Z7 := mkHid (Z7.out.below hbv78)
      clear hbv78
      refine hK.out _ _ (HS.out _ hd78) (fun hS78 => ?_)
      clear hK K
      (try simp only [List.getElem_toArray, List.getElem_cons_succ, List.getElem_cons_zero, Act.put, List.setIfInBounds_toArray, List.set_cons_zero, List.set_cons_succ])
      obtain ⟨v78, hV⟩ : ∃ V, v77.alloc (.cells #[] 3) = V := ⟨_, rfl⟩
      obtain ⟨GE, hG⟩ : ∃ V, v77.heap.size = V := ⟨_, rfl⟩
      rw [hV] at hd78 hS78 XM Z7 ⊢
      rw [hG] at hge ⊢
      have NGE := mkHid hge
      clear hge hV hG
      refine wpAnyH_ready (rs := [7]) (by kernel_rfl) (by simp) ?_
      refine AllReadyH.cons (o := _) rfl (fun K hK => ?_) AllReadyH.nil
      have z0 := Z7.out.cell 0
      have z1 := Z7.out.cell 1
      have z2 := Z7.out.cell 2
      have y0 := Z7.out.froz 0
      have y1 := Z7.out.froz 1
      have y2 := Z7.out.froz 2
      simp only [List.getElem?_toArray, List.getElem?_cons_zero, List.getElem?_cons_succ] at z0 z1 z2
      go_simp
      try dsimp only
      have hd79 : Below w2.heap.size w2 (((v78.setCell ⟨G7, 0, none⟩ (.slice a l.length cap)).setCell ⟨G7, 1, none⟩ (.slice a' ts.length cap')).setCell ⟨G7, 2, none⟩ (.int .i64 r)) := hd78.trans ((set3 G7 v78 _ _ _).mono NG7.out)
      clear z0 z1 z2 y0 y1 y2
      have zf := Z7.out.put3 a l.length cap a' ts.length cap' r
      have xm := XM.out.ne (Oth.set3 v78 G7 (.slice a l.length cap) (.slice a' ts.length cap') (.int .i64 r)) (fun e => HNE.out e.symm)
      refine hK.out _ _ (HS.out _ hd79) (fun hS79 => ?_)
      clear hK K
      (try simp only [List.getElem_toArray, List.getElem_cons_succ, List.getElem_cons_zero, Act.put, List.setIfInBounds_toArray, List.set_cons_zero, List.set_cons_succ])
      replace XM := mkHid xm
      have ZF := mkHid zf
      clear xm zf Z7
      obtain ⟨v79, hV⟩ : ∃ V, (((v78.setCell ⟨G7, 0, none⟩ (.slice a l.length cap)).setCell ⟨G7, 1, none⟩ (.slice a' ts.length cap')).setCell ⟨G7, 2, none⟩ (.int .i64 r)) = V := ⟨_, rfl⟩
      rw [hV] at hd79 hS79 XM ZF ⊢
      clear hV
      refine wpAnyH_take (i := 8) (oi := _) (v := ?_) rfl (by kernel_rfl) (by kernel_rfl) (by kernel_rfl) (fun _ _ _ h => h) (Or.inl ⟨by rfl, ?_⟩) (by assumption) ?_
      rotate_left
      · (intro w' hSw; obtain ⟨q0, q1, q2⟩ := hSw; go_simp; try with_reducible rfl)
      (try simp only [List.getElem_toArray, List.getElem_cons_succ, List.getElem_cons_zero, Act.put, List.setIfInBounds_toArray, List.set_cons_zero, List.set_cons_succ])
      refine wpAnyH_done (by kernel_rfl) (NoPanic.normal ?_) _
      refine ⟨rfl, ?_⟩
      (repeat apply Exists.intro)
      exact ⟨rfl, ZF.out, XM.out, (fun e => HNE.out e.symm), NGM.out, NG7.out, hd79⟩
      refine AllReadyH.cons (o := _) rfl (fun K hK => ?_) AllReadyH.nil
      have z0 := Z7.out.cell 0
      have z1 := Z7.out.cell 1
      have z2 := Z7.out.cell 2
      have y0 := Z7.out.froz 0
      have y1 := Z7.out.froz 1
      have y2 := Z7.out.froz 2
      simp only [List.getElem?_toArray, List.getElem?_cons_zero, List.getElem?_cons_succ] at z0 z1 z2
      go_simp
      try dsimp only
      have hd80 : Below w2.heap.size w2 (((v77.setCell ⟨G7, 0, none⟩ (.slice a l.length cap)).setCell ⟨G7, 1, none⟩ (.slice a' ts.length cap')).setCell ⟨G7, 2, none⟩ (.int .i64 r)) := hd77.trans ((set3 G7 v77 _ _ _).mono NG7.out)
      clear z0 z1 z2 y0 y1 y2
      have zf := Z7.out.put3 a l.length cap a' ts.length cap' r
      have xm := XM.out.ne (Oth.set3 v77 G7 (.slice a l.length cap) (.slice a' ts.length cap') (.int .i64 r)) (fun e => HNE.out e.symm)
      refine hK.out _ _ (HS.out _ hd80) (fun hS80 => ?_)
      clear hK K
      (try simp only [List.getElem_toArray, List.getElem_cons_succ, List.getElem_cons_zero, Act.put, List.setIfInBounds_toArray, List.set_cons_zero, List.set_cons_succ])
      replace XM := mkHid xm
      have ZF := mkHid zf
      clear xm zf Z7
      obtain ⟨v80, hV⟩ : ∃ V, (((v77.setCell ⟨G7, 0, none⟩ (.slice a l.length cap)).setCell ⟨G7, 1, none⟩ (.slice a' ts.length cap')).setCell ⟨G7, 2, none⟩ (.int .i64 r)) = V := ⟨_, rfl⟩
      rw [hV] at hd80 hS80 XM ZF ⊢
      clear hV
      refine wpAnyH_ready (rs := [3]) (by kernel_rfl) (by simp) ?_
      refine AllReadyH.cons (o := _) rfl (fun K hK => ?_) AllReadyH.nil
      go_simp
      try dsimp only
      have hge := hd80.size
      have hbv81 := (Below.refl v80.heap.size v80).new (.cells #[] 3)
      have hd81 := hd80.then hbv81
      replace XM := mkHid (XM.out.below hbv81)
      replace ZF := mkHid (ZF.out.below hbv81)
      clear hbv81
      refine hK.out _ _ (HS.out _ hd81) (fun hS81 => ?_)
      clear hK K
      (try simp only [List.getElem_toArray, List.getElem_cons_succ, List.getElem_cons_zero, Act.put, List.setIfInBounds_toArray, List.set_cons_zero, List.set_cons_succ])
      obtain ⟨v81, hV⟩ : ∃ V, v80.alloc (.cells #[] 3) = V := ⟨_, rfl⟩
      obtain ⟨GE, hG⟩ : ∃ V, v80.heap.size = V := ⟨_, rfl⟩
      rw [hV] at hd81 hS81 XM ZF ⊢
      rw [hG] at hge ⊢
      have NGE := mkHid hge
      clear hge hV hG
      refine wpAnyH_take (i := 8) (oi := _) (v := ?_) rfl (by kernel_rfl) (by kernel_rfl) (by kernel_rfl) (fun _ _ _ h => h) (Or.inl ⟨by rfl, ?_⟩) (by assumption) ?_
      rotate_left
      · (intro w' hSw; obtain ⟨q0, q1, q2⟩ := hSw; go_simp; try with_reducible rfl)
      (try simp only [List.getElem_toArray, List.getElem_cons_succ, List.getElem_cons_zero, Act.put, List.setIfInBounds_toArray, List.set_cons_zero, List.set_cons_succ])
      refine wpAnyH_done (by kernel_rfl) (NoPanic.normal ?_) _
      refine ⟨rfl, ?_⟩
      (repeat apply Exists.intro)
      exact ⟨rfl, ZF.out, XM.out, (fun e => HNE.out e.symm), NGM.out, NG7.out, hd81⟩
      refine AllReadyH.cons (o := _) rfl (fun K hK => ?_) ?_
      go_simp
      try dsimp only
      have hge := hd67.size
      have hbv82 := (Below.refl v67.heap.size v67).new (.cells #[] 3)
      have hd82 := hd67.then hbv82
      replace ZM := mkHid (ZM.out.below hbv82)
      clear hbv82
      refine hK.out _ _ (HS.out _ hd82) (fun hS82 => ?_)
      clear hK K
      (try simp only [List.getElem_toArray, List.getElem_cons_succ, List.getElem_cons_zero, Act.put, List.setIfInBounds_toArray, List.set_cons_zero, List.set_cons_succ])
      obtain ⟨v82, hV⟩ : ∃ V, v67.alloc (.cells #[] 3) = V := ⟨_, rfl⟩
      obtain ⟨GE, hG⟩ : ∃ V, v67.heap.size = V := ⟨_, rfl⟩
      rw [hV] at hd82 hS82 ZM ⊢
      rw [hG] at hge ⊢
      have NGE := mkHid hge
      clear hge hV hG
      refine wpAnyH_ready (rs := [1, 5]) (by kernel_rfl) (by simp) ?_
      refine AllReadyH.cons (o := _) rfl (fun K hK => ?_) ?_
      go_simp
      refine (markK _ rfl rfl).mono ?_
      rintro e v83 ⟨ma, mc, rfl, hbv83⟩
      replace ZM := mkHid (ZM.out.below hbv83)
      have hd83 := hd82.then hbv83
      try dsimp only
      clear hbv83
      refine hK.out _ _ (HS.out _ hd83) (fun hS83 => ?_)
      clear hK K
      (try simp only [List.getElem_toArray, List.getElem_cons_succ, List.getElem_cons_zero, Act.put, List.setIfInBounds_toArray, List.set_cons_zero, List.set_cons_succ])
      refine wpAnyH_ready (rs := [5]) (by kernel_rfl) (by simp) ?_
      refine AllReadyH.cons (o := _) rfl (fun K hK => ?_) AllReadyH.nil
      go_simp
      try dsimp only
      have q0 := ZB.new v83
      have hge := hd83.size
      have hbv84 := (Below.refl v83.heap.size v83).new (.cells #[.slice none 0 0, .slice none 0 0, .int .i64 0] 25)
      have hd84 := hd83.then hbv84
      replace ZM := mkHid (ZM.out.below hbv84)
      clear hbv84
      refine hK.out _ _ (HS.out _ hd84) (fun hS84 => ?_)
      clear hK K
      (try simp only [List.getElem_toArray, List.getElem_cons_succ, List.getElem_cons_zero, Act.put, List.setIfInBounds_toArray, List.set_cons_zero, List.set_cons_succ])
      obtain ⟨v84, hV⟩ : ∃ V, v83.alloc (.cells #[.slice none 0 0, .slice none 0 0, .int .i64 0] 25) = V := ⟨_, rfl⟩
      obtain ⟨G7, hG⟩ : ∃ V, v83.heap.size = V := ⟨_, rfl⟩
      rw [hV] at hd84 hS84 ZM q0 ⊢
      rw [hG] at hge q0 ⊢
      have NG7 := mkHid hge
      clear hge hV hG
      have Z7 := mkHid q0
      clear q0
      refine wpAnyH_ready (rs := [6]) (by kernel_rfl) (by simp) ?_
      refine AllReadyH.cons (o := _) rfl (fun K hK => ?_) AllReadyH.nil
      have z0 := ZM.out.cell 0
      have z1 := ZM.out.cell 1
      have z2 := ZM.out.cell 2
      have y0 := ZM.out.froz 0
      have y1 := ZM.out.froz 1
      have y2 := ZM.out.froz 2
      simp only [List.getElem?_toArray, List.getElem?_cons_zero, List.getElem?_cons_succ] at z0 z1 z2
      go_simp
      try dsimp only
      have hd85 : Below w2.heap.size w2 (((v84.setCell ⟨GM, 0, none⟩ (.int .i64 (l.length : Int))).setCell ⟨GM, 1, none⟩ (.int .i64 (ts.length : Int))).setCell ⟨GM, 2, none⟩ (.slice ma 0 mc)) := hd84.trans ((set3 GM v84 _ _ _).mono NGM.out)
      clear z0 z1 z2 y0 y1 y2
      have hne := ZM.out.ne Z7.out
      have XM := mkHid (ZM.out.set3 (.int .i64 (l.length : Int)) (.int .i64 (ts.length : Int)) (.slice ma 0 mc))
      replace Z7 := mkHid (Z7.out.other hne (.int .i64 (l.length : Int)) (.int .i64 (ts.length : Int)) (.slice ma 0 mc))
      clear ZM
      have HNE := mkHid hne
      clear hne
      refine hK.out _ _ (HS.out _ hd85) (fun hS85 => ?_)
      clear hK K
      (try simp only [List.getElem_toArray, List.getElem_cons_succ, List.getElem_cons_zero, Act.put, List.setIfInBounds_toArray, List.set_cons_zero, List.set_cons_succ])
      obtain ⟨v85, hV⟩ : ∃ V, (((v84.setCell ⟨GM, 0, none⟩ (.int .i64 (l.length : Int))).setCell ⟨GM, 1, none⟩ (.int .i64 (ts.length : Int))).setCell ⟨GM, 2, none⟩ (.slice ma 0 mc)) = V := ⟨_, rfl⟩
      rw [hV] at hd85 hS85 XM Z7 ⊢
      clear hV
      refine wpAnyH_ready (rs := [7]) (by kernel_rfl) (by simp) ?_
      refine AllReadyH.cons (o := _) rfl (fun K hK => ?_) AllReadyH.nil
      have z0 := Z7.out.cell 0
      have z1 := Z7.out.cell 1
      have z2 := Z7.out.cell 2
      have y0 := Z7.out.froz 0
      have y1 := Z7.out.froz 1
      have y2 := Z7.out.froz 2
      simp only [List.getElem?_toArray, List.getElem?_cons_zero, List.getElem?_cons_succ] at z0 z1 z2
      go_simp
      try dsimp only
      have hd86 : Below w2.heap.size w2 (((v85.setCell ⟨G7, 0, none⟩ (.slice a l.length cap)).setCell ⟨G7, 1, none⟩ (.slice a' ts.length cap')).setCell ⟨G7, 2, none⟩ (.int .i64 r)) := hd85.trans ((set3 G7 v85 _ _ _).mono NG7.out)
      clear z0 z1 z2 y0 y1 y2
      have zf := Z7.out.put3 a l.length cap a' ts.length cap' r
      have xm := XM.out.ne (Oth.set3 v85 G7 (.slice a l.length cap) (.slice a' ts.length cap') (.int .i64 r)) (fun e => HNE.out e.symm)
      refine hK.out _ _ (HS.out _ hd86) (fun hS86 => ?_)
      clear hK K
      (try simp only [List.getElem_toArray, List.getElem_cons_succ, List.getElem_cons_zero, Act.put, List.setIfInBounds_toArray, List.set_cons_zero, List.set_cons_succ])
      replace XM := mkHid xm
      have ZF := mkHid zf
      clear xm zf Z7
      obtain ⟨v86, hV⟩ : ∃ V, (((v85.setCell ⟨G7, 0, none⟩ (.slice a l.length cap)).setCell ⟨G7, 1, none⟩ (.slice a' ts.length cap')).setCell ⟨G7, 2, none⟩ (.int .i64 r)) = V := ⟨_, rfl⟩
      rw [hV] at hd86 hS86 XM ZF ⊢
      clear hV
      refine wpAnyH_take (i := 8) (oi := _) (v := ?_) rfl (by kernel_rfl) (by kernel_rfl) (by kernel_rfl) (fun _ _ _ h => h) (Or.inl ⟨by rfl, ?_⟩) (by assumption) ?_
      rotate_left
      · (intro w' hSw; obtain ⟨q0, q1, q2⟩ := hSw; go_simp; try with_reducible rfl)
      (try simp only [List.getElem_toArray, List.getElem_cons_succ, List.getElem_cons_zero, Act.put, List.setIfInBounds_toArray, List.set_cons_zero, List.set_cons_succ])
      refine wpAnyH_done (by kernel_rfl) (NoPanic.normal ?_) _
      refine ⟨rfl, ?_⟩
      (repeat apply Exists.intro)
      exact ⟨rfl, ZF.out, XM.out, (fun e => HNE.out e.symm), NGM.out, NG7.out, hd86⟩
      refine AllReadyH.cons (o := _) rfl (fun K hK => ?_) AllReadyH.nil
      go_simp
      try dsimp only
      have q0 := ZB.new v82
      have hge := hd82.size
      have hbv87 := (Below.refl v82.heap.size v82).new (.cells #[.slice none 0 0, .slice none 0 0, .int .i64 0] 25)
      have hd87 := hd82.then hbv87
      replace ZM := mkHid (ZM.out.below hbv87)
      clear hbv87
      refine hK.out _ _ (HS.out _ hd87) (fun hS87 => ?_)
      clear hK K
      (try simp only [List.getElem_toArray, List.getElem_cons_succ, List.getElem_cons_zero, Act.put, List.setIfInBounds_toArray, List.set_cons_zero, List.set_cons_succ])
      obtain ⟨v87, hV⟩ : ∃ V, v82.alloc (.cells #[.slice none 0 0, .slice none 0 0, .int .i64 0] 25) = V := ⟨_, rfl⟩
      obtain ⟨G7, hG⟩ : ∃ V, v82.heap.size = V := ⟨_, rfl⟩
      rw [hV] at hd87 hS87 ZM q0 ⊢
      rw [hG] at hge q0 ⊢
      have NG7 := mkHid hge
      clear hge hV hG
      have Z7 := mkHid q0
      clear q0
      refine wpAnyH_ready (rs := [1]) (by kernel_rfl) (by simp) ?_
      refine AllReadyH.cons (o := _) rfl (fun K hK => ?_) AllReadyH.nil
      go_simp
      refine (markK _ rfl rfl).mono ?_
      rintro e v88 ⟨ma, mc, rfl, hbv88⟩
      replace ZM := mkHid (ZM.out.below hbv88)
      replace Z7 := mkHid (Z7.out.below hbv88)
      have hd88 := hd87.then hbv88
      try dsimp only
      clear hbv88
      refine hK.out _ _ (HS.out _ hd88) (fun hS88 => ?_)
      clear hK K
      (try simp only [List.getElem_toArray, List.getElem_cons_succ, List.getElem_cons_zero, Act.put, List.setIfInBounds_toArray, List.set_cons_zero, List.set_cons_succ])
      refine wpAnyH_ready (rs := [6]) (by kernel_rfl) (by simp) ?_
      refine AllReadyH.cons (o := _) rfl (fun K hK => ?_) AllReadyH.nil
      have z0 := ZM.out.cell 0
      have z1 := ZM.out.cell 1
      have z2 := ZM.out.cell 2
      have y0 := ZM.out.froz 0
      have y1 := ZM.out.froz 1
      have y2 := ZM.out.froz 2
      simp only [List.getElem?_toArray, List.getElem?_cons_zero, List.getElem?_cons_succ] at z0 z1 z2
      go_simp
      try dsimp only
      have hd89 : Below w2.heap.size w2 (((v88.setCell ⟨GM, 0, none⟩ (.int .i64 (l.length : Int))).setCell ⟨GM, 1, none⟩ (.int .i64 (ts.length : Int))).setCell ⟨GM, 2, none⟩ (.slice ma 0 mc)) := hd88.trans ((set3 GM v88 _ _ _).mono NGM.out)
      clear z0 z1 z2 y0 y1 y2
      have hne := ZM.out.ne Z7.out
      have XM := mkHid (ZM.out.set3 (.int .i64 (l.length : Int)) (.int .i64 (ts.length : Int)) (.slice ma 0 mc))
      replace Z7 := mkHid (Z7.out.other hne (.int .i64 (l.length : Int)) (.int .i64 (ts.length : Int)) (.slice ma 0 mc))
      clear ZM
      have HNE := mkHid hne
      clear hne
      refine hK.out _ _ (HS.out _ hd89) (fun hS89 => ?_)
      clear hK K
      (try simp only [List.getElem_toArray, List.getElem_cons_succ, List.getElem_cons_zero, Act.put, List.setIfInBounds_toArray, List.set_cons_zero, List.set_cons_succ])
      obtain ⟨v89, hV⟩ : ∃ V, (((v88.setCell ⟨GM, 0, none⟩ (.int .i64 (l.length : Int))).setCell ⟨GM, 1, none⟩ (.int .i64 (ts.length : Int))).setCell ⟨GM, 2, none⟩ (.slice ma 0 mc)) = V := ⟨_, rfl⟩
      rw [hV] at hd89 hS89 XM Z7 ⊢
      clear hV
      refine wpAnyH_ready (rs := [7]) (by kernel_rfl) (by simp) ?_
      refine AllReadyH.cons (o := _) rfl (fun K hK => ?_) AllReadyH.nil
      have z0 := Z7.out.cell 0
      have z1 := Z7.out.cell 1
      have z2 := Z7.out.cell 2
      have y0 := Z7.out.froz 0
      have y1 := Z7.out.froz 1
      have y2 := Z7.out.froz 2
      simp only [List.getElem?_toArray, List.getElem?_cons_zero, List.getElem?_cons_succ] at z0 z1 z2
      go_simp
      try dsimp only
      have hd90 : Below w2.heap.size w2 (((v89.setCell ⟨G7, 0, none⟩ (.slice a l.length cap)).setCell ⟨G7, 1, none⟩ (.slice a' ts.length cap')).setCell ⟨G7, 2, none⟩ (.int .i64 r)) := hd89.trans ((set3 G7 v89 _ _ _).mono NG7.out)
      clear z0 z1 z2 y0 y1 y2
      have zf := Z7.out.put3 a l.length cap a' ts.length cap' r
      have xm := XM.out.ne (Oth.set3 v89 G7 (.slice a l.length cap) (.slice a' ts.length cap') (.int .i64 r)) (fun e => HNE.out e.symm)
      refine hK.out _ _ (HS.out _ hd90) (fun hS90 => ?_)
      clear hK K
      (try simp only [List.getElem_toArray, List.getElem_cons_succ, List.getElem_cons_zero, Act.put, List.setIfInBounds_toArray, List.set_cons_zero, List.set_cons_succ])
      replace XM := mkHid xm
      have ZF := mkHid zf
      clear xm zf Z7
      obtain ⟨v90, hV⟩ : ∃ V, (((v89.setCell ⟨G7, 0, none⟩ (.slice a l.length cap)).setCell ⟨G7, 1, none⟩ (.slice a' ts.length cap')).setCell ⟨G7, 2, none⟩ (.int .i64 r)) = V := ⟨_, rfl⟩
      rw [hV] at hd90 hS90 XM ZF ⊢
      clear hV
      refine wpAnyH_take (i := 8) (oi := _) (v := ?_) rfl (by kernel_rfl) (by kernel_rfl) (by kernel_rfl) (fun _ _ _ h => h) (Or.inl ⟨by rfl, ?_⟩) (by assumption) ?_
      rotate_left
      · (intro w' hSw; obtain ⟨q0, q1, q2⟩ := hSw; go_simp; try with_reducible rfl)
      (try simp only [List.getElem_toArray, List.getElem_cons_succ, List.getElem_cons_zero, Act.put, List.setIfInBounds_toArray, List.set_cons_zero, List.set_cons_succ])
      refine wpAnyH_done (by kernel_rfl) (NoPanic.normal ?_) _
      refine ⟨rfl, ?_⟩
      (repeat apply Exists.intro)
      exact ⟨rfl, ZF.out, XM.out, (fun e => HNE.out e.symm), NGM.out, NG7.out, hd90⟩
      refine AllReadyH.cons (o := _) rfl (fun K hK => ?_) AllReadyH.nil
      go_simp
      try dsimp only
      have q0 := ZB.new v67
      have hge := hd67.size
      have hbv91 := (Below.refl v67.heap.size v67).new (.cells #[.slice none 0 0, .slice none 0 0, .int .i64 0] 25)
      have hd91 := hd67.then hbv91
      replace ZM := mkHid (ZM.out.below hbv91)
      clear hbv91
      refine hK.out _ _ (HS.out _ hd91) (fun hS91 => ?_)
      clear hK K
      (try simp only [List.getElem_toArray, List.getElem_cons_succ, List.getElem_cons_zero, Act.put, List.setIfInBounds_toArray, List.set_cons_zero, List.set_cons_succ])
      obtain ⟨v91, hV⟩ : ∃ V, v67.alloc (.cells #[.slice none 0 0, .slice none 0 0, .int .i64 0] 25) = V := ⟨_, rfl⟩
      obtain ⟨G7, hG⟩ : ∃ V, v67.heap.size = V := ⟨_, rfl⟩
      rw [hV] at hd91 hS91 ZM q0 ⊢
      rw [hG] at hge q0 ⊢
      have NG7 := mkHid hge
      clear hge hV hG
      have Z7 := mkHid q0
      clear q0
      refine wpAnyH_ready (rs := [1, 3]) (by kernel_rfl) (by simp) ?_
      refine AllReadyH.cons (o := _) rfl (fun K hK => ?_) ?_
      go_simp
      refine (markK _ rfl rfl).mono ?_
      rintro e v92 ⟨ma, mc, rfl, hbv92⟩
      replace ZM := mkHid (ZM.out.below hbv92)
      replace Z7 := mkHid (Z7.out.below hbv92)
      have hd92 := hd91.then hbv92
      try dsimp only
      clear hbv92
      refine hK.out _ _ (HS.out _ hd92) (fun hS92 => ?_)
      clear hK K
      (try simp only [List.getElem_toArray, List.getElem_cons_succ, List.getElem_cons_zero, Act.put, List.setIfInBounds_toArray, List.set_cons_zero, List.set_cons_succ])
      refine wpAnyH_ready (rs := [3, 6]) (by kernel_rfl) (by simp) ?_
      refine AllReadyH.cons (o := _) rfl (fun K hK => ?_) ?_
      go_simp
      try dsimp only
      have hge := hd92.size
      have hbv93 := (Below.refl v92.heap.size v92).new (.cells #[] 3)
      have hd93 := hd92.then hbv93
      replace ZM := mkHid (ZM.out.below hbv93)
      replace Z7 := mkHid (Z7.out.below hbv93)
      clear hbv93
      refine hK.out _ _ (HS.out _ hd93) (fun hS93 => ?_)
      clear hK K
      (try simp only [List.getElem_toArray, List.getElem_cons_succ, List.getElem_cons_zero, Act.put, List.setIfInBounds_toArray, List.set_cons_zero, List.set_cons_succ])
      obtain ⟨v93, hV⟩ : ∃ V, v92.alloc (.cells #[] 3) = V := ⟨_, rfl⟩
      obtain ⟨GE, hG⟩ : ∃ V, v92.heap.size = V := ⟨_, rfl⟩
      rw [hV] at hd93 hS93 ZM Z7 ⊢
      rw [hG] at hge ⊢
      have NGE := mkHid hge
      clear hge hV hG
      refine wpAnyH_ready (rs := [6]) (by kernel_rfl) (by simp) ?_
      refine AllReadyH.cons (o := _) rfl (fun K hK => ?_) AllReadyH.nil
      have z0 := ZM.out.cell 0
      have z1 := ZM.out.cell 1
      have z2 := ZM.out.cell 2
      have y0 := ZM.out.froz 0
      have y1 := ZM.out.froz 1
      have y2 := ZM.out.froz 2
      simp only [List.getElem?_toArray, List.getElem?_cons_zero, List.getElem?_cons_succ] at z0 z1 z2
      go_simp
      try dsimp only
      have hd94 : Below w2.heap.size w2 (((v93.setCell ⟨GM, 0, none⟩ (.int .i64 (l.length : Int))).setCell ⟨GM, 1, none⟩ (.int .i64 (ts.length : Int))).setCell ⟨GM, 2, none⟩ (.slice ma 0 mc)) := hd93.trans ((set3 GM v93 _ _ _).mono NGM.out)
      clear z0 z1 z2 y0 y1 y2
      have hne := ZM.out.ne Z7.out
      have XM := mkHid (ZM.out.set3 (.int .i64 (l.length : Int)) (.int .i64 (ts.length : Int)) (.slice ma 0 mc))
      replace Z7 := mkHid (Z7.out.other hne (.int .i64 (l.length : Int)) (.int .i64 (ts.length : Int)) (.slice ma 0 mc))
      clear ZM
      have HNE := mkHid hne
      clear hne
      refine hK.out _ _ (HS.out _ hd94) (fun hS94 => ?_)
      clear hK K
      (try simp only [List.getElem_toArray, List.getElem_cons_succ, List.getElem_cons_zero, Act.put, List.setIfInBounds_toArray, List.set_cons_zero, List.set_cons_succ])
      obtain ⟨v94, hV⟩ : ∃ V, (((v93.setCell ⟨GM, 0, none⟩ (.int .i64 (l.length : Int))).setCell ⟨GM, 1, none⟩ (.int .i64 (ts.length : Int))).setCell ⟨GM, 2, none⟩ (.slice ma 0 mc)) = V := ⟨_, rfl⟩
      rw [hV] at hd94 hS94 XM Z7 ⊢
      clear hV
      refine wpAnyH_ready (rs := [7]) (by kernel_rfl) (by simp) ?_
      refine AllReadyH.cons (o := _) rfl (fun K hK => ?_) AllReadyH.nil
      have z0 := Z7.out.cell 0
      have z1 := Z7.out.cell 1
      have z2 := Z7.out.cell 2
      have y0 := Z7.out.froz 0
      have y1 := Z7.out.froz 1
      have y2 := Z7.out.froz 2
      simp only [List.getElem?_toArray, List.getElem?_cons_zero, List.getElem?_cons_succ] at z0 z1 z2
      go_simp
      try dsimp only
      have hd95 : Below w2.heap.size w2 (((v94.setCell ⟨G7, 0, none⟩ (.slice a l.length cap)).setCell ⟨G7, 1, none⟩ (.slice a' ts.length cap')).setCell ⟨G7, 2, none⟩ (.int .i64 r)) := hd94.trans ((set3 G7 v94 _ _ _).mono NG7.out)
      clear z0 z1 z2 y0 y1 y2
      have zf := Z7.out.put3 a l.length cap a' ts.length cap' r
      have xm := XM.out.ne (Oth.set3 v94 G7 (.slice a l.length cap) (.slice a' ts.length cap') (.int .i64 r)) (fun e => HNE.out e.symm)
      refine hK.out _ _ (HS.out _ hd95) (fun hS95 => ?_)
      clear hK K
      (try simp only [List.getElem_toArray, List.getElem_cons_succ, List.getElem_cons_zero, Act.put, List.setIfInBounds_toArray, List.set_cons_zero, List.set_cons_succ])
      replace XM := mkHid xm
      have ZF := mkHid zf
      clear xm zf Z7
      obtain ⟨v95, hV⟩ : ∃ V, (((v94.setCell ⟨G7, 0, none⟩ (.slice a l.length cap)).setCell ⟨G7, 1, none⟩ (.slice a' ts.length cap')).setCell ⟨G7, 2, none⟩ (.int .i64 r)) = V := ⟨_, rfl⟩
      rw [hV] at hd95 hS95 XM ZF ⊢
      clear hV
      refine wpAnyH_take (i := 8) (oi := _) (v := ?_) rfl (by kernel_rfl) (by kernel_rfl) (by kernel_rfl) (fun _ _ _ h => h) (Or.inl ⟨by rfl, ?_⟩) (by assumption) ?_
      rotate_left
      · (intro w' hSw; obtain ⟨q0, q1, q2⟩ := hSw; go_simp; try with_reducible rfl)
      (try simp only [List.getElem_toArray, List.getElem_cons_succ, List.getElem_cons_zero, Act.put, List.setIfInBounds_toArray, List.set_cons_zero, List.set_cons_succ])
      refine wpAnyH_done (by kernel_rfl) (NoPanic.normal ?_) _
      refine ⟨rfl, ?_⟩
      (repeat apply Exists.intro)
      exact ⟨rfl, ZF.out, XM.out, (fun e => HNE.out e.symm), NGM.out, NG7.out, hd95⟩
      refine AllReadyH.cons (o := _) rfl (fun K hK => ?_) AllReadyH.nil
      have z0 := ZM.out.cell 0
      have z1 := ZM.out.cell 1
      have z2 := ZM.out.cell 2
      have y0 := ZM.out.froz 0
      have y1 := ZM.out.froz 1
      have y2 := ZM.out.froz 2
      simp only [List.getElem?_toArray, List.getElem?_cons_zero, List.getElem?_cons_succ] at z0 z1 z2
      go_simp
      try dsimp only
      have hd96 : Below w2.heap.size w2 (((v92.setCell ⟨GM, 0, none⟩ (.int .i64 (l.length : Int))).setCell ⟨GM, 1, none⟩ (.int .i64 (ts.length : Int))).setCell ⟨GM, 2, none⟩ (.slice ma 0 mc)) := hd92.trans ((set3 GM v92 _ _ _).mono NGM.out)
      clear z0 z1 z2 y0 y1 y2
      have hne := ZM.out.ne Z7.out
      have XM := mkHid (ZM.out.set3 (.int .i64 (l.length : Int)) (.int .i64 (ts.length : Int)) (.slice ma 0 mc))
      replace Z7 := mkHid (Z7.out.other hne (.int .i64 (l.length : Int)) (.int .i64 (ts.length : Int)) (.slice ma 0 mc))
      clear ZM
      have HNE := mkHid hne
      clear hne
      refine hK.out _ _ (HS.out _ hd96) (fun hS96 => ?_)
      clear hK K
      (try simp only [List.getElem_toArray, List.getElem_cons_succ, List.getElem_cons_zero, Act.put, List.setIfInBounds_toArray, List.set_cons_zero, List.set_cons_succ])
      obtain ⟨v96, hV⟩ : ∃ V, (((v92.setCell ⟨GM, 0, none⟩ (.int .i64 (l.length : Int))).setCell ⟨GM, 1, none⟩ (.int .i64 (ts.length : Int))).setCell ⟨GM, 2, none⟩ (.slice ma 0 mc)) = V := ⟨_, rfl⟩
      rw [hV] at hd96 hS96 XM Z7 ⊢
      clear hV
      refine wpAnyH_ready (rs := [3, 7]) (by kernel_rfl) (by simp) ?_
      refine AllReadyH.cons (o := _) rfl (fun K hK => ?_) ?_
      go_simp
      try dsimp only
      have hge := hd96.size
      have hbv97 := (Below.refl v96.heap.size v96).new (.cells #[] 3)
      have hd97 := hd96.then hbv97
      replace XM := mkHid (XM.out.below hbv97)
      replace Z7 := mkHid (Z7.out.below hbv97)
      clear hbv97
      refine hK.out _ _ (HS.out _ hd97) (fun hS97 => ?_)
      clear hK K
      (try simp only [List.getElem_toArray, List.getElem_cons_succ, List.getElem_cons_zero, Act.put, List.setIfInBounds_toArray, List.set_cons_zero, List.set_cons_succ])
      obtain ⟨v97, hV⟩ : ∃ V, v96.alloc (.cells #[] 3) = V := ⟨_, rfl⟩
      obtain ⟨GE, hG⟩ : ∃ V, v96.heap.size = V := ⟨_, rfl⟩
      rw [hV] at hd97 hS97 XM Z7 ⊢
      rw [hG] at hge ⊢
      have NGE := mkHid hge
      clear hge hV hG
      refine wpAnyH_ready (rs := [7]) (by kernel_rfl) (by simp) ?_
      refine AllReadyH.cons (o := _) rfl (fun K hK => ?_) AllReadyH.nil
      have z0 := Z7.out.cell 0
      have z1 := Z7.out.cell 1
      have z2 := Z7.out.cell 2
      have y0 := Z7.out.froz 0
      have y1 := Z7.out.froz 1
      have y2 := Z7.out.froz 2
      simp only [List.getElem?_toArray, List.getElem?_cons_zero, List.getElem?_cons_succ] at z0 z1 z2
      go_simp
      try dsimp only
      have hd98 : Below w2.heap.size w2 (((v97.setCell ⟨G7, 0, none⟩ (.slice a l.length cap)).setCell ⟨G7, 1, none⟩ (.slice a' ts.length cap')).setCell ⟨G7, 2, none⟩ (.int .i64 r)) := hd97.trans ((set3 G7 v97 _ _ _).mono NG7.out)
      clear z0 z1 z2 y0 y1 y2
      have zf := Z7.out.put3 a l.length cap a' ts.length cap' r
      have xm := XM.out.ne (Oth.set3 v97 G7 (.slice a l.length cap) (.slice a' ts.length cap') (.int .i64 r)) (fun e => HNE.out e.symm)
      refine hK.out _ _ (HS.out _ hd98) (fun hS98 => ?_)
      clear hK K
      (try simp only [List.getElem_toArray, List.getElem_cons_succ, List.getElem_cons_zero, Act.put, List.setIfInBounds_toArray, List.set_cons_zero, List.set_cons_succ])
      replace XM := mkHid xm
      have ZF := mkHid zf
      clear xm zf Z7
      obtain ⟨v98, hV⟩ : ∃ V, (((v97.setCell ⟨G7, 0, none⟩ (.slice a l.length cap)).setCell ⟨G7, 1, none⟩ (.slice a' ts.length cap')).setCell ⟨G7, 2, none⟩ (.int .i64 r)) = V := ⟨_, rfl⟩
      rw [hV] at hd98 hS98 XM ZF ⊢
      clear hV
      refine wpAnyH_take (i := 8) (oi := _) (v := ?_) rfl (by kernel_rfl) (by kernel_rfl) (by kernel_rfl) (fun _ _ _ h => h) (Or.inl ⟨by rfl, ?_⟩) (by assumption) ?_
      rotate_left
      · (intro w' hSw; obtain ⟨q0, q1, q2⟩ := hSw; go_simp; try with_reducible rfl)
      (try simp only [List.getElem_toArray, List.getElem_cons_succ, List.getElem_cons_zero, Act.put, List.setIfInBounds_toArray, List.set_cons_zero, List.set_cons_succ])
      refine wpAnyH_done (by kernel_rfl) (NoPanic.normal ?_) _
      refine ⟨rfl, ?_⟩
      (repeat apply Exists.intro)
      exact ⟨rfl, ZF.out, XM.out, (fun e => HNE.out e.symm), NGM.out, NG7.out, hd98⟩
      refine AllReadyH.cons (o := _) rfl (fun K hK => ?_) AllReadyH.nil
      have z0 := Z7.out.cell 0
      have z1 := Z7.out.cell 1
      have z2 := Z7.out.cell 2
      have y0 := Z7.out.froz 0
      have y1 := Z7.out.froz 1
      have y2 := Z7.out.froz 2
      simp only [List.getElem?_toArray, List.getElem?_cons_zero, List.getElem?_cons_succ] at z0 z1 z2
      go_simp
      try dsimp only
      have hd99 : Below w2.heap.size w2 (((v96.setCell ⟨G7, 0, none⟩ (.slice a l.length cap)).setCell ⟨G7, 1, none⟩ (.slice a' ts.length cap')).setCell ⟨G7, 2, none⟩ (.int .i64 r)) := hd96.trans ((set3 G7 v96 _ _ _).mono NG7.out)
      clear z0 z1 z2 y0 y1 y2
      have zf := Z7.out.put3 a l.length cap a' ts.length cap' r
      have xm := XM.out.ne (Oth.set3 v96 G7 (.slice a l.length cap) (.slice a' ts.length cap') (.int .i64 r)) (fun e => HNE.out e.symm)
      refine hK.out _ _ (HS.out _ hd99) (fun hS99 => ?_)
      clear hK K
      (try simp only [List.getElem_toArray, List.getElem_cons_succ, List.getElem_cons_zero, Act.put, List.setIfInBounds_toArray, List.set_cons_zero, List.set_cons_succ])
      replace XM := mkHid xm
      have ZF := mkHid zf
      clear xm zf Z7
      obtain ⟨v99, hV⟩ : ∃ V, (((v96.setCell ⟨G7, 0, none⟩ (.slice a l.length cap)).setCell ⟨G7, 1, none⟩ (.slice a' ts.length cap')).setCell ⟨G7, 2, none⟩ (.int .i64 r)) = V := ⟨_, rfl⟩
      rw [hV] at hd99 hS99 XM ZF ⊢
      clear hV
      refine wpAnyH_ready (rs := [3]) (by kernel_rfl) (by simp) ?_
      refine AllReadyH.cons (o := _) rfl (fun K hK => ?_) AllReadyH.nil
      go_simp
      try dsimp only
      have hge := hd99.size
      have hbv100 := (Below.refl v99.heap.size v99).new (.cells #[] 3)
      have hd100 := hd99.then hbv100
      replace XM := mkHid (XM.out.below hbv100)
      replace ZF := mkHid (ZF.out.below hbv100)
      clear hbv100
      refine hK.out _ _ (HS.out _ hd100) (fun hS100 => ?_)
      clear hK K
      (try simp only [List.getElem_toArray, List.getElem_cons_succ, List.getElem_cons_zero, Act.put, List.setIfInBounds_toArray, List.set_cons_zero, List.set_cons_succ])
      obtain ⟨v100, hV⟩ : ∃ V, v99.alloc (.cells #[] 3) = V := ⟨_, rfl⟩
      obtain ⟨GE, hG⟩ : ∃ V, v99.heap.size = V := ⟨_, rfl⟩
      rw [hV] at hd100 hS100 XM ZF ⊢
      rw [hG] at hge ⊢
      have NGE := mkHid hge
      clear hge hV hG
      refine wpAnyH_take (i := 8) (oi := _) (v := ?_) rfl (by kernel_rfl) (by kernel_rfl) (by kernel_rfl) (fun _ _ _ h => h) (Or.inl ⟨by rfl, ?_⟩) (by assumption) ?_
      rotate_left
      · (intro w' hSw; obtain ⟨q0, q1, q2⟩ := hSw; go_simp; try with_reducible rfl)
      (try simp only [List.getElem_toArray, List.getElem_cons_succ, List.getElem_cons_zero, Act.put, List.setIfInBounds_toArray, List.set_cons_zero, List.set_cons_succ])
      refine wpAnyH_done (by kernel_rfl) (NoPanic.normal ?_) _
      refine ⟨rfl, ?_⟩
      (repeat apply Exists.intro)
      exact ⟨rfl, ZF.out, XM.out, (fun e => HNE.out e.symm), NGM.out, NG7.out, hd100⟩
      refine AllReadyH.cons (o := _) rfl (fun K hK => ?_) AllReadyH.nil
      go_simp
      try dsimp only
      have hge := hd91.size
      have hbv101 := (Below.refl v91.heap.size v91).new (.cells #[] 3)
      have hd101 := hd91.then hbv101
      replace ZM := mkHid (ZM.out.below hbv101)
      replace Z7 := mkHid (Z7.out.below hbv101)
      clear hbv101
      refine hK.out _ _ (HS.out _ hd101) (fun hS101 => ?_)
      clear hK K
      (try simp only [List.getElem_toArray, List.getElem_cons_succ, List.getElem_cons_zero, Act.put, List.setIfInBounds_toArray, List.set_cons_zero, List.set_cons_succ])
      obtain ⟨v101, hV⟩ : ∃ V, v91.alloc (.cells #[] 3) = V := ⟨_, rfl⟩
      obtain ⟨GE, hG⟩ : ∃ V, v91.heap.size = V := ⟨_, rfl⟩
      rw [hV] at hd101 hS101 ZM Z7 ⊢
      rw [hG] at hge ⊢
      have NGE := mkHid hge
      clear hge hV hG
      refine wpAnyH_ready (rs := [1]) (by kernel_rfl) (by simp) ?_
      refine AllReadyH.cons (o := _) rfl (fun K hK => ?_) AllReadyH.nil
      go_simp
      refine (markK _ rfl rfl).mono ?_
      rintro e v102 ⟨ma, mc, rfl, hbv102⟩
      replace ZM := mkHid (ZM.out.below hbv102)
      replace Z7 := mkHid (Z7.out.below hbv102)
      have hd102 := hd101.then hbv102
      try dsimp only
      clear hbv102
      refine hK.out _ _ (HS.out _ hd102) (fun hS102 => ?_)
      clear hK K
      (try simp only [List.getElem_toArray, List.getElem_cons_succ, List.getElem_cons_zero, Act.put, List.setIfInBounds_toArray, List.set_cons_zero, List.set_cons_succ])
      refine wpAnyH_ready (rs := [6]) (by kernel_rfl) (by simp) ?_
      refine AllReadyH.cons (o := _) rfl (fun K hK => ?_) AllReadyH.nil
      have z0 := ZM.out.cell 0
      have z1 := ZM.out.cell 1
      have z2 := ZM.out.cell 2
      have y0 := ZM.out.froz 0
      have y1 := ZM.out.froz 1
      have y2 := ZM.out.froz 2
      simp only [List.getElem?_toArray, List.getElem?_cons_zero, List.getElem?_cons_succ] at z0 z1 z2
      go_simp
      try dsimp only
      have hd103 : Below w2.heap.size w2 (((v102.setCell ⟨GM, 0, none⟩ (.int .i64 (l.length : Int))).setCell ⟨GM, 1, none⟩ (.int .i64 (ts.length : Int))).setCell ⟨GM, 2, none⟩ (.slice ma 0 mc)) := hd102.trans ((set3 GM v102 _ _ _).mono NGM.out)
      clear z0 z1 z2 y0 y1 y2
      have hne := ZM.out.ne Z7.out
      have XM := mkHid (ZM.out.set3 (.int .i64 (l.length : Int)) (.int .i64 (ts.length : Int)) (.slice ma 0 mc))
      replace Z7 := mkHid (Z7.out.other hne (.int .i64 (l.length : Int)) (.int .i64 (ts.length : Int)) (.slice ma 0 mc))
      clear ZM
      have HNE := mkHid hne
      clear hne
      refine hK.out _ _ (HS.out _ hd103) (fun hS103 => ?_)
      clear hK K
      (try simp only [List.getElem_toArray, List.getElem_cons_succ, List.getElem_cons_zero, Act.put, List.setIfInBounds_toArray, List.set_cons_zero, List.set_cons_succ])
      obtain ⟨v103, hV⟩ : ∃ V, (((v102.setCell ⟨GM, 0, none⟩ (.int .i64 (l.length : Int))).setCell ⟨GM, 1, none⟩ (.int .i64 (ts.length : Int))).setCell ⟨GM, 2, none⟩ (.slice ma 0 mc)) = V := ⟨_, rfl⟩
      rw [hV] at hd103 hS103 XM Z7 ⊢
      clear hV
      refine wpAnyH_ready (rs := [7]) (by kernel_rfl) (by simp) ?_
      refine AllReadyH.cons (o := _) rfl (fun K hK => ?_) AllReadyH.nil
      have z0 := Z7.out.cell 0
      have z1 := Z7.out.cell 1
      have z2 := Z7.out.cell 2
      have y0 := Z7.out.froz 0
      have y1 := Z7.out.froz 1
      have y2 := Z7.out.froz 2
      simp only [List.getElem?_toArray, List.getElem?_cons_zero, List.getElem?_cons_succ] at z0 z1 z2
      go_simp
      try dsimp only
      have hd104 : Below w2.heap.size w2 (((v103.setCell ⟨G7, 0, none⟩ (.slice a l.length cap)).setCell ⟨G7, 1, none⟩ (.slice a' ts.length cap')).setCell ⟨G7, 2, none⟩ (.int .i64 r)) := hd103.trans ((set3 G7 v103 _ _ _).mono NG7.out)
      clear z0 z1 z2 y0 y1 y2
      have zf := Z7.out.put3 a l.length cap a' ts.length cap' r
      have xm := XM.out.ne (Oth.set3 v103 G7 (.slice a l.length cap) (.slice a' ts.length cap') (.int .i64 r)) (fun e => HNE.out e.symm)
      refine hK.out _ _ (HS.out _ hd104) (fun hS104 => ?_)
      clear hK K
      (try simp only [List.getElem_toArray, List.getElem_cons_succ, List.getElem_cons_zero, Act.put, List.setIfInBounds_toArray, List.set_cons_zero, List.set_cons_succ])
      replace XM := mkHid xm
      have ZF := mkHid zf
      clear xm zf Z7
      obtain ⟨v104, hV⟩ : ∃ V, (((v103.setCell ⟨G7, 0, none⟩ (.slice a l.length cap)).setCell ⟨G7, 1, none⟩ (.slice a' ts.length cap')).setCell ⟨G7, 2, none⟩ (.int .i64 r)) = V := ⟨_, rfl⟩
      rw [hV] at hd104 hS104 XM ZF ⊢
      clear hV
      refine wpAnyH_take (i := 8) (oi := _) (v := ?_) rfl (by kernel_rfl) (by kernel_rfl) (by kernel_rfl) (fun _ _ _ h => h) (Or.inl ⟨by rfl, ?_⟩) (by assumption) ?_
      rotate_left
      · (intro w' hSw; obtain ⟨q0, q1, q2⟩ := hSw; go_simp; try with_reducible rfl)
      (try simp only [List.getElem_toArray, List.getElem_cons_succ, List.getElem_cons_zero, Act.put, List.setIfInBounds_toArray, List.set_cons_zero, List.set_cons_succ])
      refine wpAnyH_done (by kernel_rfl) (NoPanic.normal ?_) _
      refine ⟨rfl, ?_⟩
      (repeat apply Exists.intro)
      exact ⟨rfl, ZF.out, XM.out, (fun e => HNE.out e.symm), NGM.out, NG7.out, hd104⟩
      refine AllReadyH.cons (o := _) rfl (fun K hK => ?_) AllReadyH.nil
      go_simp
      try dsimp only
      have q0 := ZB.new v0
      have hge := hd0.size
      have hbv105 := (Below.refl v0.heap.size v0).new (.cells #[.slice none 0 0, .slice none 0 0, .int .i64 0] 25)
      have hd105 := hd0.then hbv105
      clear hbv105
      refine hK.out _ _ (HS.out _ hd105) (fun hS105 => ?_)
      clear hK K
      (try simp only [List.getElem_toArray, List.getElem_cons_succ, List.getElem_cons_zero, Act.put, List.setIfInBounds_toArray, List.set_cons_zero, List.set_cons_succ])
      obtain ⟨v105, hV⟩ : ∃ V, v0.alloc (.cells #[.slice none 0 0, .slice none 0 0, .int .i64 0] 25) = V := ⟨_, rfl⟩
      obtain ⟨G7, hG⟩ : ∃ V, v0.heap.size = V := ⟨_, rfl⟩
      rw [hV] at hd105 hS105  q0 ⊢
      rw [hG] at hge q0 ⊢
      have NG7 := mkHid hge
      clear hge hV hG
      have Z7 := mkHid q0
      clear q0
      refine wpAnyH_ready (rs := [1, 3, 4]) (by kernel_rfl) (by simp) ?_
      refine AllReadyH.cons (o := _) rfl (fun K hK => ?_) ?_
      go_simp
      refine (markK _ rfl rfl).mono ?_
      rintro e v106 ⟨ma, mc, rfl, hbv106⟩
      replace Z7 := mkHid (Z7.out.below hbv106)
      have hd106 := hd105.then hbv106
      try dsimp only
      clear hbv106
      refine hK.out _ _ (HS.out _ hd106) (fun hS106 => ?_)
      clear hK K
      (try simp only [List.getElem_toArray, List.getElem_cons_succ, List.getElem_cons_zero, Act.put, List.setIfInBounds_toArray, List.set_cons_zero, List.set_cons_succ])
      refine wpAnyH_ready (rs := [3, 4]) (by kernel_rfl) (by simp) ?_
      refine AllReadyH.cons (o := _) rfl (fun K hK => ?_) ?_
      go_simp
      try dsimp only
      have hge := hd106.size
      have hbv107 := (Below.refl v106.heap.size v106).new (.cells #[] 3)
      have hd107 := hd106.then hbv107
      replace Z7 := mkHid (Z7.out.below hbv107)
      clear hbv107
      refine hK.out _ _ (HS.out _ hd107) (fun hS107 => ?_)
      clear hK K
      (try simp only [List.getElem_toArray, List.getElem_cons_succ, List.getElem_cons_zero, Act.put, List.setIfInBounds_toArray, List.set_cons_zero, List.set_cons_succ])
      obtain ⟨v107, hV⟩ : ∃ V, v106.alloc (.cells #[] 3) = V := ⟨_, rfl⟩
      obtain ⟨GE, hG⟩ : ∃ V, v106.heap.size = V := ⟨_, rfl⟩
      rw [hV] at hd107 hS107 Z7 ⊢
      rw [hG] at hge ⊢
      have NGE := mkHid hge
      clear hge hV hG
      refine wpAnyH_ready (rs := [4]) (by kernel_rfl) (by simp) ?_
      refine AllReadyH.cons (o := _) rfl (fun K hK => ?_) AllReadyH.nil
      go_simp
      try dsimp only
      have q0 := ZK.new v107
      have hge := hd107.size
      have hbv108 := (Below.refl v107.heap.size v107).new (.cells #[.int .i64 0, .int .i64 0, .slice none 0 0] 43)
      have hd108 := hd107.then hbv108
      replace Z7 := mkHid (Z7.out.below hbv108)
      clear hbv108
      refine hK.out _ _ (HS.out _ hd108) (fun hS108 => ?_)
      clear hK K
      (try simp only [List.getElem_toArray, List.getElem_cons_succ, List.getElem_cons_zero, Act.put, List.setIfInBounds_toArray, List.set_cons_zero, List.set_cons_succ])
      obtain ⟨v108, hV⟩ : ∃ V, v107.alloc (.cells #[.int .i64 0, .int .i64 0, .slice none 0 0] 43) = V := ⟨_, rfl⟩
      obtain ⟨GM, hG⟩ : ∃ V, v107.heap.size = V := ⟨_, rfl⟩
      rw [hV] at hd108 hS108 Z7 q0 ⊢
      rw [hG] at hge q0 ⊢
      have NGM := mkHid hge
      clear hge hV hG
      have ZM := mkHid q0
      clear q0
      refine wpAnyH_ready (rs := [6]) (by kernel_rfl) (by simp) ?_
      refine AllReadyH.cons (o := _) rfl (fun K hK => ?_) AllReadyH.nil
      have z0 := ZM.out.cell 0
      have z1 := ZM.out.cell 1
      have z2 := ZM.out.cell 2
      have y0 := ZM.out.froz 0
      have y1 := ZM.out.froz 1
      have y2 := ZM.out.froz 2
      simp only [List.getElem?_toArray, List.getElem?_cons_zero, List.getElem?_cons_succ] at z0 z1 z2
      go_simp
      try dsimp only
      have hd109 : Below w2.heap.size w2 (((v108.setCell ⟨GM, 0, none⟩ (.int .i64 (l.length : Int))).setCell ⟨GM, 1, none⟩ (.int .i64 (ts.length : Int))).setCell ⟨GM, 2, none⟩ (.slice ma 0 mc)) := hd108.trans ((set3 GM v108 _ _ _).mono NGM.out)
      clear z0 z1 z2 y0 y1 y2
      have hne := ZM.out.ne Z7.out
      have XM := mkHid (ZM.out.set3 (.int .i64 (l.length : Int)) (.int .i64 (ts.length : Int)) (.slice ma 0 mc))
      replace Z7 := mkHid (Z7.out.other hne (.int .i64 (l.length : Int)) (.int .i64 (ts.length : Int)) (.slice ma 0 mc))
      clear ZM
      have HNE := mkHid hne
      clear hne
      refine hK.out _ _ (HS.out _ hd109) (fun hS109 => ?_)
      clear hK K
      (try simp only [List.getElem_toArray, List.getElem_cons_succ, List.getElem_cons_zero, Act.put, List.setIfInBounds_toArray, List.set_cons_zero, List.set_cons_succ])
      obtain ⟨v109, hV⟩ : ∃ V, (((v108.setCell ⟨GM, 0, none⟩ (.int .i64 (l.length : Int))).setCell ⟨GM, 1, none⟩ (.int .i64 (ts.length : Int))).setCell ⟨GM, 2, none⟩ (.slice ma 0 mc)) = V := ⟨_, rfl⟩
      rw [hV] at hd109 hS109 XM Z7 ⊢
      clear hV
      refine wpAnyH_ready (rs := [7]) (by kernel_rfl) (by simp) ?_
      refine AllReadyH.cons (o := _) rfl (fun K hK => ?_) AllReadyH.nil
      have z0 := Z7.out.cell 0
      have z1 := Z7.out.cell 1
      have z2 := Z7.out.cell 2
      have y0 := Z7.out.froz 0
      have y1 := Z7.out.froz 1
      have y2 := Z7.out.froz 2
      simp only [List.getElem?_toArray, List.getElem?_cons_zero, List.getElem?_cons_succ] at z0 z1 z2
      go_simp
      try dsimp only
      have hd110 : Below w2.heap.size w2 (((v109.setCell ⟨G7, 0, none⟩ (.slice a l.length cap)).setCell ⟨G7, 1, none⟩ (.slice a' ts.length cap')).setCell ⟨G7, 2, none⟩ (.int .i64 r)) := hd109.trans ((set3 G7 v109 _ _ _).mono NG7.out)
      clear z0 z1 z2 y0 y1 y2
      have zf := Z7.out.put3 a l.length cap a' ts.length cap' r
      have xm := XM.out.ne (Oth.set3 v109 G7 (.slice a l.length cap) (.slice a' ts.length cap') (.int .i64 r)) (fun e => HNE.out e.symm)
      refine hK.out _ _ (HS.out _ hd110) (fun hS110 => ?_)
      clear hK K
      (try simp only [List.getElem_toArray, List.getElem_cons_succ, List.getElem_cons_zero, Act.put, List.setIfInBounds_toArray, List.set_cons_zero, List.set_cons_succ])
      replace XM := mkHid xm
      have ZF := mkHid zf
      clear xm zf Z7
      obtain ⟨v110, hV⟩ : ∃ V, (((v109.setCell ⟨G7, 0, none⟩ (.slice a l.length cap)).setCell ⟨G7, 1, none⟩ (.slice a' ts.length cap')).setCell ⟨G7, 2, none⟩ (.int .i64 r)) = V := ⟨_, rfl⟩
      rw [hV] at hd110 hS110 XM ZF ⊢
      clear hV
      refine wpAnyH_take (i := 8) (oi := _) (v := ?_) rfl (by kernel_rfl) (by kernel_rfl) (by kernel_rfl) (fun _ _ _ h => h) (Or.inl ⟨by rfl, ?_⟩) (by assumption) ?_
      rotate_left
      · (intro w' hSw; obtain ⟨q0, q1, q2⟩ := hSw; go_simp; try with_reducible rfl)
      (try simp only [List.getElem_toArray, List.getElem_cons_succ, List.getElem_cons_zero, Act.put, List.setIfInBounds_toArray, List.set_cons_zero, List.set_cons_succ])
      refine wpAnyH_done (by kernel_rfl) (NoPanic.normal ?_) _
      refine ⟨rfl, ?_⟩
      (repeat apply Exists.intro)
      exact ⟨rfl, ZF.out, XM.out, (fun e => HNE.out e.symm), NGM.out, NG7.out, hd110⟩
      refine AllReadyH.cons (o := _) rfl (fun K hK => ?_) AllReadyH.nil
      go_simp
      try dsimp only
      have q0 := ZK.new v106
      have hge := hd106.size
      have hbv111 := (Below.refl v106.heap.size v106).new (.cells #[.int .i64 0, .int .i64 0, .slice none 0 0] 43)
      have hd111 := hd106.then hbv111
      replace Z7 := mkHid (Z7.out.below hbv111)
      clear hbv111
      refine hK.out _ _ (HS.out _ hd111) (fun hS111 => ?_)
      clear hK K
      (try simp only [List.getElem_toArray, List.getElem_cons_succ, List.getElem_cons_zero, Act.put, List.setIfInBounds_toArray, List.set_cons_zero, List.set_cons_succ])
      obtain ⟨v111, hV⟩ : ∃ V, v106.alloc (.cells #[.int .i64 0, .int .i64 0, .slice none 0 0] 43) = V := ⟨_, rfl⟩
      obtain ⟨GM, hG⟩ : ∃ V, v106.heap.size = V := ⟨_, rfl⟩
      rw [hV] at hd111 hS111 Z7 q0 ⊢
      rw [hG] at hge q0 ⊢
      have NGM := mkHid hge
      clear hge hV hG
      have ZM := mkHid q0
      clear q0
      refine wpAnyH_ready (rs := [3, 6]) (by kernel_rfl) (by simp) ?_
      refine AllReadyH.cons (o := _) rfl (fun K hK => ?_) ?_
      go_simp
      try dsimp only
      have hge := hd111.size
      have hbv112 := (Below.refl v111.heap.size v111).new (.cells #[] 3)
      have hd112 := hd111.then hbv112
      replace Z7 := mkHid (Z7.out.below hbv112)
      replace ZM := mkHid (ZM.out.below hbv112)
      clear hbv112
      refine hK.out _ _ (HS.out _ hd112) (fun hS112 => ?_)
      clear hK K
      (try simp only [List.getElem_toArray, List.getElem_cons_succ, List.getElem_cons_zero, Act.put, List.setIfInBounds_toArray, List.set_cons_zero, List.set_cons_succ])
      obtain ⟨v112, hV⟩ : ∃ V, v111.alloc (.cells #[] 3) = V := ⟨_, rfl⟩
      obtain ⟨GE, hG⟩ : ∃ V, v111.heap.size = V := ⟨_, rfl⟩
      rw [hV] at hd112 hS112 Z7 ZM ⊢
      rw [hG] at hge ⊢
      have NGE := mkHid hge
      clear hge hV hG
      refine wpAnyH_ready (rs := [6]) (by kernel_rfl) (by simp) ?_
      refine AllReadyH.cons (o := _) rfl (fun K hK => ?_) AllReadyH.nil
      have z0 := ZM.out.cell 0
      have z1 := ZM.out.cell 1
      have z2 := ZM.out.cell 2
      have y0 := ZM.out.froz 0
      have y1 := ZM.out.froz 1
      have y2 := ZM.out.froz 2
      simp only [List.getElem?_toArray, List.getElem?_cons_zero, List.getElem?_cons_succ] at z0 z1 z2
      go_simp
      try dsimp only
      have hd113 : Below w2.heap.size w2 (((v112.setCell ⟨GM, 0, none⟩ (.int .i64 (l.length : Int))).setCell ⟨GM, 1, none⟩ (.int .i64 (ts.length : Int))).setCell ⟨GM, 2, none⟩ (.slice ma 0 mc)) := hd112.trans ((set3 GM v112 _ _ _).mono NGM.out)
      clear z0 z1 z2 y0 y1 y2
      have hne := ZM.out.ne Z7.out
      have XM := mkHid (ZM.out.set3 (.int .i64 (l.length : Int)) (.int .i64 (ts.length : Int)) (.slice ma 0 mc))
      replace Z7 := mkHid (Z7.out.other hne (.int .i64 (l.length : Int)) (.int .i64 (ts.length : Int)) (.slice ma 0 mc))
      clear ZM
      have HNE := mkHid hne
      clear hne
      refine hK.out _ _ (HS.out _ hd113) (fun hS113 => ?_)
      clear hK K
      (try simp only [List.getElem_toArray, List.getElem_cons_succ, List.getElem_cons_zero, Act.put, List.setIfInBounds_toArray, List.set_cons_zero, List.set_cons_succ])
      obtain ⟨v113, hV⟩ : ∃ V, (((v112.setCell ⟨GM, 0, none⟩ (.int .i64 (l.length : Int))).setCell ⟨GM, 1, none⟩ (.int .i64 (ts.length : Int))).setCell ⟨GM, 2, none⟩ (.slice ma 0 mc)) = V := ⟨_, rfl⟩
      rw [hV] at hd113 hS113 XM Z7 ⊢
      clear hV
      refine wpAnyH_ready (rs := [7]) (by kernel_rfl) (by simp) ?_
      refine AllReadyH.cons (o := _) rfl (fun K hK => ?_) AllReadyH.nil
      have z0 := Z7.out.cell 0
      have z1 := Z7.out.cell 1
      have z2 := Z7.out.cell 2
      have y0 := Z7.out.froz 0
      have y1 := Z7.out.froz 1
      have y2 := Z7.out.froz 2
      simp only [List.getElem?_toArray, List.getElem?_cons_zero, List.getElem?_cons_succ] at z0 z1 z2
      go_simp
      try dsimp only
      have hd114 : Below w2.heap.size w2 (((v113.setCell ⟨G7, 0, none⟩ (.slice a l.length cap)).setCell ⟨G7, 1, none⟩ (.slice a' ts.length cap')).setCell ⟨G7, 2, none⟩ (.int .i64 r)) := hd113.trans ((set3 G7 v113 _ _ _).mono NG7.out)
      clear z0 z1 z2 y0 y1 y2
      have zf := Z7.out.put3 a l.length cap a' ts.length cap' r
      have xm := XM.out.ne (Oth.set3 v113 G7 (.slice a l.length cap) (.slice a' ts.length cap') (.int .i64 r)) (fun e => HNE.out e.symm)
      refine hK.out _ _ (HS.out _ hd114) (fun hS114 => ?_)
      clear hK K
      (try simp only [List.getElem_toArray, List.getElem_cons_succ, List.getElem_cons_zero, Act.put, List.setIfInBounds_toArray, List.set_cons_zero, List.set_cons_succ])
      replace XM := mkHid xm
      have ZF := mkHid zf
      clear xm zf Z7
      obtain ⟨v114, hV⟩ : ∃ V, (((v113.setCell ⟨G7, 0, none⟩ (.slice a l.length cap)).setCell ⟨G7, 1, none⟩ (.slice a' ts.length cap')).setCell ⟨G7, 2, none⟩ (.int .i64 r)) = V := ⟨_, rfl⟩
      rw [hV] at hd114 hS114 XM ZF ⊢
      clear hV
      refine wpAnyH_take (i := 8) (oi := _) (v := ?_) rfl (by kernel_rfl) (by kernel_rfl) (by kernel_rfl) (fun _ _ _ h => h) (Or.inl ⟨by rfl, ?_⟩) (by assumption) ?_
      rotate_left
      · (intro w' hSw; obtain ⟨q0, q1, q2⟩ := hSw; go_simp; try with_reducible rfl)
      (try simp only [List.getElem_toArray, List.getElem_cons_succ, List.getElem_cons_zero, Act.put, List.setIfInBounds_toArray, List.set_cons_zero, List.set_cons_succ])
      refine wpAnyH_done (by kernel_rfl) (NoPanic.normal ?_) _
      refine ⟨rfl, ?_⟩
      (repeat apply Exists.intro)
      exact ⟨rfl, ZF.out, XM.out, (fun e => HNE.out e.symm), NGM.out, NG7.out, hd114⟩
      refine AllReadyH.cons (o := _) rfl (fun K hK => ?_) AllReadyH.nil
      have z0 := ZM.out.cell 0
      have z1 := ZM.out.cell 1
      have z2 := ZM.out.cell 2
      have y0 := ZM.out.froz 0
      have y1 := ZM.out.froz 1
      have y2 := ZM.out.froz 2
      simp only [List.getElem?_toArray, List.getElem?_cons_zero, List.getElem?_cons_succ] at z0 z1 z2
      go_simp
      try dsimp only
      have hd115 : Below w2.heap.size w2 (((v111.setCell ⟨GM, 0, none⟩ (.int .i64 (l.length : Int))).setCell ⟨GM, 1, none⟩ (.int .i64 (ts.length : Int))).setCell ⟨GM, 2, none⟩ (.slice ma 0 mc)) := hd111.trans ((set3 GM v111 _ _ _).mono NGM.out)
      clear z0 z1 z2 y0 y1 y2
      have hne := ZM.out.ne Z7.out
      have XM := mkHid (ZM.out.set3 (.int .i64 (l.length : Int)) (.int .i64 (ts.length : Int)) (.slice ma 0 mc))
      replace Z7 := mkHid (Z7.out.other hne (.int .i64 (l.length : Int)) (.int .i64 (ts.length : Int)) (.slice ma 0 mc))
      clear ZM
      have HNE := mkHid hne
      clear hne
      refine hK.out _ _ (HS.out _ hd115) (fun hS115 => ?_)
      clear hK K
      (try simp only [List.getElem_toArray, List.getElem_cons_succ, List.getElem_cons_zero, Act.put, List.setIfInBounds_toArray, List.set_cons_zero, List.set_cons_succ])
      obtain ⟨v115, hV⟩ : ∃ V, (((v111.setCell ⟨GM, 0, none⟩ (.int .i64 (l.length : Int))).setCell ⟨GM, 1, none⟩ (.int .i64 (ts.length : Int))).setCell ⟨GM, 2, none⟩ (.slice ma 0 mc)) = V := ⟨_, rfl⟩
      rw [hV] at hd115 hS115 XM Z7 ⊢
      clear hV
      refine wpAnyH_ready (rs := [3, 7]) (by kernel_rfl) (by simp) ?_
      refine AllReadyH.cons (o := _) rfl (fun K hK => ?_) ?_
      go_simp
      try dsimp only
      have hge := hd115.size
      have hbv116 := (Below.refl v115.heap.size v115).new (.cells #[] 3)
      have hd116 := hd115.then hbv116
      replace XM := mkHid (XM.out.below hbv116)
      replace Z7 := mkHid (Z7.out.below hbv116)
      clear hbv116
      refine hK.out _ _ (HS.out _ hd116) (fun hS116 => ?_)
      clear hK K
      (try simp only [List.getElem_toArray, List.getElem_cons_succ, List.getElem_cons_zero, Act.put, List.setIfInBounds_toArray, List.set_cons_zero, List.set_cons_succ])
      obtain ⟨v116, hV⟩ : ∃ V, v115.alloc (.cells #[] 3) = V := ⟨_, rfl⟩
      obtain ⟨GE, hG⟩ : ∃ V, v115.heap.size = V := ⟨_, rfl⟩
      rw [hV] at hd116 hS116 XM Z7 ⊢
      rw [hG] at hge ⊢
      have NGE := mkHid hge
      clear hge hV hG
      refine wpAnyH_ready (rs := [7]) (by kernel_rfl) (by simp) ?_
      refine AllReadyH.cons (o := _) rfl (fun K hK => ?_) AllReadyH.nil
      have z0 := Z7.out.cell 0
      have z1 := Z7.out.cell 1
      have z2 := Z7.out.cell 2
      have y0 := Z7.out.froz 0
      have y1 := Z7.out.froz 1
      have y2 := Z7.out.froz 2
      simp only [List.getElem?_toArray, List.getElem?_cons_zero, List.getElem?_cons_succ] at z0 z1 z2
      go_simp
      try dsimp only
      have hd117 : Below w2.heap.size w2 (((v116.setCell ⟨G7, 0, none⟩ (.slice a l.length cap)).setCell ⟨G7, 1, none⟩ (.slice a' ts.length cap')).setCell ⟨G7, 2, none⟩ (.int .i64 r)) := hd116.trans ((set3 G7 v116 _ _ _).mono NG7.out)
      clear z0 z1 z2 y0 y1 y2
      have zf := Z7.out.put3 a l.length cap a' ts.length cap' r
      have xm := XM.out.ne (Oth.set3 v116 G7 (.slice a l.length cap) (.slice a' ts.length cap') (.int .i64 r)) (fun e => HNE.out e.symm)
      refine hK.out _ _ (HS.out _ hd117) (fun hS117 => ?_)
      clear hK K
      (try simp only [List.getElem_toArray, List.getElem_cons_succ, List.getElem_cons_zero, Act.put, List.setIfInBounds_toArray, List.set_cons_zero, List.set_cons_succ])
      replace XM := mkHid xm
      have ZF := mkHid zf
      clear xm zf Z7
      obtain ⟨v117, hV⟩ : ∃ V, (((v116.setCell ⟨G7, 0, none⟩ (.slice a l.length cap)).setCell ⟨G7, 1, none⟩ (.slice a' ts.length cap')).setCell ⟨G7, 2, none⟩ (.int .i64 r)) = V := ⟨_, rfl⟩
      rw [hV] at hd117 hS117 XM ZF ⊢
      clear hV
      refine wpAnyH_take (i := 8) (oi := _) (v := ?_) rfl (by kernel_rfl) (by kernel_rfl) (by kernel_rfl) (fun _ _ _ h => h) (Or.inl ⟨by rfl, ?_⟩) (by assumption) ?_
      rotate_left
      · (intro w' hSw; obtain ⟨q0, q1, q2⟩ := hSw; go_simp; try with_reducible rfl)
      (try simp only [List.getElem_toArray, List.getElem_cons_succ, List.getElem_cons_zero, Act.put, List.setIfInBounds_toArray, List.set_cons_zero, List.set_cons_succ])
      refine wpAnyH_done (by kernel_rfl) (NoPanic.normal ?_) _
      refine ⟨rfl, ?_⟩
      (repeat apply Exists.intro)
      exact ⟨rfl, ZF.out, XM.out, (fun e => HNE.out e.symm), NGM.out, NG7.out, hd117⟩
      refine AllReadyH.cons (o := _) rfl (fun K hK => ?_) AllReadyH.nil
      have z0 := Z7.out.cell 0
      have z1 := Z7.out.cell 1
      have z2 := Z7.out.cell 2
      have y0 := Z7.out.froz 0
      have y1 := Z7.out.froz 1
      have y2 := Z7.out.froz 2
      simp only [List.getElem?_toArray, List.getElem?_cons_zero, List.getElem?_cons_succ] at z0 z1 z2
      go_simp
      try dsimp only
      have hd118 : Below w2.heap.size w2 (((v115.setCell ⟨G7, 0, none⟩ (.slice a l.length cap)).setCell ⟨G7, 1, none⟩ (.slice a' ts.length cap')).setCell ⟨G7, 2, none⟩ (.int .i64 r)) := hd115.trans ((set3 G7 v115 _ _ _).mono NG7.out)
      clear z0 z1 z2 y0 y1 y2
      have zf := Z7.out.put3 a l.length cap a' ts.length cap' r
      have xm := XM.out.ne (Oth.set3 v115 G7 (.slice a l.length cap) (.slice a' ts.length cap') (.int .i64 r)) (fun e => HNE.out e.symm)
      refine hK.out _ _ (HS.out _ hd118) (fun hS118 => ?_)
      clear hK K
      (try simp only [List.getElem_toArray, List.getElem_cons_succ, List.getElem_cons_zero, Act.put, List.setIfInBounds_toArray, List.set_cons_zero, List.set_cons_succ])
      replace XM := mkHid xm
      have ZF := mkHid zf
      clear xm zf Z7
      obtain ⟨v118, hV⟩ : ∃ V, (((v115.setCell ⟨G7, 0, none⟩ (.slice a l.length cap)).setCell ⟨G7, 1, none⟩ (.slice a' ts.length cap')).setCell ⟨G7, 2, none⟩ (.int .i64 r)) = V := ⟨_, rfl⟩
      rw [hV] at hd118 hS118 XM ZF ⊢
      clear hV
      refine wpAnyH_ready (rs := [3]) (by kernel_rfl) (by simp) ?_
      refine AllReadyH.cons (o := _) rfl (fun K hK => ?_) AllReadyH.nil
      go_simp
      try dsimp only
      have hge := hd118.size
      have hbv119 := (Below.refl v118.heap.size v118).new (.cells #[] 3)
      have hd119 := hd118.then hbv119
      replace XM := mkHid (XM.out.below hbv119)
      replace ZF := mkHid (ZF.out.below hbv119)
      clear hbv119
      refine hK.out _ _ (HS.out _ hd119) (fun hS119 => ?_)
      clear hK K
      (try simp only [List.getElem_toArray, List.getElem_cons_succ, List.getElem_cons_zero, Act.put, List.setIfInBounds_toArray, List.set_cons_zero, List.set_cons_succ])
      obtain ⟨v119, hV⟩ : ∃ V, v118.alloc (.cells #[] 3) = V := ⟨_, rfl⟩
      obtain ⟨GE, hG⟩ : ∃ V, v118.heap.size = V := ⟨_, rfl⟩
      rw [hV] at hd119 hS119 XM ZF ⊢
      rw [hG] at hge ⊢
      have NGE := mkHid hge
      clear hge hV hG
      refine wpAnyH_take (i := 8) (oi := _) (v := ?_) rfl (by kernel_rfl) (by kernel_rfl) (by kernel_rfl) (fun _ _ _ h => h) (Or.inl ⟨by rfl, ?_⟩) (by assumption) ?_
      rotate_left
      · (intro w' hSw; obtain ⟨q0, q1, q2⟩ := hSw; go_simp; try with_reducible rfl)
      (try simp only [List.getElem_toArray, List.getElem_cons_succ, List.getElem_cons_zero, Act.put, List.setIfInBounds_toArray, List.set_cons_zero, List.set_cons_succ])
      refine wpAnyH_done (by kernel_rfl) (NoPanic.normal ?_) _
      refine ⟨rfl, ?_⟩
      (repeat apply Exists.intro)
      exact ⟨rfl, ZF.out, XM.out, (fun e => HNE.out e.symm), NGM.out, NG7.out, hd119⟩
      refine AllReadyH.cons (o := _) rfl (fun K hK => ?_) ?_
      go_simp
      try dsimp only
      have hge := hd105.size
      have hbv120 := (Below.refl v105.heap.size v105).new (.cells #[] 3)
      have hd120 := hd105.then hbv120
      replace Z7 := mkHid (Z7.out.below hbv120)
      clear hbv120
      refine hK.out _ _ (HS.out _ hd120) (fun hS120 => ?_)
      clear hK K
      (try simp only [List.getElem_toArray, List.getElem_cons_succ, List.getElem_cons_zero, Act.put, List.setIfInBounds_toArray, List.set_cons_zero, List.set_cons_succ])
      obtain ⟨v120, hV⟩ : ∃ V, v105.alloc (.cells #[] 3) = V := ⟨_, rfl⟩
      obtain ⟨GE, hG⟩ : ∃ V, v105.heap.size = V := ⟨_, rfl⟩
      rw [hV] at hd120 hS120 Z7 ⊢
      rw [hG] at hge ⊢
      have NGE := mkHid hge
      clear hge hV hG
      refine wpAnyH_ready (rs := [1, 4]) (by kernel_rfl) (by simp) ?_
      refine AllReadyH.cons (o := _) rfl (fun K hK => ?_) ?_
      go_simp
      refine (markK _ rfl rfl).mono ?_
      rintro e v121 ⟨ma, mc, rfl, hbv121⟩
      replace Z7 := mkHid (Z7.out.below hbv121)
      have hd121 := hd120.then hbv121
      try dsimp only
      clear hbv121
      refine hK.out _ _ (HS.out _ hd121) (fun hS121 => ?_)
      clear hK K
      (try simp only [List.getElem_toArray, List.getElem_cons_succ, List.getElem_cons_zero, Act.put, List.setIfInBounds_toArray, List.set_cons_zero, List.set_cons_succ])
      refine wpAnyH_ready (rs := [4]) (by kernel_rfl) (by simp) ?_
      refine AllReadyH.cons (o := _) rfl (fun K hK => ?_) AllReadyH.nil
      go_simp
      try dsimp only
      have q0 := ZK.new v121
      have hge := hd121.size
      have hbv122 := (Below.refl v121.heap.size v121).new (.cells #[.int .i64 0, .int .i64 0, .slice none 0 0] 43)
      have hd122 := hd121.then hbv122
      replace Z7 := mkHid (Z7.out.below hbv122)
      clear hbv122
      refine hK.out _ _ (HS.out _ hd122) (fun hS122 => ?_)
      clear hK K
      (try simp only [List.getElem_toArray, List.getElem_cons_succ, List.getElem_cons_zero, Act.put, List.setIfInBounds_toArray, List.set_cons_zero, List.set_cons_succ])
      obtain ⟨v122, hV⟩ : ∃ V, v121.alloc (.cells #[.int .i64 0, .int .i64 0, .slice none 0 0] 43) = V := ⟨_, rfl⟩
      obtain ⟨GM, hG⟩ : ∃ V, v121.heap.size = V := ⟨_, rfl⟩
      rw [hV] at hd122 hS122 Z7 q0 ⊢
      rw [hG] at hge q0 ⊢
      have NGM := mkHid hge
      clear hge hV hG
      have ZM := mkHid q0
      clear q0
      refine wpAnyH_ready (rs := [6]) (by kernel_rfl) (by simp) ?_
      refine AllReadyH.cons (o := _) rfl (fun K hK => ?_) AllReadyH.nil
      have z0 := ZM.out.cell 0
      have z1 := ZM.out.cell 1
      have z2 := ZM.out.cell 2
      have y0 := ZM.out.froz 0
      have y1 := ZM.out.froz 1
      have y2 := ZM.out.froz 2
      simp only [List.getElem?_toArray, List.getElem?_cons_zero, List.getElem?_cons_succ] at z0 z1 z2
      go_simp
      try dsimp only
      have hd123 : Below w2.heap.size w2 (((v122.setCell ⟨GM, 0, none⟩ (.int .i64 (l.length : Int))).setCell ⟨GM, 1, none⟩ (.int .i64 (ts.length : Int))).setCell ⟨GM, 2, none⟩ (.slice ma 0 mc)) := hd122.trans ((set3 GM v122 _ _ _).mono NGM.out)
      clear z0 z1 z2 y0 y1 y2
      have hne := ZM.out.ne Z7.out
      have XM := mkHid (ZM.out.set3 (.int .i64 (l.length : Int)) (.int .i64 (ts.length : Int)) (.slice ma 0 mc))
      replace Z7 := mkHid (Z7.out.other hne (.int .i64 (l.length : Int)) (.int .i64 (ts.length : Int)) (.slice ma 0 mc))
      clear ZM
      have HNE := mkHid hne
      clear hne
      refine hK.out _ _ (HS.out _ hd123) (fun hS123 => ?_)
      clear hK K
      (try simp only [List.getElem_toArray, List.getElem_cons_succ, List.getElem_cons_zero, Act.put, List.setIfInBounds_toArray, List.set_cons_zero, List.set_cons_succ])
      obtain ⟨v123, hV⟩ : ∃ V, (((v122.setCell ⟨GM, 0, none⟩ (.int .i64 (l.length : Int))).setCell ⟨GM, 1, none⟩ (.int .i64 (ts.length : Int))).setCell ⟨GM, 2, none⟩ (.slice ma 0 mc)) = V := ⟨_, rfl⟩
      rw [hV] at hd123 hS123 XM Z7 ⊢
      clear hV
      refine wpAnyH_ready (rs := [7]) (by kernel_rfl) (by simp) ?_
      refine AllReadyH.cons (o := _) rfl (fun K hK => ?_) AllReadyH.nil
      have z0 := Z7.out.cell 0
      have z1 := Z7.out.cell 1
      have z2 := Z7.out.cell 2
      have y0 := Z7.out.froz 0
      have y1 := Z7.out.froz 1
      have y2 := Z7.out.froz 2
      simp only [List.getElem?_toArray, List.getElem?_cons_zero, List.getElem?_cons_succ] at z0 z1 z2
      go_simp
      try dsimp only
      have hd124 : Below w2.heap.size w2 (((v123.setCell ⟨G7, 0, none⟩ (.slice a l.length cap)).setCell ⟨G7, 1, none⟩ (.slice a' ts.length cap')).setCell ⟨G7, 2, none⟩ (.int .i64 r)) := hd123.trans ((set3 G7 v123 _ _ _).mono NG7.out)
      clear z0 z1 z2 y0 y1 y2
      have zf := Z7.out.put3 a l.length cap a' ts.length cap' r
      have xm := XM.out.ne (Oth.set3 v123 G7 (.slice a l.length cap) (.slice a' ts.length cap') (.int .i64 r)) (fun e => HNE.out e.symm)
      refine hK.out _ _ (HS.out _ hd124) (fun hS124 => ?_)
      clear hK K
      (try simp only [List.getElem_toArray, List.getElem_cons_succ, List.getElem_cons_zero, Act.put, List.setIfInBounds_toArray, List.set_cons_zero, List.set_cons_succ])
      replace XM := mkHid xm
      have ZF := mkHid zf
      clear xm zf Z7
      obtain ⟨v124, hV⟩ : ∃ V, (((v123.setCell ⟨G7, 0, none⟩ (.slice a l.length cap)).setCell ⟨G7, 1, none⟩ (.slice a' ts.length cap')).setCell ⟨G7, 2, none⟩ (.int .i64 r)) = V := ⟨_, rfl⟩
      rw [hV] at hd124 hS124 XM ZF ⊢
      clear hV
      refine wpAnyH_take (i := 8) (oi := _) (v := ?_) rfl (by kernel_rfl) (by kernel_rfl) (by kernel_rfl) (fun _ _ _ h => h) (Or.inl ⟨by rfl, ?_⟩) (by assumption) ?_
      rotate_left
      · (intro w' hSw; obtain ⟨q0, q1, q2⟩ := hSw; go_simp; try with_reducible rfl)
      (try simp only [List.getElem_toArray, List.getElem_cons_succ, List.getElem_cons_zero, Act.put, List.setIfInBounds_toArray, List.set_cons_zero, List.set_cons_succ])
      refine wpAnyH_done (by kernel_rfl) (NoPanic.normal ?_) _
      refine ⟨rfl, ?_⟩
      (repeat apply Exists.intro)
      exact ⟨rfl, ZF.out, XM.out, (fun e => HNE.out e.symm), NGM.out, NG7.out, hd124⟩
      refine AllReadyH.cons (o := _) rfl (fun K hK => ?_) AllReadyH.nil
      go_simp
      try dsimp only
      have q0 := ZK.new v120
      have hge := hd120.size
      have hbv125 := (Below.refl v120.heap.size v120).new (.cells #[.int .i64 0, .int .i64 0, .slice none 0 0] 43)
      have hd125 := hd120.then hbv125
      replace Z7 := mkHid (Z7.out.below hbv125)
      clear hbv125
      refine hK.out _ _ (HS.out _ hd125) (fun hS125 => ?_)
      clear hK K
      (try simp only [List.getElem_toArray, List.getElem_cons_succ, List.getElem_cons_zero, Act.put, List.setIfInBounds_toArray, List.set_cons_zero, List.set_cons_succ])
      obtain ⟨v125, hV⟩ : ∃ V, v120.alloc (.cells #[.int .i64 0, .int .i64 0, .slice none 0 0] 43) = V := ⟨_, rfl⟩
      obtain ⟨GM, hG⟩ : ∃ V, v120.heap.size = V := ⟨_, rfl⟩
      rw [hV] at hd125 hS125 Z7 q0 ⊢
      rw [hG] at hge q0 ⊢
      have NGM := mkHid hge
      clear hge hV hG
      have ZM := mkHid q0
      clear q0
      refine wpAnyH_ready (rs := [1]) (by kernel_rfl) (by simp) ?_
      refine AllReadyH.cons (o := _) rfl (fun K hK => ?_) AllReadyH.nil
      go_simp
      refine (markK _ rfl rfl).mono ?_
      rintro e v126 ⟨ma, mc, rfl, hbv126⟩
      replace Z7 := mkHid (Z7.out.below hbv126)
      replace ZM := mkHid (ZM.out.below hbv126)
      have hd126 := hd125.then hbv126
      try dsimp only
      clear hbv126
      refine hK.out _ _ (HS.out _ hd126) (fun hS126 => ?_)
      clear hK K
      (try simp only [List.getElem_toArray, List.getElem_cons_succ, List.getElem_cons_zero, Act.put, List.setIfInBounds_toArray, List.set_cons_zero, List.set_cons_succ])
      refine wpAnyH_ready (rs := [6]) (by kernel_rfl) (by simp) ?_
      refine AllReadyH.cons (o := _) rfl (fun K hK => ?_) AllReadyH.nil
      have z0 := ZM.out.cell 0
      have z1 := ZM.out.cell 1
      have z2 := ZM.out.cell 2
      have y0 := ZM.out.froz 0
      have y1 := ZM.out.froz 1
      have y2 := ZM.out.froz 2
      simp only [List.getElem?_toArray, List.getElem?_cons_zero, List.getElem?_cons_succ] at z0 z1 z2
      go_simp
      try dsimp only
      have hd127 : Below w2.heap.size w2 (((v126.setCell ⟨GM, 0, none⟩ (.int .i64 (l.length : Int))).setCell ⟨GM, 1, none⟩ (.int .i64 (ts.length : Int))).setCell ⟨GM, 2, none⟩ (.slice ma 0 mc)) := hd126.trans ((set3 GM v126 _ _ _).mono NGM.out)
      clear z0 z1 z2 y0 y1 y2
      have hne := ZM.out.ne Z7.out
      have XM := mkHid (ZM.out.set3 (.int .i64 (l.length : Int)) (.int .i64 (ts.length : Int)) (.slice ma 0 mc))
      replace Z7 := mkHid (Z7.out.other hne (.int .i64 (l.length : Int)) (.int .i64 (ts.length : Int)) (.slice ma 0 mc))
      clear ZM
      have HNE := mkHid hne
      clear hne
      refine hK.out _ _ (HS.out _ hd127) (fun hS127 => ?_)
      clear hK K
      (try simp only [List.getElem_toArray, List.getElem_cons_succ, List.getElem_cons_zero, Act.put, List.setIfInBounds_toArray, List.set_cons_zero, List.set_cons_succ])
      obtain ⟨v127, hV⟩ : ∃ V, (((v126.setCell ⟨GM, 0, none⟩ (.int .i64 (l.length : Int))).setCell ⟨GM, 1, none⟩ (.int .i64 (ts.length : Int))).setCell ⟨GM, 2, none⟩ (.slice ma 0 mc)) = V := ⟨_, rfl⟩
      rw [hV] at hd127 hS127 XM Z7 ⊢
      clear hV
      refine wpAnyH_ready (rs := [7]) (by kernel_rfl) (by simp) ?_
      refine AllReadyH.cons (o := _) rfl (fun K hK => ?_) AllReadyH.nil
      have z0 := Z7.out.cell 0
      have z1 := Z7.out.cell 1
      have z2 := Z7.out.cell 2
      have y0 := Z7.out.froz 0
      have y1 := Z7.out.froz 1
      have y2 := Z7.out.froz 2
      simp only [List.getElem?_toArray, List.getElem?_cons_zero, List.getElem?_cons_succ] at z0 z1 z2
      go_simp
      try dsimp only
      have hd128 : Below w2.heap.size w2 (((v127.setCell ⟨G7, 0, none⟩ (.slice a l.length cap)).setCell ⟨G7, 1, none⟩ (.slice a' ts.length cap')).setCell ⟨G7, 2, none⟩ (.int .i64 r)) := hd127.trans ((set3 G7 v127 _ _ _).mono NG7.out)
      clear z0 z1 z2 y0 y1 y2
      have zf := Z7.out.put3 a l.length cap a' ts.length cap' r
      have xm := XM.out.ne (Oth.set3 v127 G7 (.slice a l.length cap) (.slice a' ts.length cap') (.int .i64 r)) (fun e => HNE.out e.symm)
      refine hK.out _ _ (HS.out _ hd128) (fun hS128 => ?_)
      clear hK K
      (try simp only [List.getElem_toArray, List.getElem_cons_succ, List.getElem_cons_zero, Act.put, List.setIfInBounds_toArray, List.set_cons_zero, List.set_cons_succ])
      replace XM := mkHid xm
      have ZF := mkHid zf
      clear xm zf Z7
      obtain ⟨v128, hV⟩ : ∃ V, (((v127.setCell ⟨G7, 0, none⟩ (.slice a l.length cap)).setCell ⟨G7, 1, none⟩ (.slice a' ts.length cap')).setCell ⟨G7, 2, none⟩ (.int .i64 r)) = V := ⟨_, rfl⟩
      rw [hV] at hd128 hS128 XM ZF ⊢
      clear hV
      refine wpAnyH_take (i := 8) (oi := _) (v := ?_) rfl (by kernel_rfl) (by kernel_rfl) (by kernel_rfl) (fun _ _ _ h => h) (Or.inl ⟨by rfl, ?_⟩) (by assumption) ?_
      rotate_left
      · (intro w' hSw; obtain ⟨q0, q1, q2⟩ := hSw; go_simp; try with_reducible rfl)
      (try simp only [List.getElem_toArray, List.getElem_cons_succ, List.getElem_cons_zero, Act.put, List.setIfInBounds_toArray, List.set_cons_zero, List.set_cons_succ])
      refine wpAnyH_done (by kernel_rfl) (NoPanic.normal ?_) _
      refine ⟨rfl, ?_⟩
      (repeat apply Exists.intro)
      exact ⟨rfl, ZF.out, XM.out, (fun e => HNE.out e.symm), NGM.out, NG7.out, hd128⟩
      refine AllReadyH.cons (o := _) rfl (fun K hK => ?_) AllReadyH.nil
      go_simp
      try dsimp only
      have q0 := ZK.new v105
      have hge := hd105.size
      have hbv129 := (Below.refl v105.heap.size v105).new (.cells #[.int .i64 0, .int .i64 0, .slice none 0 0] 43)
      have hd129 := hd105.then hbv129
      replace Z7 := mkHid (Z7.out.below hbv129)
      clear hbv129
      refine hK.out _ _ (HS.out _ hd129) (fun hS129 => ?_)
      clear hK K
      (try simp only [List.getElem_toArray, List.getElem_cons_succ, List.getElem_cons_zero, Act.put, List.setIfInBounds_toArray, List.set_cons_zero, List.set_cons_succ])
      obtain ⟨v129, hV⟩ : ∃ V, v105.alloc (.cells #[.int .i64 0, .int .i64 0, .slice none 0 0] 43) = V := ⟨_, rfl⟩
      obtain ⟨GM, hG⟩ : ∃ V, v105.heap.size = V := ⟨_, rfl⟩
      rw [hV] at hd129 hS129 Z7 q0 ⊢
      rw [hG] at hge q0 ⊢
      have NGM := mkHid hge
      clear hge hV hG
      have ZM := mkHid q0
      clear q0
      refine wpAnyH_ready (rs := [1, 3]) (by kernel_rfl) (by simp) ?_
      refine AllReadyH.cons (o := _) rfl (fun K hK => ?_) ?_
      go_simp
      refine (markK _ rfl rfl).mono ?_
      rintro e v130 ⟨ma, mc, rfl, hbv130⟩
      replace Z7 := mkHid (Z7.out.below hbv130)
      replace ZM := mkHid (ZM.out.below hbv130)
      have hd130 := hd129.then hbv130
      try dsimp only
      clear hbv130
      refine hK.out _ _ (HS.out _ hd130) (fun hS130 => ?_)
      clear hK K
      (try simp only [List.getElem_toArray, List.getElem_cons_succ, List.getElem_cons_zero, Act.put, List.setIfInBounds_toArray, List.set_cons_zero, List.set_cons_succ])
      refine wpAnyH_ready (rs := [3, 6]) (by kernel_rfl) (by simp) ?_
      refine AllReadyH.cons (o := _) rfl (fun K hK => ?_) ?_
      go_simp
      try dsimp only
      have hge := hd130.size
      have hbv131 := (Below.refl v130.heap.size v130).new (.cells #[] 3)
      have hd131 := hd130.then hbv131
      replace Z7 := mkHid (Z7.out.below hbv131)
      replace ZM := mkHid (ZM.out.below hbv131)
      clear hbv131
      refine hK.out _ _ (HS.out _ hd131) (fun hS131 => ?_)
      clear hK K
      (try simp only [List.getElem_toArray, List.getElem_cons_succ, List.getElem_cons_zero, Act.put, List.setIfInBounds_toArray, List.set_cons_zero, List.set_cons_succ])
      obtain ⟨v131, hV⟩ : ∃ V, v130.alloc (.cells #[] 3) = V := ⟨_, rfl⟩
      obtain ⟨GE, hG⟩ : ∃ V, v130.heap.size = V := ⟨_, rfl⟩
      rw [hV] at hd131 hS131 Z7 ZM ⊢
      rw [hG] at hge ⊢
      have NGE := mkHid hge
      clear hge hV hG
      refine wpAnyH_ready (rs := [6]) (by kernel_rfl) (by simp) ?_
      refine AllReadyH.cons (o := _) rfl (fun K hK => ?_) AllReadyH.nil
      have z0 := ZM.out.cell 0
      have z1 := ZM.out.cell 1
      have z2 := ZM.out.cell 2
      have y0 := ZM.out.froz 0
      have y1 := ZM.out.froz 1
      have y2 := ZM.out.froz 2
      simp only [List.getElem?_toArray, List.getElem?_cons_zero, List.getElem?_cons_succ] at z0 z1 z2
      go_simp
      try dsimp only
      have hd132 : Below w2.heap.size w2 (((v131.setCell ⟨GM, 0, none⟩ (.int .i64 (l.length : Int))).setCell ⟨GM, 1, none⟩ (.int .i64 (ts.length : Int))).setCell ⟨GM, 2, none⟩ (.slice ma 0 mc)) := hd131.trans ((set3 GM v131 _ _ _).mono NGM.out)
      clear z0 z1 z2 y0 y1 y2
      have hne := ZM.out.ne Z7.out
      have XM := mkHid (ZM.out.set3 (.int .i64 (l.length : Int)) (.int .i64 (ts.length : Int)) (.slice ma 0 mc))
      replace Z7 := mkHid (Z7.out.other hne (.int .i64 (l.length : Int)) (.int .i64 (ts.length : Int)) (.slice ma 0 mc))
      clear ZM
      have HNE := mkHid hne
      clear hne
      refine hK.out _ _ (HS.out _ hd132) (fun hS132 => ?_)
      clear hK K
      (try simp only [List.getElem_toArray, List.getElem_cons_succ, List.getElem_cons_zero, Act.put, List.setIfInBounds_toArray, List.set_cons_zero, List.set_cons_succ])
      obtain ⟨v132, hV⟩ : ∃ V, (((v131.setCell ⟨GM, 0, none⟩ (.int .i64 (l.length : Int))).setCell ⟨GM, 1, none⟩ (.int .i64 (ts.length : Int))).setCell ⟨GM, 2, none⟩ (.slice ma 0 mc)) = V := ⟨_, rfl⟩
      rw [hV] at hd132 hS132 XM Z7 ⊢
      clear hV
      refine wpAnyH_ready (rs := [7]) (by kernel_rfl) (by simp) ?_
      refine AllReadyH.cons (o := _) rfl (fun K hK => ?_) AllReadyH.nil
      have z0 := Z7.out.cell 0
      have z1 := Z7.out.cell 1
      have z2 := Z7.out.cell 2
      have y0 := Z7.out.froz 0
      have y1 := Z7.out.froz 1
      have y2 := Z7.out.froz 2
      simp only [List.getElem?_toArray, List.getElem?_cons_zero, List.getElem?_cons_succ] at z0 z1 z2
      go_simp
      try dsimp only
      have hd133 : Below w2.heap.size w2 (((v132.setCell ⟨G7, 0, none⟩ (.slice a l.length cap)).setCell ⟨G7, 1, none⟩ (.slice a' ts.length cap')).setCell ⟨G7, 2, none⟩ (.int .i64 r)) := hd132.trans ((set3 G7 v132 _ _ _).mono NG7.out)
      clear z0 z1 z2 y0 y1 y2
      have zf := Z7.out.put3 a l.length cap a' ts.length cap' r
      have xm := XM.out.ne (Oth.set3 v132 G7 (.slice a l.length cap) (.slice a' ts.length cap') (.int .i64 r)) (fun e => HNE.out e.symm)
      refine hK.out _ _ (HS.out _ hd133) (fun hS133 => ?_)
      clear hK K
      (try simp only [List.getElem_toArray, List.getElem_cons_succ, List.getElem_cons_zero, Act.put, List.setIfInBounds_toArray, List.set_cons_zero, List.set_cons_succ])
      replace XM := mkHid xm
      have ZF := mkHid zf
      clear xm zf Z7
      obtain ⟨v133, hV⟩ : ∃ V, (((v132.setCell ⟨G7, 0, none⟩ (.slice a l.length cap)).setCell ⟨G7, 1, none⟩ (.slice a' ts.length cap')).setCell ⟨G7, 2, none⟩ (.int .i64 r)) = V := ⟨_, rfl⟩
      rw [hV] at hd133 hS133 XM ZF ⊢
      clear hV
      refine wpAnyH_take (i := 8) (oi := _) (v := ?_) rfl (by kernel_rfl) (by kernel_rfl) (by kernel_rfl) (fun _ _ _ h => h) (Or.inl ⟨by rfl, ?_⟩) (by assumption) ?_
      rotate_left
      · (intro w' hSw; obtain ⟨q0, q1, q2⟩ := hSw; go_simp; try with_reducible rfl)
      (try simp only [List.getElem_toArray, List.getElem_cons_succ, List.getElem_cons_zero, Act.put, List.setIfInBounds_toArray, List.set_cons_zero, List.set_cons_succ])
      refine wpAnyH_done (by kernel_rfl) (NoPanic.normal ?_) _
      refine ⟨rfl, ?_⟩
      (repeat apply Exists.intro)
      exact ⟨rfl, ZF.out, XM.out, (fun e => HNE.out e.symm), NGM.out, NG7.out, hd133⟩
      refine AllReadyH.cons (o := _) rfl (fun K hK => ?_) AllReadyH.nil
      have z0 := ZM.out.cell 0
      have z1 := ZM.out.cell 1
      have z2 := ZM.out.cell 2
      have y0 := ZM.out.froz 0
      have y1 := ZM.out.froz 1
      have y2 := ZM.out.froz 2
      simp only [List.getElem?_toArray, List.getElem?_cons_zero, List.getElem?_cons_succ] at z0 z1 z2
      go_simp
      try dsimp only
      have hd134 : Below w2.heap.size w2 (((v130.setCell ⟨GM, 0, none⟩ (.int .i64 (l.length : Int))).setCell ⟨GM, 1, none⟩ (.int .i64 (ts.length : Int))).setCell ⟨GM, 2, none⟩ (.slice ma 0 mc)) := hd130.trans ((set3 GM v130 _ _ _).mono NGM.out)
      clear z0 z1 z2 y0 y1 y2
      have hne := ZM.out.ne Z7.out
      have XM := mkHid (ZM.out.set3 (.int .i64 (l.length : Int)) (.int .i64 (ts.length : Int)) (.slice ma 0 mc))
      replace Z7 := mkHid (Z7.out.other hne (.int .i64 (l.length : Int)) (.int .i64 (ts.length : Int)) (.slice ma 0 mc))
      clear ZM
      have HNE := mkHid hne
      clear hne
      refine hK.out _ _ (HS.out _ hd134) (fun hS134 => ?_)
      clear hK K
      (try simp only [List.getElem_toArray, List.getElem_cons_succ, List.getElem_cons_zero, Act.put, List.setIfInBounds_toArray, List.set_cons_zero, List.set_cons_succ])
      obtain ⟨v134, hV⟩ : ∃ V, (((v130.setCell ⟨GM, 0, none⟩ (.int .i64 (l.length : Int))).setCell ⟨GM, 1, none⟩ (.int .i64 (ts.length : Int))).setCell ⟨GM, 2, none⟩ (.slice ma 0 mc)) = V := ⟨_, rfl⟩
      rw [hV] at hd134 hS134 XM Z7 ⊢
      clear hV
      refine wpAnyH_ready (rs := [3, 7]) (by kernel_rfl) (by simp) ?_
      refine AllReadyH.cons (o := _) rfl (fun K hK => ?_) ?_
      go_simp
      try dsimp only
      have hge := hd134.size
      have hbv135 := (Below.refl v134.heap.size v134).new (.cells #[] 3)
      have hd135 := hd134.then hbv135
      replace XM := mkHid (XM.out.below hbv135)
      replace Z7 := mkHid (Z7.out.below hbv135)
      clear hbv135
      refine hK.out _ _ (HS.out _ hd135) (fun hS135 => ?_)
      clear hK K
      (try simp only [List.getElem_toArray, List.getElem_cons_succ, List.getElem_cons_zero, Act.put, List.setIfInBounds_toArray, List.set_cons_zero, List.set_cons_succ])
      obtain ⟨v135, hV⟩ : ∃ V, v134.alloc (.cells #[] 3) = V := ⟨_, rfl⟩
      obtain ⟨GE, hG⟩ : ∃ V, v134.heap.size = V := ⟨_, rfl⟩
      rw [hV] at hd135 hS135 XM Z7 ⊢
      rw [hG] at hge ⊢
      have NGE := mkHid hge
      clear hge hV hG
      refine wpAnyH_ready (rs := [7]) (by kernel_rfl) (by simp) ?_
      refine AllReadyH.cons (o := _) rfl (fun K hK => ?_) AllReadyH.nil
      have z0 := Z7.out.cell 0
      have z1 := Z7.out.cell 1
      have z2 := Z7.out.cell 2
      have y0 := Z7.out.froz 0
      have y1 := Z7.out.froz 1
      have y2 := Z7.out.froz 2
      simp only [List.getElem?_toArray, List.getElem?_cons_zero, List.getElem?_cons_succ] at z0 z1 z2
      go_simp
      try dsimp only
      have hd136 : Below w2.heap.size w2 (((v135.setCell ⟨G7, 0, none⟩ (.slice a l.length cap)).setCell ⟨G7, 1, none⟩ (.slice a' ts.length cap')).setCell ⟨G7, 2, none⟩ (.int .i64 r)) := hd135.trans ((set3 G7 v135 _ _ _).mono NG7.out)
      clear z0 z1 z2 y0 y1 y2
      have zf := Z7.out.put3 a l.length cap a' ts.length cap' r
      have xm := XM.out.ne (Oth.set3 v135 G7 (.slice a l.length cap) (.slice a' ts.length cap') (.int .i64 r)) (fun e => HNE.out e.symm)
      refine hK.out _ _ (HS.out _ hd136) (fun hS136 => ?_)
      clear hK K
      (try simp only [List.getElem_toArray, List.getElem_cons_succ, List.getElem_cons_zero, Act.put, List.setIfInBounds_toArray, List.set_cons_zero, List.set_cons_succ])
      replace XM := mkHid xm
      have ZF := mkHid zf
      clear xm zf Z7
      obtain ⟨v136, hV⟩ : ∃ V, (((v135.setCell ⟨G7, 0, none⟩ (.slice a l.length cap)).setCell ⟨G7, 1, none⟩ (.slice a' ts.length cap')).setCell ⟨G7, 2, none⟩ (.int .i64 r)) = V := ⟨_, rfl⟩
      rw [hV] at hd136 hS136 XM ZF ⊢
      clear hV
      refine wpAnyH_take (i := 8) (oi := _) (v := ?_) rfl (by kernel_rfl) (by kernel_rfl) (by kernel_rfl) (fun _ _ _ h => h) (Or.inl ⟨by rfl, ?_⟩) (by assumption) ?_
      rotate_left
      · (intro w' hSw; obtain ⟨q0, q1, q2⟩ := hSw; go_simp; try with_reducible rfl)
      (try simp only [List.getElem_toArray, List.getElem_cons_succ, List.getElem_cons_zero, Act.put, List.setIfInBounds_toArray, List.set_cons_zero, List.set_cons_succ])
      refine wpAnyH_done (by kernel_rfl) (NoPanic.normal ?_) _
      refine ⟨rfl, ?_⟩
      (repeat apply Exists.intro)
      exact ⟨rfl, ZF.out, XM.out, (fun e => HNE.out e.symm), NGM.out, NG7.out, hd136⟩
      refine AllReadyH.cons (o := _) rfl (fun K hK => ?_) AllReadyH.nil
      have z0 := Z7.out.cell 0
      have z1 := Z7.out.cell 1
      have z2 := Z7.out.cell 2
      have y0 := Z7.out.froz 0
      have y1 := Z7.out.froz 1
      have y2 := Z7.out.froz 2
      simp only [List.getElem?_toArray, List.getElem?_cons_zero, List.getElem?_cons_succ] at z0 z1 z2
      go_simp
      try dsimp only
      have hd137 : Below w2.heap.size w2 (((v134.setCell ⟨G7, 0, none⟩ (.slice a l.length cap)).setCell ⟨G7, 1, none⟩ (.slice a' ts.length cap')).setCell ⟨G7, 2, none⟩ (.int .i64 r)) := hd134.trans ((set3 G7 v134 _ _ _).mono NG7.out)
      clear z0 z1 z2 y0 y1 y2
      have zf := Z7.out.put3 a l.length cap a' ts.length cap' r
      have xm := XM.out.ne (Oth.set3 v134 G7 (.slice a l.length cap) (.slice a' ts.length cap') (.int .i64 r)) (fun e => HNE.out e.symm)
      refine hK.out _ _ (HS.out _ hd137) (fun hS137 => ?_)
      clear hK K
      (try simp only [List.getElem_toArray, List.getElem_cons_succ, List.getElem_cons_zero, Act.put, List.setIfInBounds_toArray, List.set_cons_zero, List.set_cons_succ])
      replace XM := mkHid xm
      have ZF := mkHid zf
      clear xm zf Z7
      obtain ⟨v137, hV⟩ : ∃ V, (((v134.setCell ⟨G7, 0, none⟩ (.slice a l.length cap)).setCell ⟨G7, 1, none⟩ (.slice a' ts.length cap')).setCell ⟨G7, 2, none⟩ (.int .i64 r)) = V := ⟨_, rfl⟩
      rw [hV] at hd137 hS137 XM ZF ⊢
      clear hV
      refine wpAnyH_ready (rs := [3]) (by kernel_rfl) (by simp) ?_
      refine AllReadyH.cons (o := _) rfl (fun K hK => ?_) AllReadyH.nil
      go_simp
      try dsimp only
      have hge := hd137.size
      have hbv138 := (Below.refl v137.heap.size v137).new (.cells #[] 3)
      have hd138 := hd137.then hbv138
      replace XM := mkHid (XM.out.below hbv138)
      replace ZF := mkHid (ZF.out.below hbv138)
      clear hbv138
      refine hK.out _ _ (HS.out _ hd138) (fun hS138 => ?_)
      clear hK K
      (try simp only [List.getElem_toArray, List.getElem_cons_succ, List.getElem_cons_zero, Act.put, List.setIfInBounds_toArray, List.set_cons_zero, List.set_cons_succ])
      obtain ⟨v138, hV⟩ : ∃ V, v137.alloc (.cells #[] 3) = V := ⟨_, rfl⟩
      obtain ⟨GE, hG⟩ : ∃ V, v137.heap.size = V := ⟨_, rfl⟩
      rw [hV] at hd138 hS138 XM ZF ⊢
      rw [hG] at hge ⊢
      have NGE := mkHid hge
      clear hge hV hG
      refine wpAnyH_take (i := 8) (oi := _) (v := ?_) rfl (by kernel_rfl) (by kernel_rfl) (by kernel_rfl) (fun _ _ _ h => h) (Or.inl ⟨by rfl, ?_⟩) (by assumption) ?_
      rotate_left
      · (intro w' hSw; obtain ⟨q0, q1, q2⟩ := hSw; go_simp; try with_reducible rfl)
      (try simp only [List.getElem_toArray, List.getElem_cons_succ, List.getElem_cons_zero, Act.put, List.setIfInBounds_toArray, List.set_cons_zero, List.set_cons_succ])
      refine wpAnyH_done (by kernel_rfl) (NoPanic.normal ?_) _
      refine ⟨rfl, ?_⟩
      (repeat apply Exists.intro)
      exact ⟨rfl, ZF.out, XM.out, (fun e => HNE.out e.symm), NGM.out, NG7.out, hd138⟩
      refine AllReadyH.cons (o := _) rfl (fun K hK => ?_) AllReadyH.nil
      go_simp
      try dsimp only
      have hge := hd129.size
      have hbv139 := (Below.refl v129.heap.size v129).new (.cells #[] 3)
      have hd139 := hd129.then hbv139
      replace Z7 := mkHid (Z7.out.below hbv139)
      replace ZM := mkHid (ZM.out.below hbv139)
      clear hbv139
      refine hK.out _ _ (HS.out _ hd139) (fun hS139 => ?_)
      clear hK K
      (try simp only [List.getElem_toArray, List.getElem_cons_succ, List.getElem_cons_zero, Act.put, List.setIfInBounds_toArray, List.set_cons_zero, List.set_cons_succ])
      obtain ⟨v139, hV⟩ : ∃ V, v129.alloc (.cells #[] 3) = V := ⟨_, rfl⟩
      obtain ⟨GE, hG⟩ : ∃ V, v129.heap.size = V := ⟨_, rfl⟩
      rw [hV] at hd139 hS139 Z7 ZM ⊢
      rw [hG] at hge ⊢
      have NGE := mkHid hge
      clear hge hV hG
      refine wpAnyH_ready (rs := [1]) (by kernel_rfl) (by simp) ?_
      refine AllReadyH.cons (o := _) rfl (fun K hK => ?_) AllReadyH.nil
      go_simp
      refine (markK _ rfl rfl).mono ?_
      rintro e v140 ⟨ma, mc, rfl, hbv140⟩
      replace Z7 := mkHid (Z7.out.below hbv140)
      replace ZM := mkHid (ZM.out.below hbv140)
      have hd140 := hd139.then hbv140
      try dsimp only
      clear hbv140
      refine hK.out _ _ (HS.out _ hd140) (fun hS140 => ?_)
      clear hK K
      (try simp only [List.getElem_toArray, List.getElem_cons_succ, List.getElem_cons_zero, Act.put, List.setIfInBounds_toArray, List.set_cons_zero, List.set_cons_succ])
      refine wpAnyH_ready (rs := [6]) (by kernel_rfl) (by simp) ?_
      refine AllReadyH.cons (o := _) rfl (fun K hK => ?_) AllReadyH.nil
      have z0 := ZM.out.cell 0
      have z1 := ZM.out.cell 1
      have z2 := ZM.out.cell 2
      have y0 := ZM.out.froz 0
      have y1 := ZM.out.froz 1
      have y2 := ZM.out.froz 2
      simp only [List.getElem?_toArray, List.getElem?_cons_zero, List.getElem?_cons_succ] at z0 z1 z2
      go_simp
      try dsimp only
      have hd141 : Below w2.heap.size w2 (((v140.setCell ⟨GM, 0, none⟩ (.int .i64 (l.length : Int))).setCell ⟨GM, 1, none⟩ (.int .i64 (ts.length : Int))).setCell ⟨GM, 2, none⟩ (.slice ma 0 mc)) := hd140.trans ((set3 GM v140 _ _ _).mono NGM.out)
      clear z0 z1 z2 y0 y1 y2
      have hne := ZM.out.ne Z7.out
      have XM := mkHid (ZM.out.set3 (.int .i64 (l.length : Int)) (.int .i64 (ts.length : Int)) (.slice ma 0 mc))
      replace Z7 := mkHid (Z7.out.other hne (.int .i64 (l.length : Int)) (.int .i64 (ts.length : Int)) (.slice ma 0 mc))
      clear ZM
      have HNE := mkHid hne
      clear hne
      refine hK.out _ _ (HS.out _ hd141) (fun hS141 => ?_)
      clear hK K
      (try simp only [List.getElem_toArray, List.getElem_cons_succ, List.getElem_cons_zero, Act.put, List.setIfInBounds_toArray, List.set_cons_zero, List.set_cons_succ])
      obtain ⟨v141, hV⟩ : ∃ V, (((v140.setCell ⟨GM, 0, none⟩ (.int .i64 (l.length : Int))).setCell ⟨GM, 1, none⟩ (.int .i64 (ts.length : Int))).setCell ⟨GM, 2, none⟩ (.slice ma 0 mc)) = V := ⟨_, rfl⟩
      rw [hV] at hd141 hS141 XM Z7 ⊢
      clear hV
      refine wpAnyH_ready (rs := [7]) (by kernel_rfl) (by simp) ?_
      refine AllReadyH.cons (o := _) rfl (fun K hK => ?_) AllReadyH.nil
      have z0 := Z7.out.cell 0
      have z1 := Z7.out.cell 1
      have z2 := Z7.out.cell 2
      have y0 := Z7.out.froz 0
      have y1 := Z7.out.froz 1
      have y2 := Z7.out.froz 2
      simp only [List.getElem?_toArray, List.getElem?_cons_zero, List.getElem?_cons_succ] at z0 z1 z2
      go_simp
      try dsimp only
      have hd142 : Below w2.heap.size w2 (((v141.setCell ⟨G7, 0, none⟩ (.slice a l.length cap)).setCell ⟨G7, 1, none⟩ (.slice a' ts.length cap')).setCell ⟨G7, 2, none⟩ (.int .i64 r)) := hd141.trans ((set3 G7 v141 _ _ _).mono NG7.out)
      clear z0 z1 z2 y0 y1 y2
      have zf := Z7.out.put3 a l.length cap a' ts.length cap' r
      have xm := XM.out.ne (Oth.set3 v141 G7 (.slice a l.length cap) (.slice a' ts.length cap') (.int .i64 r)) (fun e => HNE.out e.symm)
      refine hK.out _ _ (HS.out _ hd142) (fun hS142 => ?_)
      clear hK K
      (try simp only [List.getElem_toArray, List.getElem_cons_succ, List.getElem_cons_zero, Act.put, List.setIfInBounds_toArray, List.set_cons_zero, List.set_cons_succ])
      replace XM := mkHid xm
      have ZF := mkHid zf
      clear xm zf Z7
      obtain ⟨v142, hV⟩ : ∃ V, (((v141.setCell ⟨G7, 0, none⟩ (.slice a l.length cap)).setCell ⟨G7, 1, none⟩ (.slice a' ts.length cap')).setCell ⟨G7, 2, none⟩ (.int .i64 r)) = V := ⟨_, rfl⟩
      rw [hV] at hd142 hS142 XM ZF ⊢
      clear hV
      refine wpAnyH_take (i := 8) (oi := _) (v := ?_) rfl (by kernel_rfl) (by kernel_rfl) (by kernel_rfl) (fun _ _ _ h => h) (Or.inl ⟨by rfl, ?_⟩) (by assumption) ?_
      rotate_left
      · (intro w' hSw; obtain ⟨q0, q1, q2⟩ := hSw; go_simp; try with_reducible rfl)
      (try simp only [List.getElem_toArray, List.getElem_cons_succ, List.getElem_cons_zero, Act.put, List.setIfInBounds_toArray, List.set_cons_zero, List.set_cons_succ])
      refine wpAnyH_done (by kernel_rfl) (NoPanic.normal ?_) _
      refine ⟨rfl, ?_⟩
      (repeat apply Exists.intro)
      exact ⟨rfl, ZF.out, XM.out, (fun e => HNE.out e.symm), NGM.out, NG7.out, hd142⟩
    rintro ev A' w3 ⟨rfl, e21, e22, e23, GE, GM, G7, ma, mc, rfl, z7, xm, hne, hgm, hg7, hw3⟩
    subst hA4
    simp only [Act.put, List.setIfInBounds_toArray, List.set_cons_zero, List.set_cons_succ]
    have q2 : B0 < G7 ∧ w.heap.size ≤ G7 ∧ GM ≠ G7 := ⟨by have := X0.out.lt; omega, by have := HB.out.size; omega, hne⟩
    replace HR := mkHid (HR.out.below hw3)
    replace HT := mkHid (HT.out.below hw3)
    replace X0 := mkHid (X0.out.below hw3)
    replace HB := mkHid (HB.out.then hw3)
    clear hw3
    have Z7 := mkHid z7
    have XM := mkHid xm
    have N7 := mkHid q2
    clear z7 xm hne hgm hg7 q2
    have HL0 : Hid (HLoopU w w3 G7 r l ts 0 l ts [] a cap a' cap' (some ⟨GE, 0, none⟩) 0) := ⟨Z7.out, HR.out, HT.out, Row.empty _ _ _ (by omega) (fun e => by cases e), few_of_slots HMP.out.2.2.slots, PlOk.nil _, by simp, HMP.out.2.2.few, by omega, trail_ne HMP.out.2.2, ⟨[], Und.refl _ _⟩, HB.out⟩
    go_wp2_with fail
    go_loopw [8, 9] (fun v i wr => ∃ (m : Nat) (xs : List Cel) (us ps : List Int) (ag : Option Addr) (cg : Nat) (tg : Option Addr) (ct : Nat) (pa : Option Addr) (pc : Nat), i = .int .i64 m ∧ v = .slice pa ps.length pc ∧ m ≤ 20 ∧ Hid (HLoopU w wr G7 r l ts m xs us ps ag cg tg ct pa pc) ∧ Hid (C38 wr B0 (.slice a l.length cap) (.slice a' ts.length cap') (.int .i64 r)) ∧ Hid (C38 wr GM (.int .i64 (l.length : Int)) (.int .i64 (ts.length : Int)) (.slice ma 0 mc))) (fun v i wr => 20 - (intOf i).toNat)
    case atStart => exact ⟨0, l, ts, [], a, cap, a', cap', some ⟨GE, 0, none⟩, 0, rfl, rfl, by omega, HL0.out, X0.out, XM.out⟩
    case round =>
      obtain ⟨m, xs, us, ps, ag, cg, tg, ct, pa, pc, rfl, rfl, hm20, HL, X0r, XMr⟩ := hrel
      clear HL0 X0 XM Z7 HB
      have HLs := HL
      have hmx := HL.out.rx.max
      have hmu := HL.out.ru.max
      have hmp := HL.out.rp.max
      have hlx := HL.out.rx.le
      have hlu := HL.out.ru.le
      have hlp := HL.out.rp.le
      have Z7 := mkHid HL.out.z
      have X7 := mkHid HL.out.z.c38
      have RX := mkHid HL.out.rx
      have RU := mkHid HL.out.ru
      have RP := mkHid HL.out.rp
      have HB := mkHid HL.out.below
      have HFW := mkHid HL.out.few
      have HPL := mkHid HL.out.pl
      have HUN := mkHid HL.out.une
      have HUD := mkHid HL.out.und
      have hps := HL.out.sh
      have hxr := HL.out.le
      have hu4 := HL.out.le2
      have hx4 : xs.length ≤ 4096 := by have := HMP.out.2.2.r2; omega
      have X0 := X0r
      have XM := XMr
      clear HL HLs X0r XMr
      by_cases hlt : (m : Int) < ops.length
      rotate_left
      · skip
        replace HR := mkHid (HR0.out.below HB.out)
        replace HT := mkHid (HT0.out.below HB.out)
        go_wp2_with fail
        have HS : Hid (∀ X, Below wr.heap.size wr X → (fun X => C38 X G7 (.slice ag xs.length cg) (.slice tg us.length ct) (.int .i64 r) ∧ C38 X B0 (.slice a l.length cap) (.slice a' ts.length cap') (.int .i64 r) ∧ C38 X GM (.int .i64 (l.length : Int)) (.int .i64 (ts.length : Int)) (.slice ma 0 mc)) X) := fun X h => ⟨X7.out.below h, X0.out.below h, XM.out.below h⟩
        have hd0 : Below wr.heap.size wr wr.drew := (Below.refl _ _).drew
        refine wp_region_noPanic ?_
        refine wp_region_held_drew (S := fun X => C38 X G7 (.slice ag xs.length cg) (.slice tg us.length ct) (.int .i64 r) ∧ C38 X B0 (.slice a l.length cap) (.slice a' ts.length cap') (.int .i64 r) ∧ C38 X GM (.int .i64 (l.length : Int)) (.int .i64 (ts.length : Int)) (.slice ma 0 mc)) (by kernel_rfl) (HS.out _ hd0) (fun hSd => ?_)
        obtain ⟨v0, hx0⟩ : ∃ X, wr.drew = X := ⟨_, rfl⟩
        rw [hx0] at hd0 hSd ⊢
        clear hx0
        refine wpAnyH_take (i := 0) (oi := _) (v := ?_) rfl (by kernel_rfl) (by kernel_rfl) (by kernel_rfl) (fun _ _ _ h => h) (Or.inl ⟨by rfl, ?_⟩) (by assumption) ?_
        rotate_left
        · (intro w' hSw; obtain ⟨⟨q0, q1, q2⟩, ⟨q3, q4, q5⟩, ⟨q6, q7, q8⟩⟩ := hSw; go_simp; try with_reducible rfl)
        (try simp only [List.getElem_toArray, List.getElem_cons_succ, List.getElem_cons_zero, Act.put, List.setIfInBounds_toArray, List.set_cons_zero, List.set_cons_succ])
        refine wpAnyH_take (i := 1) (oi := _) (v := ?_) rfl (by kernel_rfl) (by kernel_rfl) (by kernel_rfl) (fun _ _ _ h => h) (Or.inl ⟨by rfl, ?_⟩) (by assumption) ?_
        rotate_left
        · (intro w' hSw; obtain ⟨⟨q0, q1, q2⟩, ⟨q3, q4, q5⟩, ⟨q6, q7, q8⟩⟩ := hSw; go_simp; try with_reducible rfl)
        (try simp only [List.getElem_toArray, List.getElem_cons_succ, List.getElem_cons_zero, Act.put, List.setIfInBounds_toArray, List.set_cons_zero, List.set_cons_succ])
        refine wpAnyH_take (i := 2) (oi := _) (v := ?_) rfl (by kernel_rfl) (by kernel_rfl) (by kernel_rfl) (fun _ _ _ h => h) (Or.inl ⟨by rfl, ?_⟩) (by assumption) ?_
        rotate_left
        · (intro w' hSw; obtain ⟨⟨q0, q1, q2⟩, ⟨q3, q4, q5⟩, ⟨q6, q7, q8⟩⟩ := hSw; go_simp; try with_reducible rfl)
        (try simp only [List.getElem_toArray, List.getElem_cons_succ, List.getElem_cons_zero, Act.put, List.setIfInBounds_toArray, List.set_cons_zero, List.set_cons_succ])
        refine wpAnyH_take (i := 3) (oi := _) (v := ?_) rfl (by kernel_rfl) (by kernel_rfl) (by kernel_rfl) (fun _ _ _ h => h) (Or.inl ⟨by rfl, ?_⟩) (by assumption) ?_
        rotate_left
        · (intro w' hSw; obtain ⟨⟨q0, q1, q2⟩, ⟨q3, q4, q5⟩, ⟨q6, q7, q8⟩⟩ := hSw; go_simp; try with_reducible rfl)
        (try simp only [List.getElem_toArray, List.getElem_cons_succ, List.getElem_cons_zero, Act.put, List.setIfInBounds_toArray, List.set_cons_zero, List.set_cons_succ])
        refine wpAnyH_take (i := 4) (oi := _) (v := ?_) rfl (by kernel_rfl) (by kernel_rfl) (by kernel_rfl) (fun _ _ _ h => h) (Or.inl ⟨by rfl, ?_⟩) (by assumption) ?_
        rotate_left
        · (intro w' hSw; obtain ⟨⟨q0, q1, q2⟩, ⟨q3, q4, q5⟩, ⟨q6, q7, q8⟩⟩ := hSw; go_simp; try with_reducible rfl)
        (try simp only [List.getElem_toArray, List.getElem_cons_succ, List.getElem_cons_zero, Act.put, List.setIfInBounds_toArray, List.set_cons_zero, List.set_cons_succ])
        refine wpAnyH_take (i := 5) (oi := _) (v := .bool true) rfl (by kernel_rfl) (by kernel_rfl) (by kernel_rfl) (fun _ _ _ h => h) (Or.inl ⟨by rfl, ?_⟩) (by assumption) ?_
        · (intro w' hSw; obtain ⟨⟨q0, q1, q2⟩, ⟨q3, q4, q5⟩, ⟨q6, q7, q8⟩⟩ := hSw; go_simp; try (first | with_reducible rfl | (simp)))
        (try simp only [List.getElem_toArray, List.getElem_cons_succ, List.getElem_cons_zero, Act.put, List.setIfInBounds_toArray, List.set_cons_zero, List.set_cons_succ])
        refine wpAnyH_take (i := 6) (oi := _) (v := ?_) rfl (by kernel_rfl) (by kernel_rfl) (by kernel_rfl) (fun _ _ _ h => h) (Or.inl ⟨by rfl, ?_⟩) (by assumption) ?_
        rotate_left
        · (intro w' hSw; obtain ⟨⟨q0, q1, q2⟩, ⟨q3, q4, q5⟩, ⟨q6, q7, q8⟩⟩ := hSw; go_simp; try with_reducible rfl)
        (try simp only [List.getElem_toArray, List.getElem_cons_succ, List.getElem_cons_zero, Act.put, List.setIfInBounds_toArray, List.set_cons_zero, List.set_cons_succ])
        refine wpAnyH_take (i := 7) (oi := _) (v := ?_) rfl (by kernel_rfl) (by kernel_rfl) (by kernel_rfl) (fun _ _ _ h => h) (Or.inl ⟨by rfl, ?_⟩) (by assumption) ?_
        rotate_left
        · (intro w' hSw; obtain ⟨⟨q0, q1, q2⟩, ⟨q3, q4, q5⟩, ⟨q6, q7, q8⟩⟩ := hSw; go_simp; try with_reducible rfl)
        (try simp only [List.getElem_toArray, List.getElem_cons_succ, List.getElem_cons_zero, Act.put, List.setIfInBounds_toArray, List.set_cons_zero, List.set_cons_succ])
        refine wpAnyH_take (i := 8) (oi := _) (v := ?_) rfl (by kernel_rfl) (by kernel_rfl) (by kernel_rfl) (fun _ _ _ h => h) (Or.inl ⟨by rfl, ?_⟩) (by assumption) ?_
        rotate_left
        · (intro w' hSw; obtain ⟨⟨q0, q1, q2⟩, ⟨q3, q4, q5⟩, ⟨q6, q7, q8⟩⟩ := hSw; go_simp; try with_reducible rfl)
        (try simp only [List.getElem_toArray, List.getElem_cons_succ, List.getElem_cons_zero, Act.put, List.setIfInBounds_toArray, List.set_cons_zero, List.set_cons_succ])
        refine wpAnyH_take (i := 9) (oi := _) (v := ?_) rfl (by kernel_rfl) (by kernel_rfl) (by kernel_rfl) (fun _ _ _ h => h) (Or.inl ⟨by rfl, ?_⟩) (by assumption) ?_
        rotate_left
        · (intro w' hSw; obtain ⟨⟨q0, q1, q2⟩, ⟨q3, q4, q5⟩, ⟨q6, q7, q8⟩⟩ := hSw; go_simp; try with_reducible rfl)
        (try simp only [List.getElem_toArray, List.getElem_cons_succ, List.getElem_cons_zero, Act.put, List.setIfInBounds_toArray, List.set_cons_zero, List.set_cons_succ])
        refine wpAnyH_take (i := 10) (oi := _) (v := ?_) rfl (by kernel_rfl) (by kernel_rfl) (by kernel_rfl) (fun _ _ _ h => h) (Or.inl ⟨by rfl, ?_⟩) (by assumption) ?_
        rotate_left
        · (intro w' hSw; obtain ⟨⟨q0, q1, q2⟩, ⟨q3, q4, q5⟩, ⟨q6, q7, q8⟩⟩ := hSw; go_simp; try with_reducible rfl)
        (try simp only [List.getElem_toArray, List.getElem_cons_succ, List.getElem_cons_zero, Act.put, List.setIfInBounds_toArray, List.set_cons_zero, List.set_cons_succ])
        refine wpAnyH_take (i := 11) (oi := _) (v := ?_) rfl (by kernel_rfl) (by kernel_rfl) (by kernel_rfl) (fun _ _ _ h => h) (Or.inl ⟨by rfl, ?_⟩) (by assumption) ?_
        rotate_left
        · (intro w' hSw; obtain ⟨⟨q0, q1, q2⟩, ⟨q3, q4, q5⟩, ⟨q6, q7, q8⟩⟩ := hSw; go_simp; try with_reducible rfl)
        (try simp only [List.getElem_toArray, List.getElem_cons_succ, List.getElem_cons_zero, Act.put, List.setIfInBounds_toArray, List.set_cons_zero, List.set_cons_succ])
        refine wpAnyH_take (i := 12) (oi := _) (v := .bool true) rfl (by kernel_rfl) (by kernel_rfl) (by kernel_rfl) (fun _ _ _ h => h) (Or.inl ⟨by rfl, ?_⟩) (by assumption) ?_
        · (intro w' hSw; obtain ⟨⟨q0, q1, q2⟩, ⟨q3, q4, q5⟩, ⟨q6, q7, q8⟩⟩ := hSw; go_simp; try (first | with_reducible rfl | (simp)))
        (try simp only [List.getElem_toArray, List.getElem_cons_succ, List.getElem_cons_zero, Act.put, List.setIfInBounds_toArray, List.set_cons_zero, List.set_cons_succ])
        refine wpAnyH_take (i := 13) (oi := _) (v := ?_) rfl (by kernel_rfl) (by kernel_rfl) (by kernel_rfl) (fun _ _ _ h => h) (Or.inl ⟨by rfl, ?_⟩) (by assumption) ?_
        rotate_left
        · (intro w' hSw; obtain ⟨⟨q0, q1, q2⟩, ⟨q3, q4, q5⟩, ⟨q6, q7, q8⟩⟩ := hSw; go_simp; try with_reducible rfl)
        (try simp only [List.getElem_toArray, List.getElem_cons_succ, List.getElem_cons_zero, Act.put, List.setIfInBounds_toArray, List.set_cons_zero, List.set_cons_succ])
        refine wpAnyH_take (i := 14) (oi := _) (v := ?_) rfl (by kernel_rfl) (by kernel_rfl) (by kernel_rfl) (fun _ _ _ h => h) (Or.inl ⟨by rfl, ?_⟩) (by assumption) ?_
        rotate_left
        · (intro w' hSw; obtain ⟨⟨q0, q1, q2⟩, ⟨q3, q4, q5⟩, ⟨q6, q7, q8⟩⟩ := hSw; go_simp; try with_reducible rfl)
        (try simp only [List.getElem_toArray, List.getElem_cons_succ, List.getElem_cons_zero, Act.put, List.setIfInBounds_toArray, List.set_cons_zero, List.set_cons_succ])
        refine wpAnyH_take (i := 15) (oi := _) (v := ?_) rfl (by kernel_rfl) (by kernel_rfl) (by kernel_rfl) (fun _ _ _ h => h) (Or.inl ⟨by rfl, ?_⟩) (by assumption) ?_
        rotate_left
        · (intro w' hSw; obtain ⟨⟨q0, q1, q2⟩, ⟨q3, q4, q5⟩, ⟨q6, q7, q8⟩⟩ := hSw; go_simp; try with_reducible rfl)
        (try simp only [List.getElem_toArray, List.getElem_cons_succ, List.getElem_cons_zero, Act.put, List.setIfInBounds_toArray, List.set_cons_zero, List.set_cons_succ])
        refine wpAnyH_take (i := 16) (oi := _) (v := ?_) rfl (by kernel_rfl) (by kernel_rfl) (by kernel_rfl) (fun _ _ _ h => h) (Or.inl ⟨by rfl, ?_⟩) (by assumption) ?_
        rotate_left
        · (intro w' hSw; obtain ⟨⟨q0, q1, q2⟩, ⟨q3, q4, q5⟩, ⟨q6, q7, q8⟩⟩ := hSw; go_simp; try with_reducible rfl)
        (try simp only [List.getElem_toArray, List.getElem_cons_succ, List.getElem_cons_zero, Act.put, List.setIfInBounds_toArray, List.set_cons_zero, List.set_cons_succ])
        refine wpAnyH_take (i := 18) (oi := _) (v := ?_) rfl (by kernel_rfl) (by kernel_rfl) (by kernel_rfl) (fun _ _ _ h => h) (Or.inl ⟨by rfl, ?_⟩) (by assumption) ?_
        rotate_left
        · (intro w' hSw; obtain ⟨⟨q0, q1, q2⟩, ⟨q3, q4, q5⟩, ⟨q6, q7, q8⟩⟩ := hSw; go_simp; try with_reducible rfl)
        (try simp only [List.getElem_toArray, List.getElem_cons_succ, List.getElem_cons_zero, Act.put, List.setIfInBounds_toArray, List.set_cons_zero, List.set_cons_succ])
        refine wpAnyH_ready (rs := [17]) (by kernel_rfl) (by simp) ?_
        refine AllReadyH.cons (o := _) rfl (fun K hK => ?_) AllReadyH.nil
        go_simp
        refine (undoU HUD.out (RX.out.below hd0) (RU.out.below hd0) (by omega) (by omega)).mono ?_
        rintro e v1 ⟨u1, u2, u3, u4, rfl, zr, zs, hbv1⟩
        have hd1 := hd0.then hbv1
        have ZR := mkHid zr
        clear zr
        have ZS := mkHid zs
        clear zs
        try dsimp only
        refine hK.out _ _ (HS.out _ hd1) (fun hS1 => ?_)
        clear hK K hbv1
        (try simp only [List.getElem_toArray, List.getElem_cons_succ, List.getElem_cons_zero, Act.put, List.setIfInBounds_toArray, List.set_cons_zero, List.set_cons_succ])
        refine wpAnyH_ready (rs := [19]) (by kernel_rfl) (by simp) ?_
        refine AllReadyH.cons (o := _) rfl (fun K hK => ?_) AllReadyH.nil
        go_simp
        refine (sameK ZR.out (HR.out.below hd1) ZS.out (HT.out.below hd1) rfl rfl).mono ?_
        rintro e v2 ⟨rfl, hbv2⟩
        have hd2 := hd1.then hbv2
        try dsimp only
        refine hK.out _ _ (HS.out _ hd2) (fun hS2 => ?_)
        clear hK K hbv2
        (try simp only [List.getElem_toArray, List.getElem_cons_succ, List.getElem_cons_zero, Act.put, List.setIfInBounds_toArray, List.set_cons_zero, List.set_cons_succ])
        refine wpAnyH_take (i := 20) (oi := _) (v := ?_) rfl (by kernel_rfl) (by kernel_rfl) (by kernel_rfl) (fun _ _ _ h => h) (Or.inl ⟨by rfl, ?_⟩) (by assumption) ?_
        rotate_left
        · (intro w' hSw; obtain ⟨⟨q0, q1, q2⟩, ⟨q3, q4, q5⟩, ⟨q6, q7, q8⟩⟩ := hSw; go_simp; try with_reducible rfl)
        (try simp only [List.getElem_toArray, List.getElem_cons_succ, List.getElem_cons_zero, Act.put, List.setIfInBounds_toArray, List.set_cons_zero, List.set_cons_succ])
        refine wpAnyH_take (i := 21) (oi := _) (v := ?_) rfl (by kernel_rfl) (by kernel_rfl) (by kernel_rfl) (fun _ _ _ h => h) (Or.inl ⟨by rfl, ?_⟩) (by assumption) ?_
        rotate_left
        · (intro w' hSw; obtain ⟨⟨q0, q1, q2⟩, ⟨q3, q4, q5⟩, ⟨q6, q7, q8⟩⟩ := hSw; go_simp; try with_reducible rfl)
        (try simp only [List.getElem_toArray, List.getElem_cons_succ, List.getElem_cons_zero, Act.put, List.setIfInBounds_toArray, List.set_cons_zero, List.set_cons_succ])
        refine wpAnyH_take (i := 22) (oi := _) (v := ?_) rfl (by kernel_rfl) (by kernel_rfl) (by kernel_rfl) (fun _ _ _ h => h) (Or.inl ⟨by rfl, ?_⟩) (by assumption) ?_
        rotate_left
        · (intro w' hSw; obtain ⟨⟨q0, q1, q2⟩, ⟨q3, q4, q5⟩, ⟨q6, q7, q8⟩⟩ := hSw; go_simp; try with_reducible rfl)
        (try simp only [List.getElem_toArray, List.getElem_cons_succ, List.getElem_cons_zero, Act.put, List.setIfInBounds_toArray, List.set_cons_zero, List.set_cons_succ])
        refine wpAnyH_take (i := 23) (oi := _) (v := ?_) rfl (by kernel_rfl) (by kernel_rfl) (by kernel_rfl) (fun _ _ _ h => h) (Or.inl ⟨by rfl, ?_⟩) (by assumption) ?_
        rotate_left
        · (intro w' hSw; obtain ⟨⟨q0, q1, q2⟩, ⟨q3, q4, q5⟩, ⟨q6, q7, q8⟩⟩ := hSw; go_simp; try with_reducible rfl)
        (try simp only [List.getElem_toArray, List.getElem_cons_succ, List.getElem_cons_zero, Act.put, List.setIfInBounds_toArray, List.set_cons_zero, List.set_cons_succ])
        refine wpAnyH_take (i := 24) (oi := _) (v := ?_) rfl (by kernel_rfl) (by kernel_rfl) (by kernel_rfl) (fun _ _ _ h => h) (Or.inl ⟨by rfl, ?_⟩) (by assumption) ?_
        rotate_left
        · (intro w' hSw; obtain ⟨⟨q0, q1, q2⟩, ⟨q3, q4, q5⟩, ⟨q6, q7, q8⟩⟩ := hSw; go_simp; try with_reducible rfl)
        (try simp only [List.getElem_toArray, List.getElem_cons_succ, List.getElem_cons_zero, Act.put, List.setIfInBounds_toArray, List.set_cons_zero, List.set_cons_succ])
        refine wpAnyH_done (by kernel_rfl) (NoPanic.normal ?_) _
        have HZ := mkHid (HB.out.then hd2)
        go_wp2_with fail
        go_ret
        exact ⟨ret_bool rfl, HZ.out⟩
      by_cases hlt2 : (m : Int) < 20
      rotate_left
      · skip
        replace HR := mkHid (HR0.out.below HB.out)
        replace HT := mkHid (HT0.out.below HB.out)
        go_wp2_with fail
        have HS : Hid (∀ X, Below wr.heap.size wr X → (fun X => C38 X G7 (.slice ag xs.length cg) (.slice tg us.length ct) (.int .i64 r) ∧ C38 X B0 (.slice a l.length cap) (.slice a' ts.length cap') (.int .i64 r) ∧ C38 X GM (.int .i64 (l.length : Int)) (.int .i64 (ts.length : Int)) (.slice ma 0 mc)) X) := fun X h => ⟨X7.out.below h, X0.out.below h, XM.out.below h⟩
        have hd0 : Below wr.heap.size wr wr.drew := (Below.refl _ _).drew
        refine wp_region_noPanic ?_
        refine wp_region_held_drew (S := fun X => C38 X G7 (.slice ag xs.length cg) (.slice tg us.length ct) (.int .i64 r) ∧ C38 X B0 (.slice a l.length cap) (.slice a' ts.length cap') (.int .i64 r) ∧ C38 X GM (.int .i64 (l.length : Int)) (.int .i64 (ts.length : Int)) (.slice ma 0 mc)) (by kernel_rfl) (HS.out _ hd0) (fun hSd => ?_)
        obtain ⟨v0, hx0⟩ : ∃ X, wr.drew = X := ⟨_, rfl⟩
        rw [hx0] at hd0 hSd ⊢
        clear hx0
        refine wpAnyH_take (i := 0) (oi := _) (v := ?_) rfl (by kernel_rfl) (by kernel_rfl) (by kernel_rfl) (fun _ _ _ h => h) (Or.inl ⟨by rfl, ?_⟩) (by assumption) ?_
        rotate_left
        · (intro w' hSw; obtain ⟨⟨q0, q1, q2⟩, ⟨q3, q4, q5⟩, ⟨q6, q7, q8⟩⟩ := hSw; go_simp; try with_reducible rfl)
        (try simp only [List.getElem_toArray, List.getElem_cons_succ, List.getElem_cons_zero, Act.put, List.setIfInBounds_toArray, List.set_cons_zero, List.set_cons_succ])
        refine wpAnyH_take (i := 1) (oi := _) (v := ?_) rfl (by kernel_rfl) (by kernel_rfl) (by kernel_rfl) (fun _ _ _ h => h) (Or.inl ⟨by rfl, ?_⟩) (by assumption) ?_
        rotate_left
        · (intro w' hSw; obtain ⟨⟨q0, q1, q2⟩, ⟨q3, q4, q5⟩, ⟨q6, q7, q8⟩⟩ := hSw; go_simp; try with_reducible rfl)
        (try simp only [List.getElem_toArray, List.getElem_cons_succ, List.getElem_cons_zero, Act.put, List.setIfInBounds_toArray, List.set_cons_zero, List.set_cons_succ])
        refine wpAnyH_take (i := 2) (oi := _) (v := ?_) rfl (by kernel_rfl) (by kernel_rfl) (by kernel_rfl) (fun _ _ _ h => h) (Or.inl ⟨by rfl, ?_⟩) (by assumption) ?_
        rotate_left
        · (intro w' hSw; obtain ⟨⟨q0, q1, q2⟩, ⟨q3, q4, q5⟩, ⟨q6, q7, q8⟩⟩ := hSw; go_simp; try with_reducible rfl)
        (try simp only [List.getElem_toArray, List.getElem_cons_succ, List.getElem_cons_zero, Act.put, List.setIfInBounds_toArray, List.set_cons_zero, List.set_cons_succ])
        refine wpAnyH_take (i := 3) (oi := _) (v := ?_) rfl (by kernel_rfl) (by kernel_rfl) (by kernel_rfl) (fun _ _ _ h => h) (Or.inl ⟨by rfl, ?_⟩) (by assumption) ?_
        rotate_left
        · (intro w' hSw; obtain ⟨⟨q0, q1, q2⟩, ⟨q3, q4, q5⟩, ⟨q6, q7, q8⟩⟩ := hSw; go_simp; try with_reducible rfl)
        (try simp only [List.getElem_toArray, List.getElem_cons_succ, List.getElem_cons_zero, Act.put, List.setIfInBounds_toArray, List.set_cons_zero, List.set_cons_succ])
        refine wpAnyH_take (i := 4) (oi := _) (v := ?_) rfl (by kernel_rfl) (by kernel_rfl) (by kernel_rfl) (fun _ _ _ h => h) (Or.inl ⟨by rfl, ?_⟩) (by assumption) ?_
        rotate_left
        · (intro w' hSw; obtain ⟨⟨q0, q1, q2⟩, ⟨q3, q4, q5⟩, ⟨q6, q7, q8⟩⟩ := hSw; go_simp; try with_reducible rfl)
        (try simp only [List.getElem_toArray, List.getElem_cons_succ, List.getElem_cons_zero, Act.put, List.setIfInBounds_toArray, List.set_cons_zero, List.set_cons_succ])
        refine wpAnyH_take (i := 5) (oi := _) (v := .bool true) rfl (by kernel_rfl) (by kernel_rfl) (by kernel_rfl) (fun _ _ _ h => h) (Or.inl ⟨by rfl, ?_⟩) (by assumption) ?_
        · (intro w' hSw; obtain ⟨⟨q0, q1, q2⟩, ⟨q3, q4, q5⟩, ⟨q6, q7, q8⟩⟩ := hSw; go_simp; try (first | with_reducible rfl | (simp)))
        (try simp only [List.getElem_toArray, List.getElem_cons_succ, List.getElem_cons_zero, Act.put, List.setIfInBounds_toArray, List.set_cons_zero, List.set_cons_succ])
        refine wpAnyH_take (i := 6) (oi := _) (v := ?_) rfl (by kernel_rfl) (by kernel_rfl) (by kernel_rfl) (fun _ _ _ h => h) (Or.inl ⟨by rfl, ?_⟩) (by assumption) ?_
        rotate_left
        · (intro w' hSw; obtain ⟨⟨q0, q1, q2⟩, ⟨q3, q4, q5⟩, ⟨q6, q7, q8⟩⟩ := hSw; go_simp; try with_reducible rfl)
        (try simp only [List.getElem_toArray, List.getElem_cons_succ, List.getElem_cons_zero, Act.put, List.setIfInBounds_toArray, List.set_cons_zero, List.set_cons_succ])
        refine wpAnyH_take (i := 7) (oi := _) (v := ?_) rfl (by kernel_rfl) (by kernel_rfl) (by kernel_rfl) (fun _ _ _ h => h) (Or.inl ⟨by rfl, ?_⟩) (by assumption) ?_
        rotate_left
        · (intro w' hSw; obtain ⟨⟨q0, q1, q2⟩, ⟨q3, q4, q5⟩, ⟨q6, q7, q8⟩⟩ := hSw; go_simp; try with_reducible rfl)
        (try simp only [List.getElem_toArray, List.getElem_cons_succ, List.getElem_cons_zero, Act.put, List.setIfInBounds_toArray, List.set_cons_zero, List.set_cons_succ])
        refine wpAnyH_take (i := 8) (oi := _) (v := ?_) rfl (by kernel_rfl) (by kernel_rfl) (by kernel_rfl) (fun _ _ _ h => h) (Or.inl ⟨by rfl, ?_⟩) (by assumption) ?_
        rotate_left
        · (intro w' hSw; obtain ⟨⟨q0, q1, q2⟩, ⟨q3, q4, q5⟩, ⟨q6, q7, q8⟩⟩ := hSw; go_simp; try with_reducible rfl)
        (try simp only [List.getElem_toArray, List.getElem_cons_succ, List.getElem_cons_zero, Act.put, List.setIfInBounds_toArray, List.set_cons_zero, List.set_cons_succ])
        refine wpAnyH_take (i := 9) (oi := _) (v := ?_) rfl (by kernel_rfl) (by kernel_rfl) (by kernel_rfl) (fun _ _ _ h => h) (Or.inl ⟨by rfl, ?_⟩) (by assumption) ?_
        rotate_left
        · (intro w' hSw; obtain ⟨⟨q0, q1, q2⟩, ⟨q3, q4, q5⟩, ⟨q6, q7, q8⟩⟩ := hSw; go_simp; try with_reducible rfl)
        (try simp only [List.getElem_toArray, List.getElem_cons_succ, List.getElem_cons_zero, Act.put, List.setIfInBounds_toArray, List.set_cons_zero, List.set_cons_succ])
        refine wpAnyH_take (i := 10) (oi := _) (v := ?_) rfl (by kernel_rfl) (by kernel_rfl) (by kernel_rfl) (fun _ _ _ h => h) (Or.inl ⟨by rfl, ?_⟩) (by assumption) ?_
        rotate_left
        · (intro w' hSw; obtain ⟨⟨q0, q1, q2⟩, ⟨q3, q4, q5⟩, ⟨q6, q7, q8⟩⟩ := hSw; go_simp; try with_reducible rfl)
        (try simp only [List.getElem_toArray, List.getElem_cons_succ, List.getElem_cons_zero, Act.put, List.setIfInBounds_toArray, List.set_cons_zero, List.set_cons_succ])
        refine wpAnyH_take (i := 11) (oi := _) (v := ?_) rfl (by kernel_rfl) (by kernel_rfl) (by kernel_rfl) (fun _ _ _ h => h) (Or.inl ⟨by rfl, ?_⟩) (by assumption) ?_
        rotate_left
        · (intro w' hSw; obtain ⟨⟨q0, q1, q2⟩, ⟨q3, q4, q5⟩, ⟨q6, q7, q8⟩⟩ := hSw; go_simp; try with_reducible rfl)
        (try simp only [List.getElem_toArray, List.getElem_cons_succ, List.getElem_cons_zero, Act.put, List.setIfInBounds_toArray, List.set_cons_zero, List.set_cons_succ])
        refine wpAnyH_take (i := 12) (oi := _) (v := .bool true) rfl (by kernel_rfl) (by kernel_rfl) (by kernel_rfl) (fun _ _ _ h => h) (Or.inl ⟨by rfl, ?_⟩) (by assumption) ?_
        · (intro w' hSw; obtain ⟨⟨q0, q1, q2⟩, ⟨q3, q4, q5⟩, ⟨q6, q7, q8⟩⟩ := hSw; go_simp; try (first | with_reducible rfl | (simp)))
        (try simp only [List.getElem_toArray, List.getElem_cons_succ, List.getElem_cons_zero, Act.put, List.setIfInBounds_toArray, List.set_cons_zero, List.set_cons_succ])
        refine wpAnyH_take (i := 13) (oi := _) (v := ?_) rfl (by kernel_rfl) (by kernel_rfl) (by kernel_rfl) (fun _ _ _ h => h) (Or.inl ⟨by rfl, ?_⟩) (by assumption) ?_
        rotate_left
        · (intro w' hSw; obtain ⟨⟨q0, q1, q2⟩, ⟨q3, q4, q5⟩, ⟨q6, q7, q8⟩⟩ := hSw; go_simp; try with_reducible rfl)
        (try simp only [List.getElem_toArray, List.getElem_cons_succ, List.getElem_cons_zero, Act.put, List.setIfInBounds_toArray, List.set_cons_zero, List.set_cons_succ])
        refine wpAnyH_take (i := 14) (oi := _) (v := ?_) rfl (by kernel_rfl) (by kernel_rfl) (by kernel_rfl) (fun _ _ _ h => h) (Or.inl ⟨by rfl, ?_⟩) (by assumption) ?_
        rotate_left
        · (intro w' hSw; obtain ⟨⟨q0, q1, q2⟩, ⟨q3, q4, q5⟩, ⟨q6, q7, q8⟩⟩ := hSw; go_simp; try with_reducible rfl)
        (try simp only [List.getElem_toArray, List.getElem_cons_succ, List.getElem_cons_zero, Act.put, List.setIfInBounds_toArray, List.set_cons_zero, List.set_cons_succ])
        refine wpAnyH_take (i := 15) (oi := _) (v := ?_) rfl (by kernel_rfl) (by kernel_rfl) (by kernel_rfl) (fun _ _ _ h => h) (Or.inl ⟨by rfl, ?_⟩) (by assumption) ?_
        rotate_left
        · (intro w' hSw; obtain ⟨⟨q0, q1, q2⟩, ⟨q3, q4, q5⟩, ⟨q6, q7, q8⟩⟩ := hSw; go_simp; try with_reducible rfl)
        (try simp only [List.getElem_toArray, List.getElem_cons_succ, List.getElem_cons_zero, Act.put, List.setIfInBounds_toArray, List.set_cons_zero, List.set_cons_succ])
        refine wpAnyH_take (i := 16) (oi := _) (v := ?_) rfl (by kernel_rfl) (by kernel_rfl) (by kernel_rfl) (fun _ _ _ h => h) (Or.inl ⟨by rfl, ?_⟩) (by assumption) ?_
        rotate_left
        · (intro w' hSw; obtain ⟨⟨q0, q1, q2⟩, ⟨q3, q4, q5⟩, ⟨q6, q7, q8⟩⟩ := hSw; go_simp; try with_reducible rfl)
        (try simp only [List.getElem_toArray, List.getElem_cons_succ, List.getElem_cons_zero, Act.put, List.setIfInBounds_toArray, List.set_cons_zero, List.set_cons_succ])
        refine wpAnyH_take (i := 18) (oi := _) (v := ?_) rfl (by kernel_rfl) (by kernel_rfl) (by kernel_rfl) (fun _ _ _ h => h) (Or.inl ⟨by rfl, ?_⟩) (by assumption) ?_
        rotate_left
        · (intro w' hSw; obtain ⟨⟨q0, q1, q2⟩, ⟨q3, q4, q5⟩, ⟨q6, q7, q8⟩⟩ := hSw; go_simp; try with_reducible rfl)
        (try simp only [List.getElem_toArray, List.getElem_cons_succ, List.getElem_cons_zero, Act.put, List.setIfInBounds_toArray, List.set_cons_zero, List.set_cons_succ])
        refine wpAnyH_ready (rs := [17]) (by kernel_rfl) (by simp) ?_
        refine AllReadyH.cons (o := _) rfl (fun K hK => ?_) AllReadyH.nil
        go_simp
        refine (undoU HUD.out (RX.out.below hd0) (RU.out.below hd0) (by omega) (by omega)).mono ?_
        rintro e v1 ⟨u1, u2, u3, u4, rfl, zr, zs, hbv1⟩
        have hd1 := hd0.then hbv1
        have ZR := mkHid zr
        clear zr
        have ZS := mkHid zs
        clear zs
        try dsimp only
        refine hK.out _ _ (HS.out _ hd1) (fun hS1 => ?_)
        clear hK K hbv1
        (try simp only [List.getElem_toArray, List.getElem_cons_succ, List.getElem_cons_zero, Act.put, List.setIfInBounds_toArray, List.set_cons_zero, List.set_cons_succ])
        refine wpAnyH_ready (rs := [19]) (by kernel_rfl) (by simp) ?_
        refine AllReadyH.cons (o := _) rfl (fun K hK => ?_) AllReadyH.nil
        go_simp
        refine (sameK ZR.out (HR.out.below hd1) ZS.out (HT.out.below hd1) rfl rfl).mono ?_
        rintro e v2 ⟨rfl, hbv2⟩
        have hd2 := hd1.then hbv2
        try dsimp only
        refine hK.out _ _ (HS.out _ hd2) (fun hS2 => ?_)
        clear hK K hbv2
        (try simp only [List.getElem_toArray, List.getElem_cons_succ, List.getElem_cons_zero, Act.put, List.setIfInBounds_toArray, List.set_cons_zero, List.set_cons_succ])
        refine wpAnyH_take (i := 20) (oi := _) (v := ?_) rfl (by kernel_rfl) (by kernel_rfl) (by kernel_rfl) (fun _ _ _ h => h) (Or.inl ⟨by rfl, ?_⟩) (by assumption) ?_
        rotate_left
        · (intro w' hSw; obtain ⟨⟨q0, q1, q2⟩, ⟨q3, q4, q5⟩, ⟨q6, q7, q8⟩⟩ := hSw; go_simp; try with_reducible rfl)
        (try simp only [List.getElem_toArray, List.getElem_cons_succ, List.getElem_cons_zero, Act.put, List.setIfInBounds_toArray, List.set_cons_zero, List.set_cons_succ])
        refine wpAnyH_take (i := 21) (oi := _) (v := ?_) rfl (by kernel_rfl) (by kernel_rfl) (by kernel_rfl) (fun _ _ _ h => h) (Or.inl ⟨by rfl, ?_⟩) (by assumption) ?_
        rotate_left
        · (intro w' hSw; obtain ⟨⟨q0, q1, q2⟩, ⟨q3, q4, q5⟩, ⟨q6, q7, q8⟩⟩ := hSw; go_simp; try with_reducible rfl)
        (try simp only [List.getElem_toArray, List.getElem_cons_succ, List.getElem_cons_zero, Act.put, List.setIfInBounds_toArray, List.set_cons_zero, List.set_cons_succ])
        refine wpAnyH_take (i := 22) (oi := _) (v := ?_) rfl (by kernel_rfl) (by kernel_rfl) (by kernel_rfl) (fun _ _ _ h => h) (Or.inl ⟨by rfl, ?_⟩) (by assumption) ?_
        rotate_left
        · (intro w' hSw; obtain ⟨⟨q0, q1, q2⟩, ⟨q3, q4, q5⟩, ⟨q6, q7, q8⟩⟩ := hSw; go_simp; try with_reducible rfl)
        (try simp only [List.getElem_toArray, List.getElem_cons_succ, List.getElem_cons_zero, Act.put, List.setIfInBounds_toArray, List.set_cons_zero, List.set_cons_succ])
        refine wpAnyH_take (i := 23) (oi := _) (v := ?_) rfl (by kernel_rfl) (by kernel_rfl) (by kernel_rfl) (fun _ _ _ h => h) (Or.inl ⟨by rfl, ?_⟩) (by assumption) ?_
        rotate_left
        · (intro w' hSw; obtain ⟨⟨q0, q1, q2⟩, ⟨q3, q4, q5⟩, ⟨q6, q7, q8⟩⟩ := hSw; go_simp; try with_reducible rfl)
        (try simp only [List.getElem_toArray, List.getElem_cons_succ, List.getElem_cons_zero, Act.put, List.setIfInBounds_toArray, List.set_cons_zero, List.set_cons_succ])
        refine wpAnyH_take (i := 24) (oi := _) (v := ?_) rfl (by kernel_rfl) (by kernel_rfl) (by kernel_rfl) (fun _ _ _ h => h) (Or.inl ⟨by rfl, ?_⟩) (by assumption) ?_
        rotate_left
        · (intro w' hSw; obtain ⟨⟨q0, q1, q2⟩, ⟨q3, q4, q5⟩, ⟨q6, q7, q8⟩⟩ := hSw; go_simp; try with_reducible rfl)
        (try simp only [List.getElem_toArray, List.getElem_cons_succ, List.getElem_cons_zero, Act.put, List.setIfInBounds_toArray, List.set_cons_zero, List.set_cons_succ])
        refine wpAnyH_done (by kernel_rfl) (NoPanic.normal ?_) _
        have HZ := mkHid (HB.out.then hd2)
        go_wp2_with fail
        go_ret
        exact ⟨ret_bool rfl, HZ.out⟩
      have hltn : m < ops.length := by omega
      obtain ⟨bo, oo, rfl, hbo, helo⟩ := HO.out.cases.resolve_left (fun e => by simp [e] at hltn)
      obtain ⟨⟨ta, tc, o0, hrT⟩, o1, o2, hfit⟩ := op_at helo HB.out hltn
      generalize ops[m] = op at *
      obtain ⟨T, p, q⟩ := op
      dsimp only at o0 o1 o2 hrT hfit
      have O0 := mkHid o0
      have O1 := mkHid o1
      have O2 := mkHid o2
      have RT := mkHid hrT
      have HFT := mkHid hfit
      have hTm := hrT.max
      have hTl := hrT.le
      have HBO := mkHid hbo
      clear o1 o2 hrT hfit helo o0
      iterate 38 (first | go_values | go_skip | go_guarded | go_step | go_upon | go_back)
      generalize hA8 : Act.mk _ _ = A8
      obtain ⟨QQ, hQQ⟩ : ∃ QQ : Exit → Act → World → Prop, QQ = (fun ev A' W' => ev = .normal ∧ ∃ (e10 e11 e12 e13 e35 e36 e37 e38 e39 e40 e41 e42 e43 e44 e45 e46 e47 e48 e49 e50 e51 e52 e53 e54 e55 e56 e57 e58 e59 e60 e61 e62 e63 e64 e65 e66 : Value) (xs1 : List Cel) (us1 ps1 : List Int) (ag1 : Option Addr) (cg1 : Nat) (tg1 : Option Addr) (ct1 : Nat) (pa1 : Option Addr) (pc1 : Nat), A' = (((((((((((((((((((((((((((((((((((((A8.put (some 10) e10).put (some 11) e11).put (some 12) e12).put (some 13) e13).put (some 35) e35).put (some 36) e36).put (some 37) e37).put (some 38) e38).put (some 39) e39).put (some 40) e40).put (some 41) e41).put (some 42) e42).put (some 43) e43).put (some 44) e44).put (some 45) e45).put (some 46) e46).put (some 47) e47).put (some 48) e48).put (some 49) e49).put (some 50) e50).put (some 51) e51).put (some 52) e52).put (some 53) e53).put (some 54) e54).put (some 55) e55).put (some 56) e56).put (some 57) e57).put (some 58) e58).put (some 59) e59).put (some 60) e60).put (some 61) e61).put (some 62) e62).put (some 63) e63).put (some 64) e64).put (some 65) e65).put (some 66) e66).put (some 8) (.slice pa1 ps1.length pc1)) ∧ HLoopU w W' G7 r l ts m xs1 us1 ps1 ag1 cg1 tg1 ct1 pa1 pc1 ∧ C38 W' B0 (.slice a l.length cap) (.slice a' ts.length cap') (.int .i64 r) ∧ C38 W' GM (.int .i64 (l.length : Int)) (.int .i64 (ts.length : Int)) (.slice ma 0 mc) ∧ W'.cell? ⟨bo, oo + m * 3 + 1, none⟩ = some (.int .i64 p) ∧ W'.cell? ⟨bo, oo + m * 3 + 2, none⟩ = some (.int .i64 q)) := ⟨_, rfl⟩
      refine Code.wp_mono (Q := QQ) ?_ ?_
      rotate_left
      · subst hA8
        simp only [Act.put, List.setIfInBounds_toArray, List.set_cons_zero, List.set_cons_succ] at hQQ
        have HQQ := mkHid hQQ
        clear hQQ
        by_cases h210 : (T.length : Int) ≤ 210
        rotate_left
        · skip
          have o0 := O0.out
          have k7 := X7.out.lt
          obtain ⟨j70, j71, j72⟩ := X7.out
          go_wp2_with fail
          clear j70 j71 j72 k7
          clear o0
          rw [HQQ.out]
          refine ⟨rfl, ?_⟩
          (repeat apply Exists.intro)
          exact ⟨rfl, ⟨Z7.out, RX.out, RU.out, RP.out, HFW.out, HPL.out, hps, hxr, hu4, HUN.out, HUD.out, HB.out⟩, X0.out, XM.out, O1.out, O2.out⟩
        cases hRi : rightB T with
        | false =>
          have HRI := mkHid hRi
          have o0 := O0.out
          have k7 := X7.out.lt
          obtain ⟨j70, j71, j72⟩ := X7.out
          go_wp2_with fail
          clear j70 j71 j72 k7
          clear o0
          refine (refright_any ta tc _ T RT.out).mono ?_
          rintro e w4 ⟨rfl, hw4⟩
          rw [HRI.out]
          replace Z7 := mkHid (Z7.out.below hw4)
          replace X7 := mkHid (X7.out.below hw4)
          replace RX := mkHid (RX.out.below hw4)
          replace RU := mkHid (RU.out.below hw4)
          replace RP := mkHid (RP.out.below hw4)
          replace X0 := mkHid (X0.out.below hw4)
          replace XM := mkHid (XM.out.below hw4)
          replace RT := mkHid (RT.out.below hw4)
          replace HB := mkHid (HB.out.then hw4)
          replace O0 := mkHid (keep O0.out hw4)
          replace O1 := mkHid (keep O1.out hw4)
          replace O2 := mkHid (keep O2.out hw4)
          clear hw4
          clear hRi
          have k7 := X7.out.lt
          obtain ⟨j70, j71, j72⟩ := X7.out
          go_wp2_with fail
          clear j70 j71 j72 k7
          rw [HQQ.out]
          refine ⟨rfl, ?_⟩
          (repeat apply Exists.intro)
          exact ⟨rfl, ⟨Z7.out, RX.out, RU.out, RP.out, HFW.out, HPL.out, hps, hxr, hu4, HUN.out, HUD.out, HB.out⟩, X0.out, XM.out, O1.out, O2.out⟩
        | true =>
          have HRI := mkHid hRi
          have o0 := O0.out
          have k7 := X7.out.lt
          obtain ⟨j70, j71, j72⟩ := X7.out
          go_wp2_with fail
          clear j70 j71 j72 k7
          clear o0
          refine (refright_any ta tc _ T RT.out).mono ?_
          rintro e w5 ⟨rfl, hw5⟩
          rw [HRI.out]
          replace Z7 := mkHid (Z7.out.below hw5)
          replace X7 := mkHid (X7.out.below hw5)
          replace RX := mkHid (RX.out.below hw5)
          replace RU := mkHid (RU.out.below hw5)
          replace RP := mkHid (RP.out.below hw5)
          replace X0 := mkHid (X0.out.below hw5)
          replace XM := mkHid (XM.out.below hw5)
          replace RT := mkHid (RT.out.below hw5)
          replace HB := mkHid (HB.out.then hw5)
          replace O0 := mkHid (keep O0.out hw5)
          replace O1 := mkHid (keep O1.out hw5)
          replace O2 := mkHid (keep O2.out hw5)
          clear hw5
          obtain ⟨tm, hok, rfl, h200⟩ := right_tm hRi
          have HOK := mkHid hok
          clear hRi hok
          have k7 := X7.out.lt
          obtain ⟨j70, j71, j72⟩ := X7.out
          go_wp2_with fail
          clear j70 j71 j72 k7
          generalize hA : Act.mk _ _ = A0
          refine Code.wp_mono (Q := fun ev A' W' => ev = .normal ∧ ∃ (e51 e52 e53 e54 e55 e56 e57 e58 e50 e59 e60 e61 e62 : Value) (B : Nat) (xs3 : List Cel) (pl : Int) (at3 : List Int) (er : Int) (a11 : Option Addr) (c11 : Nat) (a12 : Option Addr) (c12 : Nat) (a13 : Option Addr) (c13 : Nat), A' = (((((((((((((((((A0.put (some 51) e51).put (some 52) e52).put (some 53) e53).put (some 54) e54).put (some 55) e55).put (some 56) e56).put (some 57) e57).put (some 58) e58).put (some 50) e50).put (some 59) e59).put (some 60) e60).put (some 61) e61).put (some 62) e62).put (some 10) (.pointer (some ⟨B, 0, none⟩))).put (some 11) (.int .i64 pl)).put (some 12) (.slice a13 at3.length c13)).put (some 13) (.int .i64 er)) ∧ C38 W' B (.slice a11 xs3.length c11) (.slice a12 us.length c12) (.int .i64 r) ∧ Row W' a11 c11 xs3 ∧ Row W' a12 c12 us ∧ Row W' a13 c13 at3 ∧ POut xs ps r (putS xs (widenL ps (varsL tm.flat)) tm) xs3 pl at3 er ∧ w5.heap.size ≤ B ∧ Below w5.heap.size w5 W') ?_ ?_
          rotate_left
          · subst hA
            have HS : Hid (∀ X, Below w5.heap.size w5 X → (fun X => C38 X G7 (.slice ag xs.length cg) (.slice tg us.length ct) (.int .i64 r) ∧ X.cell? ⟨bo, oo + m * 3, none⟩ = some (.slice ta tm.flat.length tc)) X) := fun X h => ⟨X7.out.below h, keep O0.out h⟩
            have hd0 : Below w5.heap.size w5 w5.drew := (Below.refl _ _).drew
            refine wp_region_noPanic ?_
            refine wp_region_held_drew (S := fun X => C38 X G7 (.slice ag xs.length cg) (.slice tg us.length ct) (.int .i64 r) ∧ X.cell? ⟨bo, oo + m * 3, none⟩ = some (.slice ta tm.flat.length tc)) (by kernel_rfl) (HS.out _ hd0) (fun hSd => ?_)
            obtain ⟨v0, hx0⟩ : ∃ X, w5.drew = X := ⟨_, rfl⟩
            rw [hx0] at hd0 hSd ⊢
            clear hx0
            refine wpAnyH_take (i := 0) (oi := _) (v := ?_) rfl (by kernel_rfl) (by kernel_rfl) (by kernel_rfl) (fun _ _ _ h => h) (Or.inl ⟨by rfl, ?_⟩) (by assumption) ?_
            rotate_left
            · (intro w' hSw; obtain ⟨⟨q0, q1, q2⟩, q3⟩ := hSw; go_simp; try with_reducible rfl)
            (try simp only [List.getElem_toArray, List.getElem_cons_succ, List.getElem_cons_zero, Act.put, List.setIfInBounds_toArray, List.set_cons_zero, List.set_cons_succ])
            refine wpAnyH_take (i := 1) (oi := _) (v := ?_) rfl (by kernel_rfl) (by kernel_rfl) (by kernel_rfl) (fun _ _ _ h => h) (Or.inl ⟨by rfl, ?_⟩) (by assumption) ?_
            rotate_left
            · (intro w' hSw; obtain ⟨⟨q0, q1, q2⟩, q3⟩ := hSw; go_simp; try with_reducible rfl)
            (try simp only [List.getElem_toArray, List.getElem_cons_succ, List.getElem_cons_zero, Act.put, List.setIfInBounds_toArray, List.set_cons_zero, List.set_cons_succ])
            refine wpAnyH_take (i := 2) (oi := _) (v := ?_) rfl (by kernel_rfl) (by kernel_rfl) (by kernel_rfl) (fun _ _ _ h => h) (Or.inl ⟨by rfl, ?_⟩) (by assumption) ?_
            rotate_left
            · (intro w' hSw; obtain ⟨⟨q0, q1, q2⟩, q3⟩ := hSw; go_simp; try with_reducible rfl)
            (try simp only [List.getElem_toArray, List.getElem_cons_succ, List.getElem_cons_zero, Act.put, List.setIfInBounds_toArray, List.set_cons_zero, List.set_cons_succ])
            refine wpAnyH_take (i := 3) (oi := _) (v := ?_) rfl (by kernel_rfl) (by kernel_rfl) (by kernel_rfl) (fun _ _ _ h => h) (Or.inl ⟨by rfl, ?_⟩) (by assumption) ?_
            rotate_left
            · (intro w' hSw; obtain ⟨⟨q0, q1, q2⟩, q3⟩ := hSw; go_simp; try with_reducible rfl)
            (try simp only [List.getElem_toArray, List.getElem_cons_succ, List.getElem_cons_zero, Act.put, List.setIfInBounds_toArray, List.set_cons_zero, List.set_cons_succ])
            refine wpAnyH_take (i := 4) (oi := _) (v := ?_) rfl (by kernel_rfl) (by kernel_rfl) (by kernel_rfl) (fun _ _ _ h => h) (Or.inl ⟨by rfl, ?_⟩) (by assumption) ?_
            rotate_left
            · (intro w' hSw; obtain ⟨⟨q0, q1, q2⟩, q3⟩ := hSw; go_simp; try with_reducible rfl)
            (try simp only [List.getElem_toArray, List.getElem_cons_succ, List.getElem_cons_zero, Act.put, List.setIfInBounds_toArray, List.set_cons_zero, List.set_cons_succ])
            refine wpAnyH_take (i := 5) (oi := _) (v := ?_) rfl (by kernel_rfl) (by kernel_rfl) (by kernel_rfl) (fun _ _ _ h => h) (Or.inl ⟨by rfl, ?_⟩) (by assumption) ?_
            rotate_left
            · (intro w' hSw; obtain ⟨⟨q0, q1, q2⟩, q3⟩ := hSw; go_simp; try with_reducible rfl)
            (try simp only [List.getElem_toArray, List.getElem_cons_succ, List.getElem_cons_zero, Act.put, List.setIfInBounds_toArray, List.set_cons_zero, List.set_cons_succ])
            refine wpAnyH_take (i := 6) (oi := _) (v := ?_) rfl (by kernel_rfl) (by kernel_rfl) (by kernel_rfl) (fun _ _ _ h => h) (Or.inl ⟨by rfl, ?_⟩) (by assumption) ?_
            rotate_left
            · (intro w' hSw; obtain ⟨⟨q0, q1, q2⟩, q3⟩ := hSw; go_simp; try with_reducible rfl)
            (try simp only [List.getElem_toArray, List.getElem_cons_succ, List.getElem_cons_zero, Act.put, List.setIfInBounds_toArray, List.set_cons_zero, List.set_cons_succ])
            refine wpAnyH_ready (rs := [7, 13]) (by kernel_rfl) (by simp) ?_
            refine AllReadyH.cons (o := _) rfl (fun K hK => ?_) ?_
            · skip
              go_simp
              refine (hput_any ag cg tg ct r ta tc pa pc _ xs us ps tm (RX.out.below hd0) (RU.out.below hd0) (RT.out.below hd0) (RP.out.below hd0) HOK.out h200 (by omega) (by omega) hps (HPL.out.known _)).mono ?_
              rintro e v1 ⟨xs3, pl, at3, er, a11, c11, a12, c12, a13, c13, rfl, hP, r11, s11, p11, hbv1⟩
              have hd1 := hd0.then hbv1
              try dsimp only
              refine hK.out _ _ (HS.out _ hd1) (fun hS1 => ?_)
              clear hK K
              (try simp only [List.getElem_toArray, List.getElem_cons_succ, List.getElem_cons_zero, Act.put, List.setIfInBounds_toArray, List.set_cons_zero, List.set_cons_succ])
              refine wpAnyH_take (i := 8) (oi := _) (v := ?_) rfl (by kernel_rfl) (by kernel_rfl) (by kernel_rfl) (fun _ _ _ h => h) (Or.inl ⟨by rfl, ?_⟩) (by assumption) ?_
              rotate_left
              · (intro w' hSw; obtain ⟨⟨q0, q1, q2⟩, q3⟩ := hSw; go_simp; try with_reducible rfl)
              (try simp only [List.getElem_toArray, List.getElem_cons_succ, List.getElem_cons_zero, Act.put, List.setIfInBounds_toArray, List.set_cons_zero, List.set_cons_succ])
              refine wpAnyH_take (i := 9) (oi := _) (v := ?_) rfl (by kernel_rfl) (by kernel_rfl) (by kernel_rfl) (fun _ _ _ h => h) (Or.inl ⟨by rfl, ?_⟩) (by assumption) ?_
              rotate_left
              · (intro w' hSw; obtain ⟨⟨q0, q1, q2⟩, q3⟩ := hSw; go_simp; try with_reducible rfl)
              (try simp only [List.getElem_toArray, List.getElem_cons_succ, List.getElem_cons_zero, Act.put, List.setIfInBounds_toArray, List.set_cons_zero, List.set_cons_succ])
              refine wpAnyH_take (i := 10) (oi := _) (v := ?_) rfl (by kernel_rfl) (by kernel_rfl) (by kernel_rfl) (fun _ _ _ h => h) (Or.inl ⟨by rfl, ?_⟩) (by assumption) ?_
              rotate_left
              · (intro w' hSw; obtain ⟨⟨q0, q1, q2⟩, q3⟩ := hSw; go_simp; try with_reducible rfl)
              (try simp only [List.getElem_toArray, List.getElem_cons_succ, List.getElem_cons_zero, Act.put, List.setIfInBounds_toArray, List.set_cons_zero, List.set_cons_succ])
              refine wpAnyH_take (i := 11) (oi := _) (v := ?_) rfl (by kernel_rfl) (by kernel_rfl) (by kernel_rfl) (fun _ _ _ h => h) (Or.inl ⟨by rfl, ?_⟩) (by assumption) ?_
              rotate_left
              · (intro w' hSw; obtain ⟨⟨q0, q1, q2⟩, q3⟩ := hSw; go_simp; try with_reducible rfl)
              (try simp only [List.getElem_toArray, List.getElem_cons_succ, List.getElem_cons_zero, Act.put, List.setIfInBounds_toArray, List.set_cons_zero, List.set_cons_succ])
              refine wpAnyH_take (i := 12) (oi := _) (v := ?_) rfl (by kernel_rfl) (by kernel_rfl) (by kernel_rfl) (fun _ _ _ h => h) (Or.inl ⟨by rfl, ?_⟩) (by assumption) ?_
              rotate_left
              · (intro w' hSw; obtain ⟨⟨q0, q1, q2⟩, q3⟩ := hSw; go_simp; try with_reducible rfl)
              (try simp only [List.getElem_toArray, List.getElem_cons_succ, List.getElem_cons_zero, Act.put, List.setIfInBounds_toArray, List.set_cons_zero, List.set_cons_succ])
              refine wpAnyH_ready (rs := [13]) (by kernel_rfl) (by simp) ?_
              refine AllReadyH.cons (o := _) rfl (fun K hK => ?_) AllReadyH.nil
              go_simp
              try dsimp only
              have q0 : ZB (v1.alloc (.cells #[.slice none 0 0, .slice none 0 0, .int .i64 0] 25)) v1.heap.size := ZB.new v1
              have hge := hd1.size
              have hbv2 := (Below.refl v1.heap.size v1).new (.cells #[.slice none 0 0, .slice none 0 0, .int .i64 0] 25)
              have hlt : v1.heap.size < (v1.alloc (.cells #[.slice none 0 0, .slice none 0 0, .int .i64 0] 25)).heap.size := by simp
              have hd2 := hd1.then hbv2
              refine hK.out _ _ (HS.out _ hd2) (fun hS2 => ?_)
              clear hK K
              (try simp only [List.getElem_toArray, List.getElem_cons_succ, List.getElem_cons_zero, Act.put, List.setIfInBounds_toArray, List.set_cons_zero, List.set_cons_succ])
              obtain ⟨v2, hV⟩ : ∃ V, v1.alloc (.cells #[.slice none 0 0, .slice none 0 0, .int .i64 0] 25) = V := ⟨_, rfl⟩
              obtain ⟨B, hG⟩ : ∃ V, v1.heap.size = V := ⟨_, rfl⟩
              rw [hV] at q0 hd2 hS2 hbv2 hlt ⊢
              rw [hG] at q0 hge hlt ⊢
              have RZ := mkHid q0
              have HGE := mkHid hge
              have HLT := mkHid hlt
              have r11a := r11.row.below hbv2
              have s11a := s11.row.below hbv2
              have p11a := p11.row.below hbv2
              have hBX : v1.heap.size ≤ B := by omega
              clear hV hG q0 hge hlt
              refine wpAnyH_ready (rs := [14]) (by kernel_rfl) (by simp) ?_
              refine AllReadyH.cons (o := _) rfl (fun K hK => ?_) AllReadyH.nil
              have z0 := RZ.out.cell 0
              have z1 := RZ.out.cell 1
              have z2 := RZ.out.cell 2
              have y0 := RZ.out.froz 0
              have y1 := RZ.out.froz 1
              have y2 := RZ.out.froz 2
              simp only [List.getElem?_toArray, List.getElem?_cons_zero, List.getElem?_cons_succ] at z0 z1 z2
              go_simp
              try dsimp only
              have hbx : C38 (((v2.setCell ⟨B, 0, none⟩ (.slice a11 xs3.length c11)).setCell ⟨B, 1, none⟩ (.slice a12 us.length c12)).setCell ⟨B, 2, none⟩ (.int .i64 r)) B (.slice a11 xs3.length c11) (.slice a12 us.length c12) (.int .i64 r) := RZ.out.set3c _ _ _
              have hd3 : Below w5.heap.size w5 (((v2.setCell ⟨B, 0, none⟩ (.slice a11 xs3.length c11)).setCell ⟨B, 1, none⟩ (.slice a12 us.length c12)).setCell ⟨B, 2, none⟩ (.int .i64 r)) := hd2.trans ((set3 B v2 _ _ _).mono HGE.out)
              have r11z := (r11.row.below ((hbv2).trans ((set3 B v2 (.slice a11 xs3.length c11) (.slice a12 us.length c12) (.int .i64 r)).mono hBX)))
              have s11z := (s11.row.below ((hbv2).trans ((set3 B v2 (.slice a11 xs3.length c11) (.slice a12 us.length c12) (.int .i64 r)).mono hBX)))
              have p11z := (p11.row.below ((hbv2).trans ((set3 B v2 (.slice a11 xs3.length c11) (.slice a12 us.length c12) (.int .i64 r)).mono hBX)))
              clear z0 z1 z2 y0 y1 y2
              refine hK.out _ _ (HS.out _ hd3) (fun hS3 => ?_)
              clear hK K
              (try simp only [List.getElem_toArray, List.getElem_cons_succ, List.getElem_cons_zero, Act.put, List.setIfInBounds_toArray, List.set_cons_zero, List.set_cons_succ])
              refine wpAnyH_take (i := 15) (oi := _) (v := ?_) rfl (by kernel_rfl) (by kernel_rfl) (by kernel_rfl) (fun _ _ _ h => h) (Or.inl ⟨by rfl, ?_⟩) (by assumption) ?_
              rotate_left
              · (intro w' hSw; obtain ⟨⟨q0, q1, q2⟩, q3⟩ := hSw; go_simp; try with_reducible rfl)
              (try simp only [List.getElem_toArray, List.getElem_cons_succ, List.getElem_cons_zero, Act.put, List.setIfInBounds_toArray, List.set_cons_zero, List.set_cons_succ])
              refine wpAnyH_take (i := 16) (oi := _) (v := ?_) rfl (by kernel_rfl) (by kernel_rfl) (by kernel_rfl) (fun _ _ _ h => h) (Or.inl ⟨by rfl, ?_⟩) (by assumption) ?_
              rotate_left
              · (intro w' hSw; obtain ⟨⟨q0, q1, q2⟩, q3⟩ := hSw; go_simp; try with_reducible rfl)
              (try simp only [List.getElem_toArray, List.getElem_cons_succ, List.getElem_cons_zero, Act.put, List.setIfInBounds_toArray, List.set_cons_zero, List.set_cons_succ])
              refine wpAnyH_take (i := 17) (oi := _) (v := ?_) rfl (by kernel_rfl) (by kernel_rfl) (by kernel_rfl) (fun _ _ _ h => h) (Or.inl ⟨by rfl, ?_⟩) (by assumption) ?_
              rotate_left
              · (intro w' hSw; obtain ⟨⟨q0, q1, q2⟩, q3⟩ := hSw; go_simp; try with_reducible rfl)
              (try simp only [List.getElem_toArray, List.getElem_cons_succ, List.getElem_cons_zero, Act.put, List.setIfInBounds_toArray, List.set_cons_zero, List.set_cons_succ])
              refine wpAnyH_done (by kernel_rfl) (NoPanic.normal ?_) _
              refine ⟨rfl, ?_⟩
              (repeat apply Exists.intro)
              exact ⟨rfl, hbx, r11z, s11z, p11z, hP, HGE.out, hd3⟩
            refine AllReadyH.cons (o := _) rfl (fun K hK => ?_) AllReadyH.nil
            go_simp
            try dsimp only
            have q0 : ZB (v0.alloc (.cells #[.slice none 0 0, .slice none 0 0, .int .i64 0] 25)) v0.heap.size := ZB.new v0
            have hge := hd0.size
            have hbv1 := (Below.refl v0.heap.size v0).new (.cells #[.slice none 0 0, .slice none 0 0, .int .i64 0] 25)
            have hlt : v0.heap.size < (v0.alloc (.cells #[.slice none 0 0, .slice none 0 0, .int .i64 0] 25)).heap.size := by simp
            have hd1 := hd0.then hbv1
            refine hK.out _ _ (HS.out _ hd1) (fun hS1 => ?_)
            clear hK K
            (try simp only [List.getElem_toArray, List.getElem_cons_succ, List.getElem_cons_zero, Act.put, List.setIfInBounds_toArray, List.set_cons_zero, List.set_cons_succ])
            obtain ⟨v1, hV⟩ : ∃ V, v0.alloc (.cells #[.slice none 0 0, .slice none 0 0, .int .i64 0] 25) = V := ⟨_, rfl⟩
            obtain ⟨B, hG⟩ : ∃ V, v0.heap.size = V := ⟨_, rfl⟩
            rw [hV] at q0 hd1 hS1 hbv1 hlt ⊢
            rw [hG] at q0 hge hlt ⊢
            have RZ := mkHid q0
            have HGE := mkHid hge
            have HLT := mkHid hlt
            have hBX : v0.heap.size ≤ B := by omega
            clear hV hG q0 hge hlt
            refine wpAnyH_ready (rs := [7]) (by kernel_rfl) (by simp) ?_
            refine AllReadyH.cons (o := _) rfl (fun K hK => ?_) AllReadyH.nil
            go_simp
            refine (hput_any ag cg tg ct r ta tc pa pc _ xs us ps tm (RX.out.below hd1) (RU.out.below hd1) (RT.out.below hd1) (RP.out.below hd1) HOK.out h200 (by omega) (by omega) hps (HPL.out.known _)).mono ?_
            rintro e v2 ⟨xs3, pl, at3, er, a11, c11, a12, c12, a13, c13, rfl, hP, r11, s11, p11, hbv2⟩
            have hd2 := hd1.then hbv2
            try dsimp only
            refine hK.out _ _ (HS.out _ hd2) (fun hS2 => ?_)
            clear hK K
            (try simp only [List.getElem_toArray, List.getElem_cons_succ, List.getElem_cons_zero, Act.put, List.setIfInBounds_toArray, List.set_cons_zero, List.set_cons_succ])
            refine wpAnyH_take (i := 8) (oi := _) (v := ?_) rfl (by kernel_rfl) (by kernel_rfl) (by kernel_rfl) (fun _ _ _ h => h) (Or.inl ⟨by rfl, ?_⟩) (by assumption) ?_
            rotate_left
            · (intro w' hSw; obtain ⟨⟨q0, q1, q2⟩, q3⟩ := hSw; go_simp; try with_reducible rfl)
            (try simp only [List.getElem_toArray, List.getElem_cons_succ, List.getElem_cons_zero, Act.put, List.setIfInBounds_toArray, List.set_cons_zero, List.set_cons_succ])
            refine wpAnyH_take (i := 9) (oi := _) (v := ?_) rfl (by kernel_rfl) (by kernel_rfl) (by kernel_rfl) (fun _ _ _ h => h) (Or.inl ⟨by rfl, ?_⟩) (by assumption) ?_
            rotate_left
            · (intro w' hSw; obtain ⟨⟨q0, q1, q2⟩, q3⟩ := hSw; go_simp; try with_reducible rfl)
            (try simp only [List.getElem_toArray, List.getElem_cons_succ, List.getElem_cons_zero, Act.put, List.setIfInBounds_toArray, List.set_cons_zero, List.set_cons_succ])
            refine wpAnyH_take (i := 10) (oi := _) (v := ?_) rfl (by kernel_rfl) (by kernel_rfl) (by kernel_rfl) (fun _ _ _ h => h) (Or.inl ⟨by rfl, ?_⟩) (by assumption) ?_
            rotate_left
            · (intro w' hSw; obtain ⟨⟨q0, q1, q2⟩, q3⟩ := hSw; go_simp; try with_reducible rfl)
            (try simp only [List.getElem_toArray, List.getElem_cons_succ, List.getElem_cons_zero, Act.put, List.setIfInBounds_toArray, List.set_cons_zero, List.set_cons_succ])
            refine wpAnyH_take (i := 11) (oi := _) (v := ?_) rfl (by kernel_rfl) (by kernel_rfl) (by kernel_rfl) (fun _ _ _ h => h) (Or.inl ⟨by rfl, ?_⟩) (by assumption) ?_
            rotate_left
            · (intro w' hSw; obtain ⟨⟨q0, q1, q2⟩, q3⟩ := hSw; go_simp; try with_reducible rfl)
            (try simp only [List.getElem_toArray, List.getElem_cons_succ, List.getElem_cons_zero, Act.put, List.setIfInBounds_toArray, List.set_cons_zero, List.set_cons_succ])
            refine wpAnyH_take (i := 12) (oi := _) (v := ?_) rfl (by kernel_rfl) (by kernel_rfl) (by kernel_rfl) (fun _ _ _ h => h) (Or.inl ⟨by rfl, ?_⟩) (by assumption) ?_
            rotate_left
            · (intro w' hSw; obtain ⟨⟨q0, q1, q2⟩, q3⟩ := hSw; go_simp; try with_reducible rfl)
            (try simp only [List.getElem_toArray, List.getElem_cons_succ, List.getElem_cons_zero, Act.put, List.setIfInBounds_toArray, List.set_cons_zero, List.set_cons_succ])
            replace RZ := mkHid (RZ.out.below hbv2)
            refine wpAnyH_ready (rs := [14]) (by kernel_rfl) (by simp) ?_
            refine AllReadyH.cons (o := _) rfl (fun K hK => ?_) AllReadyH.nil
            have z0 := RZ.out.cell 0
            have z1 := RZ.out.cell 1
            have z2 := RZ.out.cell 2
            have y0 := RZ.out.froz 0
            have y1 := RZ.out.froz 1
            have y2 := RZ.out.froz 2
            simp only [List.getElem?_toArray, List.getElem?_cons_zero, List.getElem?_cons_succ] at z0 z1 z2
            go_simp
            try dsimp only
            have hbx : C38 (((v2.setCell ⟨B, 0, none⟩ (.slice a11 xs3.length c11)).setCell ⟨B, 1, none⟩ (.slice a12 us.length c12)).setCell ⟨B, 2, none⟩ (.int .i64 r)) B (.slice a11 xs3.length c11) (.slice a12 us.length c12) (.int .i64 r) := RZ.out.set3c _ _ _
            have hd3 : Below w5.heap.size w5 (((v2.setCell ⟨B, 0, none⟩ (.slice a11 xs3.length c11)).setCell ⟨B, 1, none⟩ (.slice a12 us.length c12)).setCell ⟨B, 2, none⟩ (.int .i64 r)) := hd2.trans ((set3 B v2 _ _ _).mono HGE.out)
            have r11z := (r11.grown (set3_grown B v2 (.slice a11 xs3.length c11) (.slice a12 us.length c12) (.int .i64 r)) (fun g e => by cases e; exact HLT.out)).row
            have s11z := (s11.grown (set3_grown B v2 (.slice a11 xs3.length c11) (.slice a12 us.length c12) (.int .i64 r)) (fun g e => by cases e; exact HLT.out)).row
            have p11z := (p11.grown (set3_grown B v2 (.slice a11 xs3.length c11) (.slice a12 us.length c12) (.int .i64 r)) (fun g e => by cases e; exact HLT.out)).row
            clear z0 z1 z2 y0 y1 y2
            refine hK.out _ _ (HS.out _ hd3) (fun hS3 => ?_)
            clear hK K
            (try simp only [List.getElem_toArray, List.getElem_cons_succ, List.getElem_cons_zero, Act.put, List.setIfInBounds_toArray, List.set_cons_zero, List.set_cons_succ])
            refine wpAnyH_take (i := 15) (oi := _) (v := ?_) rfl (by kernel_rfl) (by kernel_rfl) (by kernel_rfl) (fun _ _ _ h => h) (Or.inl ⟨by rfl, ?_⟩) (by assumption) ?_
            rotate_left
            · (intro w' hSw; obtain ⟨⟨q0, q1, q2⟩, q3⟩ := hSw; go_simp; try with_reducible rfl)
            (try simp only [List.getElem_toArray, List.getElem_cons_succ, List.getElem_cons_zero, Act.put, List.setIfInBounds_toArray, List.set_cons_zero, List.set_cons_succ])
            refine wpAnyH_take (i := 16) (oi := _) (v := ?_) rfl (by kernel_rfl) (by kernel_rfl) (by kernel_rfl) (fun _ _ _ h => h) (Or.inl ⟨by rfl, ?_⟩) (by assumption) ?_
            rotate_left
            · (intro w' hSw; obtain ⟨⟨q0, q1, q2⟩, q3⟩ := hSw; go_simp; try with_reducible rfl)
            (try simp only [List.getElem_toArray, List.getElem_cons_succ, List.getElem_cons_zero, Act.put, List.setIfInBounds_toArray, List.set_cons_zero, List.set_cons_succ])
            refine wpAnyH_take (i := 17) (oi := _) (v := ?_) rfl (by kernel_rfl) (by kernel_rfl) (by kernel_rfl) (fun _ _ _ h => h) (Or.inl ⟨by rfl, ?_⟩) (by assumption) ?_
            rotate_left
            · (intro w' hSw; obtain ⟨⟨q0, q1, q2⟩, q3⟩ := hSw; go_simp; try with_reducible rfl)
            (try simp only [List.getElem_toArray, List.getElem_cons_succ, List.getElem_cons_zero, Act.put, List.setIfInBounds_toArray, List.set_cons_zero, List.set_cons_succ])
            refine wpAnyH_done (by kernel_rfl) (NoPanic.normal ?_) _
            refine ⟨rfl, ?_⟩
            (repeat apply Exists.intro)
            exact ⟨rfl, hbx, r11z, s11z, p11z, hP, HGE.out, hd3⟩
          rintro ev A' w6 ⟨rfl, e51, e52, e53, e54, e55, e56, e57, e58, e50, e59, e60, e61, e62, B3, xs3, pl, at3, er, a11, c11, a12, c12, a13, c13, rfl, hbx, r11, s11, p11, hP, hge3, hw6⟩
          subst hA
          simp only [Act.put, List.setIfInBounds_toArray, List.set_cons_zero, List.set_cons_succ]
          replace Z7 := mkHid (Z7.out.below hw6)
          replace X7 := mkHid (X7.out.below hw6)
          replace RX := mkHid (RX.out.below hw6)
          replace RU := mkHid (RU.out.below hw6)
          replace RP := mkHid (RP.out.below hw6)
          replace X0 := mkHid (X0.out.below hw6)
          replace XM := mkHid (XM.out.below hw6)
          replace RT := mkHid (RT.out.below hw6)
          replace HB := mkHid (HB.out.then hw6)
          replace O0 := mkHid (keep O0.out hw6)
          replace O1 := mkHid (keep O1.out hw6)
          replace O2 := mkHid (keep O2.out hw6)
          clear hw6
          have X3 := mkHid hbx
          have R11 := mkHid r11
          have S11 := mkHid s11
          have P11 := mkHid p11
          clear hbx r11 s11 p11
          have HK := mkHid (pout_kept (at_ := ps) hP HOK.out h200 HFW.out HPL.out hps)
          have hm11 := R11.out.max
          have hl11 := R11.out.le
          have hm13 := P11.out.max
          have hl13 := P11.out.le
          have hxr3 : (xs3.length : Int) ≤ r := HK.out.2.2.2.2.1.elim id (fun e => by rw [e]; exact hxr)
          have HUD3 : Hid (∃ L, Und l ts xs3 us L) := let ⟨L, hL⟩ := HUD.out; ⟨L, hL.put HK.out.2.2.2.1⟩
          have HPE : Hid (er = 80 → xs3 = xs) := fun e => by rcases hP with ⟨_, h, _⟩ | ⟨_, _, _, _, h⟩; exact h; omega
          have HER := HK.out.2.2.2.2.2
          clear hP
          rcases HER with rfl | rfl
          · skip
            have f0 := Z7.out.froz 0
            have f1 := Z7.out.froz 1
            have f2 := Z7.out.froz 2
            have k7 := X7.out.lt
            obtain ⟨j70, j71, j72⟩ := X7.out
            have k3 := X3.out.lt
            obtain ⟨j30, j31, j32⟩ := X3.out
            go_wp2_with fail
            clear j70 j71 j72 j30 j31 j32 k7 k3
            clear f0 f1 f2
            have ho := Oth.set3 w6 G7 (.slice a11 xs3.length c11) (.slice a12 us.length c12) (.int .i64 r)
            have hbs : Below w.heap.size w (((w6.setCell ⟨G7, 0, none⟩ (.slice a11 xs3.length c11)).setCell ⟨G7, 1, none⟩ (.slice a12 us.length c12)).setCell ⟨G7, 2, none⟩ (.int .i64 r)) := HB.out.trans ((set3 G7 w6 _ _ _).mono N7.out.2.1)
            have z6 := Z7.out.put a11 xs3.length c11 a12 us.length c12 r
            have HOP : Hid (∀ v k, k < 3 → w6.cell? ⟨bo, oo + m * 3 + k, none⟩ = some v → (((w6.setCell ⟨G7, 0, none⟩ (.slice a11 xs3.length c11)).setCell ⟨G7, 1, none⟩ (.slice a12 us.length c12)).setCell ⟨G7, 2, none⟩ (.int .i64 r)).cell? ⟨bo, oo + m * 3 + k, none⟩ = some v) := fun v k _ h => ho _ _ _ (by have := N7.out.2.1; have := HBO.out; omega) h
            have o1 := HOP.out _ 1 (by omega) O1.out
            have o2 := HOP.out _ 2 (by omega) O2.out
            replace O1 := mkHid o1
            replace O2 := mkHid o2
            replace R11 := mkHid (Z7.out.cels ho R11.out)
            replace S11 := mkHid (Z7.out.ints ho S11.out HUN.out)
            have hr1 := HMP.out.2.2.r1
            replace RP := mkHid (Z7.out.ints ho P11.out (HK.out.2.1.ne8 hr1 hxr3))
            replace X0 := mkHid (X0.out.oth ho N7.out.1)
            replace XM := mkHid (XM.out.ne ho N7.out.2.2)
            replace HB := mkHid hbs
            replace Z7 := mkHid z6
            replace X7 := mkHid z6.c38
            clear ho hbs z6 HOP o1 o2 X3 P11 RX RU RT O0
            obtain ⟨w7, hV⟩ : ∃ V, (((w6.setCell ⟨G7, 0, none⟩ (.slice a11 xs3.length c11)).setCell ⟨G7, 1, none⟩ (.slice a12 us.length c12)).setCell ⟨G7, 2, none⟩ (.int .i64 r)) = V := ⟨_, rfl⟩
            rw [hV] at R11 S11 RP X0 XM HB Z7 X7 O1 O2 ⊢
            clear hV
            have RX := mkHid R11.out
            have RU := mkHid S11.out
            clear R11 S11
            replace HFW := mkHid HK.out.1
            replace HUD := HUD3
            replace hxr := hxr3
            replace HPL := mkHid HK.out.2.1
            replace hps := HK.out.2.2.1
            rw [HQQ.out]
            refine ⟨rfl, ?_⟩
            (repeat apply Exists.intro)
            exact ⟨rfl, ⟨Z7.out, RX.out, RU.out, RP.out, HFW.out, HPL.out, hps, hxr, hu4, HUN.out, HUD.out, HB.out⟩, X0.out, XM.out, O1.out, O2.out⟩
          · skip
            have f0 := Z7.out.froz 0
            have f1 := Z7.out.froz 1
            have f2 := Z7.out.froz 2
            have k7 := X7.out.lt
            obtain ⟨j70, j71, j72⟩ := X7.out
            have k3 := X3.out.lt
            obtain ⟨j30, j31, j32⟩ := X3.out
            go_wp2_with fail
            clear j70 j71 j72 j30 j31 j32 k7 k3
            clear f0 f1 f2
            have ho := Oth.set3 w6 G7 (.slice a11 xs3.length c11) (.slice a12 us.length c12) (.int .i64 r)
            have hbs : Below w.heap.size w (((w6.setCell ⟨G7, 0, none⟩ (.slice a11 xs3.length c11)).setCell ⟨G7, 1, none⟩ (.slice a12 us.length c12)).setCell ⟨G7, 2, none⟩ (.int .i64 r)) := HB.out.trans ((set3 G7 w6 _ _ _).mono N7.out.2.1)
            have z6 := Z7.out.put a11 xs3.length c11 a12 us.length c12 r
            have HOP : Hid (∀ v k, k < 3 → w6.cell? ⟨bo, oo + m * 3 + k, none⟩ = some v → (((w6.setCell ⟨G7, 0, none⟩ (.slice a11 xs3.length c11)).setCell ⟨G7, 1, none⟩ (.slice a12 us.length c12)).setCell ⟨G7, 2, none⟩ (.int .i64 r)).cell? ⟨bo, oo + m * 3 + k, none⟩ = some v) := fun v k _ h => ho _ _ _ (by have := N7.out.2.1; have := HBO.out; omega) h
            have o1 := HOP.out _ 1 (by omega) O1.out
            have o2 := HOP.out _ 2 (by omega) O2.out
            replace O1 := mkHid o1
            replace O2 := mkHid o2
            replace R11 := mkHid (Z7.out.cels ho R11.out)
            replace S11 := mkHid (Z7.out.ints ho S11.out HUN.out)
            have hr1 := HMP.out.2.2.r1
            replace RP := mkHid (Z7.out.ints ho RP.out (HPL.out.ne8 hr1 hxr))
            replace X0 := mkHid (X0.out.oth ho N7.out.1)
            replace XM := mkHid (XM.out.ne ho N7.out.2.2)
            replace HB := mkHid hbs
            replace Z7 := mkHid z6
            replace X7 := mkHid z6.c38
            clear ho hbs z6 HOP o1 o2 X3 P11 RX RU RT O0
            obtain ⟨w8, hV⟩ : ∃ V, (((w6.setCell ⟨G7, 0, none⟩ (.slice a11 xs3.length c11)).setCell ⟨G7, 1, none⟩ (.slice a12 us.length c12)).setCell ⟨G7, 2, none⟩ (.int .i64 r)) = V := ⟨_, rfl⟩
            rw [hV] at R11 S11 RP X0 XM HB Z7 X7 O1 O2 ⊢
            clear hV
            have RX := mkHid R11.out
            have RU := mkHid S11.out
            clear R11 S11
            replace HFW := mkHid HK.out.1
            replace HUD := HUD3
            replace hxr := hxr3
            have hEQ := HPE.out (by first | rfl | trivial)
            replace HPL : Hid (PlOk xs3.length ps) := by rw [hEQ]; exact HPL
            rw [HQQ.out]
            refine ⟨rfl, ?_⟩
            (repeat apply Exists.intro)
            exact ⟨rfl, ⟨Z7.out, RX.out, RU.out, RP.out, HFW.out, HPL.out, hps, hxr, hu4, HUN.out, HUD.out, HB.out⟩, X0.out, XM.out, O1.out, O2.out⟩
      intro ev A' W8 hq8
      rw [hQQ] at hq8
      clear hQQ
      obtain ⟨rfl, hq8⟩ := hq8
      obtain ⟨e10, hq8⟩ := hq8
      obtain ⟨e11, hq8⟩ := hq8
      obtain ⟨e12, hq8⟩ := hq8
      obtain ⟨e13, hq8⟩ := hq8
      obtain ⟨e35, hq8⟩ := hq8
      obtain ⟨e36, hq8⟩ := hq8
      obtain ⟨e37, hq8⟩ := hq8
      obtain ⟨e38, hq8⟩ := hq8
      obtain ⟨e39, hq8⟩ := hq8
      obtain ⟨e40, hq8⟩ := hq8
      obtain ⟨e41, hq8⟩ := hq8
      obtain ⟨e42, hq8⟩ := hq8
      obtain ⟨e43, hq8⟩ := hq8
      obtain ⟨e44, hq8⟩ := hq8
      obtain ⟨e45, hq8⟩ := hq8
      obtain ⟨e46, hq8⟩ := hq8
      obtain ⟨e47, hq8⟩ := hq8
      obtain ⟨e48, hq8⟩ := hq8
      obtain ⟨e49, hq8⟩ := hq8
      obtain ⟨e50, hq8⟩ := hq8
      obtain ⟨e51, hq8⟩ := hq8
      obtain ⟨e52, hq8⟩ := hq8
      obtain ⟨e53, hq8⟩ := hq8
      obtain ⟨e54, hq8⟩ := hq8
      obtain ⟨e55, hq8⟩ := hq8
      obtain ⟨e56, hq8⟩ := hq8
      obtain ⟨e57, hq8⟩ := hq8
      obtain ⟨e58, hq8⟩ := hq8
      obtain ⟨e59, hq8⟩ := hq8
      obtain ⟨e60, hq8⟩ := hq8
      obtain ⟨e61, hq8⟩ := hq8
      obtain ⟨e62, hq8⟩ := hq8
      obtain ⟨e63, hq8⟩ := hq8
      obtain ⟨e64, hq8⟩ := hq8
      obtain ⟨e65, hq8⟩ := hq8
      obtain ⟨e66, hq8⟩ := hq8
      obtain ⟨xs1, hq8⟩ := hq8
      obtain ⟨us1, hq8⟩ := hq8
      obtain ⟨ps1, hq8⟩ := hq8
      obtain ⟨ag1, hq8⟩ := hq8
      obtain ⟨cg1, hq8⟩ := hq8
      obtain ⟨tg1, hq8⟩ := hq8
      obtain ⟨ct1, hq8⟩ := hq8
      obtain ⟨pa1, hq8⟩ := hq8
      obtain ⟨pc1, hq8⟩ := hq8
      obtain ⟨rfl, HL8, x08, xm8, o18, o28⟩ := hq8
      subst hA8
      simp only [Act.put, List.setIfInBounds_toArray, List.set_cons_zero, List.set_cons_succ]
      have HL := mkHid HL8
      have X0n := mkHid x08
      have XMn := mkHid xm8
      have O1n := mkHid o18
      have O2n := mkHid o28
      clear HL8 x08 xm8 o18 o28 Z7 X7 RX RU RP HB HFW HPL HUN HUD hps hxr hx4 hu4 X0 XM O0 O1 O2 RT hmx hmu hmp hlx hlu hlp
      have hmx := HL.out.rx.max
      have hmu := HL.out.ru.max
      have hmp := HL.out.rp.max
      have hlx := HL.out.rx.le
      have hlu := HL.out.ru.le
      have hlp := HL.out.rp.le
      have Z7 := mkHid HL.out.z
      have X7 := mkHid HL.out.z.c38
      have RX := mkHid HL.out.rx
      have RU := mkHid HL.out.ru
      have RP := mkHid HL.out.rp
      have HB := mkHid HL.out.below
      have HFW := mkHid HL.out.few
      have HPL := mkHid HL.out.pl
      have HUN := mkHid HL.out.une
      have HUD := mkHid HL.out.und
      have hps := HL.out.sh
      have hxr := HL.out.le
      have hu4 := HL.out.le2
      have hx4 : xs1.length ≤ 4096 := by have := HMP.out.2.2.r2; omega
      have X0 := X0n
      have XM := XMn
      have O1 := O1n
      have O2 := O2n
      clear HL X0n XMn O1n O2n
      go_wp2_with fail
      generalize hA : Act.mk _ _ = A0
      refine Code.wp_mono (Q := fun ev A' W' => ev = .normal ∧ ∃ (e68 e69 e70 e71 e72 e73 e74 e75 e76 e77 e78 e79 e67 e80 e81 : Value) (B : Nat) (xs9 : List Cel) (us9 : List Int) (t9 : Bool) (a9 : Option Addr) (c9 : Nat) (a10 : Option Addr) (c10 : Nat), A' = (((((((((((((((((A0.put (some 68) e68).put (some 69) e69).put (some 70) e70).put (some 71) e71).put (some 72) e72).put (some 73) e73).put (some 74) e74).put (some 75) e75).put (some 76) e76).put (some 77) e77).put (some 78) e78).put (some 79) e79).put (some 67) e67).put (some 80) e80).put (some 81) e81).put (some 14) (.pointer (some ⟨B, 0, none⟩))).put (some 15) (.bool t9)) ∧ C38 W' B (.slice a9 xs9.length c9) (.slice a10 us9.length c10) (.int .i64 r) ∧ Row W' a9 c9 xs9 ∧ Row W' a10 c10 us9 ∧ UOut xs1 us1 p q xs9 us9 t9 ∧ W8.heap.size ≤ B ∧ Below W8.heap.size W8 W') ?_ ?_
      rotate_left
      · subst hA
        have HS : Hid (∀ X, Below W8.heap.size W8 X → (fun X => C38 X G7 (.slice ag1 xs1.length cg1) (.slice tg1 us1.length ct1) (.int .i64 r) ∧ X.cell? ⟨bo, oo + m * 3 + 1, none⟩ = some (.int .i64 p) ∧ X.cell? ⟨bo, oo + m * 3 + 2, none⟩ = some (.int .i64 q)) X) := fun X h => ⟨X7.out.below h, keep O1.out h, keep O2.out h⟩
        have hd0 : Below W8.heap.size W8 W8.drew := (Below.refl _ _).drew
        refine wp_region_noPanic ?_
        refine wp_region_held_drew (S := fun X => C38 X G7 (.slice ag1 xs1.length cg1) (.slice tg1 us1.length ct1) (.int .i64 r) ∧ X.cell? ⟨bo, oo + m * 3 + 1, none⟩ = some (.int .i64 p) ∧ X.cell? ⟨bo, oo + m * 3 + 2, none⟩ = some (.int .i64 q)) (by kernel_rfl) (HS.out _ hd0) (fun hSd => ?_)
        obtain ⟨v0, hx0⟩ : ∃ X, W8.drew = X := ⟨_, rfl⟩
        rw [hx0] at hd0 hSd ⊢
        clear hx0
        refine wpAnyH_take (i := 0) (oi := _) (v := ?_) rfl (by kernel_rfl) (by kernel_rfl) (by kernel_rfl) (fun _ _ _ h => h) (Or.inl ⟨by rfl, ?_⟩) (by assumption) ?_
        rotate_left
        · (intro w' hSw; obtain ⟨⟨q0, q1, q2⟩, q3, q4⟩ := hSw; go_simp; try with_reducible rfl)
        (try simp only [List.getElem_toArray, List.getElem_cons_succ, List.getElem_cons_zero, Act.put, List.setIfInBounds_toArray, List.set_cons_zero, List.set_cons_succ])
        refine wpAnyH_take (i := 1) (oi := _) (v := ?_) rfl (by kernel_rfl) (by kernel_rfl) (by kernel_rfl) (fun _ _ _ h => h) (Or.inl ⟨by rfl, ?_⟩) (by assumption) ?_
        rotate_left
        · (intro w' hSw; obtain ⟨⟨q0, q1, q2⟩, q3, q4⟩ := hSw; go_simp; try with_reducible rfl)
        (try simp only [List.getElem_toArray, List.getElem_cons_succ, List.getElem_cons_zero, Act.put, List.setIfInBounds_toArray, List.set_cons_zero, List.set_cons_succ])
        refine wpAnyH_take (i := 2) (oi := _) (v := ?_) rfl (by kernel_rfl) (by kernel_rfl) (by kernel_rfl) (fun _ _ _ h => h) (Or.inl ⟨by rfl, ?_⟩) (by assumption) ?_
        rotate_left
        · (intro w' hSw; obtain ⟨⟨q0, q1, q2⟩, q3, q4⟩ := hSw; go_simp; try with_reducible rfl)
        (try simp only [List.getElem_toArray, List.getElem_cons_succ, List.getElem_cons_zero, Act.put, List.setIfInBounds_toArray, List.set_cons_zero, List.set_cons_succ])
        refine wpAnyH_take (i := 3) (oi := _) (v := ?_) rfl (by kernel_rfl) (by kernel_rfl) (by kernel_rfl) (fun _ _ _ h => h) (Or.inl ⟨by rfl, ?_⟩) (by assumption) ?_
        rotate_left
        · (intro w' hSw; obtain ⟨⟨q0, q1, q2⟩, q3, q4⟩ := hSw; go_simp; try with_reducible rfl)
        (try simp only [List.getElem_toArray, List.getElem_cons_succ, List.getElem_cons_zero, Act.put, List.setIfInBounds_toArray, List.set_cons_zero, List.set_cons_succ])
        refine wpAnyH_take (i := 4) (oi := _) (v := ?_) rfl (by kernel_rfl) (by kernel_rfl) (by kernel_rfl) (fun _ _ _ h => h) (Or.inl ⟨by rfl, ?_⟩) (by assumption) ?_
        rotate_left
        · (intro w' hSw; obtain ⟨⟨q0, q1, q2⟩, q3, q4⟩ := hSw; go_simp; try with_reducible rfl)
        (try simp only [List.getElem_toArray, List.getElem_cons_succ, List.getElem_cons_zero, Act.put, List.setIfInBounds_toArray, List.set_cons_zero, List.set_cons_succ])
        refine wpAnyH_take (i := 5) (oi := _) (v := ?_) rfl (by kernel_rfl) (by kernel_rfl) (by kernel_rfl) (fun _ _ _ h => h) (Or.inl ⟨by rfl, ?_⟩) (by assumption) ?_
        rotate_left
        · (intro w' hSw; obtain ⟨⟨q0, q1, q2⟩, q3, q4⟩ := hSw; go_simp; try with_reducible rfl)
        (try simp only [List.getElem_toArray, List.getElem_cons_succ, List.getElem_cons_zero, Act.put, List.setIfInBounds_toArray, List.set_cons_zero, List.set_cons_succ])
        refine wpAnyH_take (i := 6) (oi := _) (v := ?_) rfl (by kernel_rfl) (by kernel_rfl) (by kernel_rfl) (fun _ _ _ h => h) (Or.inl ⟨by rfl, ?_⟩) (by assumption) ?_
        rotate_left
        · (intro w' hSw; obtain ⟨⟨q0, q1, q2⟩, q3, q4⟩ := hSw; go_simp; try with_reducible rfl)
        (try simp only [List.getElem_toArray, List.getElem_cons_succ, List.getElem_cons_zero, Act.put, List.setIfInBounds_toArray, List.set_cons_zero, List.set_cons_succ])
        refine wpAnyH_take (i := 7) (oi := _) (v := ?_) rfl (by kernel_rfl) (by kernel_rfl) (by kernel_rfl) (fun _ _ _ h => h) (Or.inl ⟨by rfl, ?_⟩) (by assumption) ?_
        rotate_left
        · (intro w' hSw; obtain ⟨⟨q0, q1, q2⟩, q3, q4⟩ := hSw; go_simp; try with_reducible rfl)
        (try simp only [List.getElem_toArray, List.getElem_cons_succ, List.getElem_cons_zero, Act.put, List.setIfInBounds_toArray, List.set_cons_zero, List.set_cons_succ])
        refine wpAnyH_take (i := 8) (oi := _) (v := ?_) rfl (by kernel_rfl) (by kernel_rfl) (by kernel_rfl) (fun _ _ _ h => h) (Or.inl ⟨by rfl, ?_⟩) (by assumption) ?_
        rotate_left
        · (intro w' hSw; obtain ⟨⟨q0, q1, q2⟩, q3, q4⟩ := hSw; go_simp; try with_reducible rfl)
        (try simp only [List.getElem_toArray, List.getElem_cons_succ, List.getElem_cons_zero, Act.put, List.setIfInBounds_toArray, List.set_cons_zero, List.set_cons_succ])
        refine wpAnyH_take (i := 9) (oi := _) (v := ?_) rfl (by kernel_rfl) (by kernel_rfl) (by kernel_rfl) (fun _ _ _ h => h) (Or.inl ⟨by rfl, ?_⟩) (by assumption) ?_
        rotate_left
        · (intro w' hSw; obtain ⟨⟨q0, q1, q2⟩, q3, q4⟩ := hSw; go_simp; try with_reducible rfl)
        (try simp only [List.getElem_toArray, List.getElem_cons_succ, List.getElem_cons_zero, Act.put, List.setIfInBounds_toArray, List.set_cons_zero, List.set_cons_succ])
        refine wpAnyH_take (i := 10) (oi := _) (v := ?_) rfl (by kernel_rfl) (by kernel_rfl) (by kernel_rfl) (fun _ _ _ h => h) (Or.inl ⟨by rfl, ?_⟩) (by assumption) ?_
        rotate_left
        · (intro w' hSw; obtain ⟨⟨q0, q1, q2⟩, q3, q4⟩ := hSw; go_simp; try with_reducible rfl)
        (try simp only [List.getElem_toArray, List.getElem_cons_succ, List.getElem_cons_zero, Act.put, List.setIfInBounds_toArray, List.set_cons_zero, List.set_cons_succ])
        refine wpAnyH_ready (rs := [11, 15]) (by kernel_rfl) (by simp) ?_
        refine AllReadyH.cons (o := _) rfl (fun K hK => ?_) ?_
        · skip
          go_simp
          refine (hunify ag1 cg1 tg1 ct1 r p q _ xs1 us1 (RX.out.below hd0) (RU.out.below hd0) (by omega) (by omega) HFT.out HFW.out).mono ?_
          rintro e v1 ⟨xs9, us9, t9, a9, c9, a10, c10, rfl, hU, r9, s9, hbv1⟩
          have hd1 := hd0.then hbv1
          try dsimp only
          refine hK.out _ _ (HS.out _ hd1) (fun hS1 => ?_)
          clear hK K
          (try simp only [List.getElem_toArray, List.getElem_cons_succ, List.getElem_cons_zero, Act.put, List.setIfInBounds_toArray, List.set_cons_zero, List.set_cons_succ])
          refine wpAnyH_take (i := 12) (oi := _) (v := ?_) rfl (by kernel_rfl) (by kernel_rfl) (by kernel_rfl) (fun _ _ _ h => h) (Or.inl ⟨by rfl, ?_⟩) (by assumption) ?_
          rotate_left
          · (intro w' hSw; obtain ⟨⟨q0, q1, q2⟩, q3, q4⟩ := hSw; go_simp; try with_reducible rfl)
          (try simp only [List.getElem_toArray, List.getElem_cons_succ, List.getElem_cons_zero, Act.put, List.setIfInBounds_toArray, List.set_cons_zero, List.set_cons_succ])
          refine wpAnyH_take (i := 13) (oi := _) (v := ?_) rfl (by kernel_rfl) (by kernel_rfl) (by kernel_rfl) (fun _ _ _ h => h) (Or.inl ⟨by rfl, ?_⟩) (by assumption) ?_
          rotate_left
          · (intro w' hSw; obtain ⟨⟨q0, q1, q2⟩, q3, q4⟩ := hSw; go_simp; try with_reducible rfl)
          (try simp only [List.getElem_toArray, List.getElem_cons_succ, List.getElem_cons_zero, Act.put, List.setIfInBounds_toArray, List.set_cons_zero, List.set_cons_succ])
          refine wpAnyH_take (i := 14) (oi := _) (v := ?_) rfl (by kernel_rfl) (by kernel_rfl) (by kernel_rfl) (fun _ _ _ h => h) (Or.inl ⟨by rfl, ?_⟩) (by assumption) ?_
          rotate_left
          · (intro w' hSw; obtain ⟨⟨q0, q1, q2⟩, q3, q4⟩ := hSw; go_simp; try with_reducible rfl)
          (try simp only [List.getElem_toArray, List.getElem_cons_succ, List.getElem_cons_zero, Act.put, List.setIfInBounds_toArray, List.set_cons_zero, List.set_cons_succ])
          refine wpAnyH_ready (rs := [15]) (by kernel_rfl) (by simp) ?_
          refine AllReadyH.cons (o := _) rfl (fun K hK => ?_) AllReadyH.nil
          go_simp
          try dsimp only
          have q0 : ZB (v1.alloc (.cells #[.slice none 0 0, .slice none 0 0, .int .i64 0] 25)) v1.heap.size := ZB.new v1
          have hge := hd1.size
          have hbv2 := (Below.refl v1.heap.size v1).new (.cells #[.slice none 0 0, .slice none 0 0, .int .i64 0] 25)
          have hlt : v1.heap.size < (v1.alloc (.cells #[.slice none 0 0, .slice none 0 0, .int .i64 0] 25)).heap.size := by simp
          have hd2 := hd1.then hbv2
          refine hK.out _ _ (HS.out _ hd2) (fun hS2 => ?_)
          clear hK K
          (try simp only [List.getElem_toArray, List.getElem_cons_succ, List.getElem_cons_zero, Act.put, List.setIfInBounds_toArray, List.set_cons_zero, List.set_cons_succ])
          obtain ⟨v2, hV⟩ : ∃ V, v1.alloc (.cells #[.slice none 0 0, .slice none 0 0, .int .i64 0] 25) = V := ⟨_, rfl⟩
          obtain ⟨B, hG⟩ : ∃ V, v1.heap.size = V := ⟨_, rfl⟩
          rw [hV] at q0 hd2 hS2 hbv2 hlt ⊢
          rw [hG] at q0 hge hlt ⊢
          have RZ := mkHid q0
          have HGE := mkHid hge
          have HLT := mkHid hlt
          have r9a := r9.row.below hbv2
          have s9a := s9.row.below hbv2
          have hBX : v1.heap.size ≤ B := by omega
          clear hV hG q0 hge hlt
          refine wpAnyH_ready (rs := [16]) (by kernel_rfl) (by simp) ?_
          refine AllReadyH.cons (o := _) rfl (fun K hK => ?_) AllReadyH.nil
          have z0 := RZ.out.cell 0
          have z1 := RZ.out.cell 1
          have z2 := RZ.out.cell 2
          have y0 := RZ.out.froz 0
          have y1 := RZ.out.froz 1
          have y2 := RZ.out.froz 2
          simp only [List.getElem?_toArray, List.getElem?_cons_zero, List.getElem?_cons_succ] at z0 z1 z2
          go_simp
          try dsimp only
          have hbx : C38 (((v2.setCell ⟨B, 0, none⟩ (.slice a9 xs9.length c9)).setCell ⟨B, 1, none⟩ (.slice a10 us9.length c10)).setCell ⟨B, 2, none⟩ (.int .i64 r)) B (.slice a9 xs9.length c9) (.slice a10 us9.length c10) (.int .i64 r) := RZ.out.set3c _ _ _
          have hd3 : Below W8.heap.size W8 (((v2.setCell ⟨B, 0, none⟩ (.slice a9 xs9.length c9)).setCell ⟨B, 1, none⟩ (.slice a10 us9.length c10)).setCell ⟨B, 2, none⟩ (.int .i64 r)) := hd2.trans ((set3 B v2 _ _ _).mono HGE.out)
          have r9z := (r9.row.below ((hbv2).trans ((set3 B v2 (.slice a9 xs9.length c9) (.slice a10 us9.length c10) (.int .i64 r)).mono hBX)))
          have s9z := (s9.row.below ((hbv2).trans ((set3 B v2 (.slice a9 xs9.length c9) (.slice a10 us9.length c10) (.int .i64 r)).mono hBX)))
          clear z0 z1 z2 y0 y1 y2
          refine hK.out _ _ (HS.out _ hd3) (fun hS3 => ?_)
          clear hK K
          (try simp only [List.getElem_toArray, List.getElem_cons_succ, List.getElem_cons_zero, Act.put, List.setIfInBounds_toArray, List.set_cons_zero, List.set_cons_succ])
          refine wpAnyH_take (i := 17) (oi := _) (v := ?_) rfl (by kernel_rfl) (by kernel_rfl) (by kernel_rfl) (fun _ _ _ h => h) (Or.inl ⟨by rfl, ?_⟩) (by assumption) ?_
          rotate_left
          · (intro w' hSw; obtain ⟨⟨q0, q1, q2⟩, q3, q4⟩ := hSw; go_simp; try with_reducible rfl)
          (try simp only [List.getElem_toArray, List.getElem_cons_succ, List.getElem_cons_zero, Act.put, List.setIfInBounds_toArray, List.set_cons_zero, List.set_cons_succ])
          refine wpAnyH_done (by kernel_rfl) (NoPanic.normal ?_) _
          refine ⟨rfl, ?_⟩
          (repeat apply Exists.intro)
          exact ⟨rfl, hbx, r9z, s9z, hU, HGE.out, hd3⟩
        refine AllReadyH.cons (o := _) rfl (fun K hK => ?_) AllReadyH.nil
        go_simp
        try dsimp only
        have q0 : ZB (v0.alloc (.cells #[.slice none 0 0, .slice none 0 0, .int .i64 0] 25)) v0.heap.size := ZB.new v0
        have hge := hd0.size
        have hbv1 := (Below.refl v0.heap.size v0).new (.cells #[.slice none 0 0, .slice none 0 0, .int .i64 0] 25)
        have hlt : v0.heap.size < (v0.alloc (.cells #[.slice none 0 0, .slice none 0 0, .int .i64 0] 25)).heap.size := by simp
        have hd1 := hd0.then hbv1
        refine hK.out _ _ (HS.out _ hd1) (fun hS1 => ?_)
        clear hK K
        (try simp only [List.getElem_toArray, List.getElem_cons_succ, List.getElem_cons_zero, Act.put, List.setIfInBounds_toArray, List.set_cons_zero, List.set_cons_succ])
        obtain ⟨v1, hV⟩ : ∃ V, v0.alloc (.cells #[.slice none 0 0, .slice none 0 0, .int .i64 0] 25) = V := ⟨_, rfl⟩
        obtain ⟨B, hG⟩ : ∃ V, v0.heap.size = V := ⟨_, rfl⟩
        rw [hV] at q0 hd1 hS1 hbv1 hlt ⊢
        rw [hG] at q0 hge hlt ⊢
        have RZ := mkHid q0
        have HGE := mkHid hge
        have HLT := mkHid hlt
        have hBX : v0.heap.size ≤ B := by omega
        clear hV hG q0 hge hlt
        refine wpAnyH_ready (rs := [11]) (by kernel_rfl) (by simp) ?_
        refine AllReadyH.cons (o := _) rfl (fun K hK => ?_) AllReadyH.nil
        go_simp
        refine (hunify ag1 cg1 tg1 ct1 r p q _ xs1 us1 (RX.out.below hd1) (RU.out.below hd1) (by omega) (by omega) HFT.out HFW.out).mono ?_
        rintro e v2 ⟨xs9, us9, t9, a9, c9, a10, c10, rfl, hU, r9, s9, hbv2⟩
        have hd2 := hd1.then hbv2
        try dsimp only
        refine hK.out _ _ (HS.out _ hd2) (fun hS2 => ?_)
        clear hK K
        (try simp only [List.getElem_toArray, List.getElem_cons_succ, List.getElem_cons_zero, Act.put, List.setIfInBounds_toArray, List.set_cons_zero, List.set_cons_succ])
        refine wpAnyH_take (i := 12) (oi := _) (v := ?_) rfl (by kernel_rfl) (by kernel_rfl) (by kernel_rfl) (fun _ _ _ h => h) (Or.inl ⟨by rfl, ?_⟩) (by assumption) ?_
        rotate_left
        · (intro w' hSw; obtain ⟨⟨q0, q1, q2⟩, q3, q4⟩ := hSw; go_simp; try with_reducible rfl)
        (try simp only [List.getElem_toArray, List.getElem_cons_succ, List.getElem_cons_zero, Act.put, List.setIfInBounds_toArray, List.set_cons_zero, List.set_cons_succ])
        refine wpAnyH_take (i := 13) (oi := _) (v := ?_) rfl (by kernel_rfl) (by kernel_rfl) (by kernel_rfl) (fun _ _ _ h => h) (Or.inl ⟨by rfl, ?_⟩) (by assumption) ?_
        rotate_left
        · (intro w' hSw; obtain ⟨⟨q0, q1, q2⟩, q3, q4⟩ := hSw; go_simp; try with_reducible rfl)
        (try simp only [List.getElem_toArray, List.getElem_cons_succ, List.getElem_cons_zero, Act.put, List.setIfInBounds_toArray, List.set_cons_zero, List.set_cons_succ])
        refine wpAnyH_take (i := 14) (oi := _) (v := ?_) rfl (by kernel_rfl) (by kernel_rfl) (by kernel_rfl) (fun _ _ _ h => h) (Or.inl ⟨by rfl, ?_⟩) (by assumption) ?_
        rotate_left
        · (intro w' hSw; obtain ⟨⟨q0, q1, q2⟩, q3, q4⟩ := hSw; go_simp; try with_reducible rfl)
        (try simp only [List.getElem_toArray, List.getElem_cons_succ, List.getElem_cons_zero, Act.put, List.setIfInBounds_toArray, List.set_cons_zero, List.set_cons_succ])
        replace RZ := mkHid (RZ.out.below hbv2)
        refine wpAnyH_ready (rs := [16]) (by kernel_rfl) (by simp) ?_
        refine AllReadyH.cons (o := _) rfl (fun K hK => ?_) AllReadyH.nil
        have z0 := RZ.out.cell 0
        have z1 := RZ.out.cell 1
        have z2 := RZ.out.cell 2
        have y0 := RZ.out.froz 0
        have y1 := RZ.out.froz 1
        have y2 := RZ.out.froz 2
        simp only [List.getElem?_toArray, List.getElem?_cons_zero, List.getElem?_cons_succ] at z0 z1 z2
        go_simp
        try dsimp only
        have hbx : C38 (((v2.setCell ⟨B, 0, none⟩ (.slice a9 xs9.length c9)).setCell ⟨B, 1, none⟩ (.slice a10 us9.length c10)).setCell ⟨B, 2, none⟩ (.int .i64 r)) B (.slice a9 xs9.length c9) (.slice a10 us9.length c10) (.int .i64 r) := RZ.out.set3c _ _ _
        have hd3 : Below W8.heap.size W8 (((v2.setCell ⟨B, 0, none⟩ (.slice a9 xs9.length c9)).setCell ⟨B, 1, none⟩ (.slice a10 us9.length c10)).setCell ⟨B, 2, none⟩ (.int .i64 r)) := hd2.trans ((set3 B v2 _ _ _).mono HGE.out)
        have r9z := (r9.grown (set3_grown B v2 (.slice a9 xs9.length c9) (.slice a10 us9.length c10) (.int .i64 r)) (fun g e => by cases e; exact HLT.out)).row
        have s9z := (s9.grown (set3_grown B v2 (.slice a9 xs9.length c9) (.slice a10 us9.length c10) (.int .i64 r)) (fun g e => by cases e; exact HLT.out)).row
        clear z0 z1 z2 y0 y1 y2
        refine hK.out _ _ (HS.out _ hd3) (fun hS3 => ?_)
        clear hK K
        (try simp only [List.getElem_toArray, List.getElem_cons_succ, List.getElem_cons_zero, Act.put, List.setIfInBounds_toArray, List.set_cons_zero, List.set_cons_succ])
        refine wpAnyH_take (i := 17) (oi := _) (v := ?_) rfl (by kernel_rfl) (by kernel_rfl) (by kernel_rfl) (fun _ _ _ h => h) (Or.inl ⟨by rfl, ?_⟩) (by assumption) ?_
        rotate_left
        · (intro w' hSw; obtain ⟨⟨q0, q1, q2⟩, q3, q4⟩ := hSw; go_simp; try with_reducible rfl)
        (try simp only [List.getElem_toArray, List.getElem_cons_succ, List.getElem_cons_zero, Act.put, List.setIfInBounds_toArray, List.set_cons_zero, List.set_cons_succ])
        refine wpAnyH_done (by kernel_rfl) (NoPanic.normal ?_) _
        refine ⟨rfl, ?_⟩
        (repeat apply Exists.intro)
        exact ⟨rfl, hbx, r9z, s9z, hU, HGE.out, hd3⟩
      rintro ev A' w9 ⟨rfl, e68, e69, e70, e71, e72, e73, e74, e75, e76, e77, e78, e79, e67, e80, e81, B9, xs9, us9, t9, a9, c9, a10, c10, rfl, hbx, r9, s9, hU, hge9, hw9⟩
      subst hA
      simp only [Act.put, List.setIfInBounds_toArray, List.set_cons_zero, List.set_cons_succ]
      replace Z7 := mkHid (Z7.out.below hw9)
      replace X7 := mkHid (X7.out.below hw9)
      replace RX := mkHid (RX.out.below hw9)
      replace RU := mkHid (RU.out.below hw9)
      replace RP := mkHid (RP.out.below hw9)
      replace X0 := mkHid (X0.out.below hw9)
      replace XM := mkHid (XM.out.below hw9)
      replace HB := mkHid (HB.out.then hw9)
      clear hw9
      have X9 := mkHid hbx
      have R9 := mkHid r9
      have S9 := mkHid s9
      clear hbx r9 s9
      obtain ⟨L9, hL9⟩ := uout_bnd hU
      have HL9 := mkHid hL9
      clear hU hL9
      have hm9 := S9.out.max
      have hl9 := S9.out.le
      have hm8 := R9.out.max
      have hl8 := R9.out.le
      have HLE9 : Hid (xs9.length = xs1.length) := HL9.out.len
      have hut := HL9.out.trail
      have f0 := Z7.out.froz 0
      have f1 := Z7.out.froz 1
      have f2 := Z7.out.froz 2
      have k7 := X7.out.lt
      obtain ⟨j70, j71, j72⟩ := X7.out
      have k9 := X9.out.lt
      obtain ⟨j90, j91, j92⟩ := X9.out
      go_wp2_with fail
      go_round
      case rel =>
        have ho := Oth.set3 w9 G7 (.slice a9 xs9.length c9) (.slice a10 us9.length c10) (.int .i64 r)
        have hr1 := HMP.out.2.2.r1
        refine ⟨m + 1, xs9, us9, ps1, a9, c9, a10, c10, pa1, pc1, by go_num, rfl, by omega, ⟨Z7.out.put _ _ _ _ _ _ _, Z7.out.cels ho R9.out, Z7.out.ints ho S9.out (HL9.out.ne hxr HUN.out), Z7.out.ints ho RP.out (HPL.out.ne8 hr1 hxr), HL9.out.few HFW.out, ?_, hps, ?_, by omega, HL9.out.ne hxr HUN.out, ?_, ?_⟩, X0.out.oth ho N7.out.1, XM.out.ne ho N7.out.2.2⟩
        · rw [HLE9.out]; exact HPL.out
        · rw [HLE9.out]; exact hxr
        · obtain ⟨L, hL⟩ := HUD.out; exact ⟨_, hL.bnd HL9.out⟩
        · exact HB.out.trans ((set3 G7 w9 _ _ _).mono N7.out.2.1)
      case measure => simp [intOf]; omega
end Go.Proofs.Ytefnmjoapmnkbaa
namespace Go.Proofs.Ytefnmjoapmnkbaa
open Go.RowKit Go.ChangeShapes Go.WideShapes Go.ChangeAt
open Go.ChangeMaps (open_string)

set_option maxRecDepth 100000 in
set_option maxHeartbeats 1000000 in
theorem HeapUndone_lifted (os : Os) (started : os.Started) (H : Type) (enc : TypeId × Value → H) :
    ReturnsInHanded {} Try.checked os 8 .any (Rows.heapUndoneSpec.pre6 enc Try.prog Try.f8 Rows.heapUndoneRow.domain false) (Rows.heapUndoneSpec.post enc Try.prog Try.f8 false true false false) := by
  refine returnsInHanded_of_change (C := Try.checked) Try.own started (by kernel_rfl) Try.func8
    (ChangeSpec.witness6 (enc := enc) (C := Try.checked) false ⟨#[], #[.agg #[.slice none 0 0, .slice none 0 0, .int .i64 0], .slice none 0 0], []⟩ 8 (by kernel_rfl) (by kernel_rfl) (by kernel_rfl) (by kernel_rfl)) ?_
  intro W base args ds gs before hval0 hW hcnd _
  have hval : ∀ (j : Nat) t v, Try.f8.params[j]? = some t → args[j]? = some v → Value.okWide Try.prog W .any base t v := hval0
  have hW' := hW
  obtain ⟨p, q, hA0, hV, rfl, hfz, hnd⟩ := hW
  have hA : DataW.TrodAll enc Try.prog W 0 (fun _ => true) true Try.f8.params.toList args.toList ds p := hA0
  rw [Try.params8] at hA hval
  obtain ⟨v0, vs0, d0, ds0, p0, q0, hargs, rfl, rfl, h0, r0⟩ := trodAll_cons hA
  obtain ⟨v1, vs1, d1, ds1, p1, q1, rfl, rfl, rfl, h1, r1⟩ := trodAll_cons r0
  obtain ⟨rfl, rfl, rfl⟩ := trodAll_nil r1
  obtain rfl : args = #[v0, v1] := by cases args; simp_all
  obtain ⟨rfl, rfl⟩ := trodVars_none hV
  have k0 := h0
  have lt0 : ∀ x ∈ p0, x.block < W.heap.size := by obtain ⟨m, hm⟩ := k0; exact DataW.trod_lt m _ _ _ hm
  obtain ⟨l0, ts0, r00, a0, b0, e0, c0, rfl, hr0, ht0⟩ : ∃ (l : List Cel) (ts : List Int) (r : Int) (a : Option Addr) (b : Nat) (e : Option Addr) (c : Nat), v0 = .agg #[.slice a l.length b, .slice e ts.length c, .int .i64 r] ∧ Row W a b l ∧ Row W e c ts := by
    obtain ⟨⟨l⟩, rfl⟩ := agg_heap (hval 0 25 v0 rfl rfl)
    obtain ⟨fuel, hf⟩ := h0
    obtain ⟨xs, us, r, a, b, e, c, hc, g0, g1⟩ := open_heap8 hf
    have hc' : l = [.slice a xs.length b, .slice e us.length c, .int .i64 r] := hc
    exact ⟨xs, us, r, a, b, e, c, by rw [hc'], g0, g1⟩
  have k1 := h1
  have lt1 : ∀ x ∈ p1, x.block < W.heap.size := by obtain ⟨m, hm⟩ := k1; exact DataW.trod_lt m _ _ _ hm
  obtain ⟨a1, len1, cap1, rfl⟩ := okWide_slice Try.underlying63 (hval 1 63 v1 rfl rfl)
  obtain ⟨xs1, rfl, hr1⟩ : ∃ xs : List OpH, xs.length = len1 ∧ Row W a1 cap1 xs := by
    obtain ⟨fuel, hf⟩ := h1
    exact open_ops8 hf
  clear hA0 hval0
  refine (lawUndone_any head8_any a0 b0 e0 c0 r00 a1 cap1 W l0 ts0 xs1 hr0 ht0 hr1).mono fun e W' ⟨he, bel⟩ => ?_
  subst he
  exact ⟨_, rfl, _, _, _, [], _, [], hW', trodAll_mk1 (shut_bool Try.underlying4 _), (trodAll_cons_mk (Below.trod Try.laidOut (by kernel_rfl) (of_decide_eq_true (by kernel_rfl)) k0 bel lt0) (trodAll_cons_mk (Below.trod Try.laidOut (by kernel_rfl) (of_decide_eq_true (by kernel_rfl)) k1 bel lt1) trodAll_mk0)), rfl, bel.frame _, fun h => by cases h⟩

theorem HeapUndone_over : Rows.heapUndoneRow.holds Try.pinned (OpenSpec.ofChange Rows.heapUndoneSpec) :=
  OpenClaim.holds_of_wide 8 Try.f8 rfl rfl rfl rfl rfl rfl rfl ⟨rfl, rfl, rfl, rfl, rfl⟩ rfl rfl rfl rfl rfl (by kernel_rfl) Try.func8 (by kernel_rfl)
    (of_decide_eq_true (by kernel_rfl)) (by unfold Func.isWrapper; first | (rw [if_pos (by decide +kernel)]; kernel_rfl) | (rw [if_neg (by decide +kernel)]; exact ⟨rfl, rfl⟩))
    (fun os started H enc _ => HeapUndone_lifted os started H enc)

theorem HeapUndone_holds : Rows.HeapUndoneSaid := HeapUndone_over
end Go.Proofs.Ytefnmjoapmnkbaa
