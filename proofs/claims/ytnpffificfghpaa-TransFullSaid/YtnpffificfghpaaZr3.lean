import Derived.Test.YtnpffificfghpaaZr2
import Derived.Deep.RegionHeld3
import Derived.OrdersHeld
import Derived.Laws.Bits64b
import Derived.Shelf.Spec.SlicesInsertGrow
import Derived.Stop.Walk2
import Derived.Deep.LoopGhost
set_option linter.unusedVariables false
namespace Go.Proofs.Ytnpffificfghpaa
open Go.RowKit

/-! ### a change copied -/
section
variable {W : World} {k : Nat} {x0 x1 : Value} {T : Nat}
theorem b2_cells (h : W.heap[k]? = some (.cells #[x0, x1] T (0, 0))) : W.cell? ⟨k, 0, none⟩ = some x0 ∧ W.cell? ⟨k, 1, none⟩ = some x1 :=
  ⟨by rw [cell_of_row W _ 0 _ _ _ h]; rfl, by rw [cell_of_row W _ 1 _ _ _ h]; rfl⟩
theorem b2_free (h : W.heap[k]? = some (.cells #[x0, x1] T (0, 0))) : W.frozen? ⟨k, 0, none⟩ = false ∧ W.frozen? ⟨k, 1, none⟩ = false :=
  ⟨by simp [World.frozen?, h], by simp [World.frozen?, h]⟩
theorem b2_set0 (h : W.heap[k]? = some (.cells #[x0, x1] T (0, 0))) (v : Value) : (W.setCell ⟨k, 0, none⟩ v).heap[k]? = some (.cells #[v, x1] T (0, 0)) := by
  unfold World.setCell
  rw [Array.getElem?_modify, if_pos rfl, h]
  rfl
theorem b2_set1 (h : W.heap[k]? = some (.cells #[x0, x1] T (0, 0))) (v : Value) : (W.setCell ⟨k, 1, none⟩ v).heap[k]? = some (.cells #[x0, v] T (0, 0)) := by
  unfold World.setCell
  rw [Array.getElem?_modify, if_pos rfl, h]
  rfl
theorem set_far {g j : Nat} (h : W.heap[k]? = some (.cells #[x0, x1] T (0, 0))) (hg : k ≠ g) (v : Value) : (W.setCell ⟨g, j, none⟩ v).heap[k]? = some (.cells #[x0, x1] T (0, 0)) :=
  (Below.heap_setCell W ⟨g, j, none⟩ v k hg).trans h
end

set_option maxHeartbeats 1600000 in
set_option maxRecDepth 100000 in
theorem copiedChange_any (c : Lt) (a : Option Addr) (cap : Nat) (w : World) (hr : Row w a cap c.t) (hl : c.t.length ≤ 1000000) :
    Calls Try.prog 74 #[.agg #[.bool c.neg, .slice a c.t.length cap]] w fun e w' => ∃ a2 c2, e = .returned (.agg #[.bool c.neg, .slice a2 c.t.length c2]) ∧ NewRow w.heap.size w' a2 c2 c.t ∧ Below w.heap.size w w' := by
  obtain ⟨W, hW⟩ : ∃ W, (w.alloc (.cells #[.bool c.neg, .slice a c.t.length cap] 32)).alloc (.cells #[.bool false, .slice none 0 0] 32) = W := ⟨_, rfl⟩
  have hb0 : Below w.heap.size w W := by rw [← hW]; exact ((Below.refl _ _).new _).new _
  have hk0 : W.heap[w.heap.size]? = some (.cells #[.bool c.neg, .slice a c.t.length cap] 32 (0, 0)) := by
    rw [← hW]
    exact (heap_alloc_old _ _ (by simp)).trans (heap_alloc_new _ _)
  have hs1 : (w.alloc (.cells #[.bool c.neg, .slice a c.t.length cap] 32)).heap.size = w.heap.size + 1 := by simp
  have hk1 : W.heap[w.heap.size + 1]? = some (.cells #[.bool false, .slice none 0 0] 32 (0, 0)) := by
    rw [← hW, ← hs1]
    exact heap_alloc_new _ _
  have HZ : Hid (W.heap.size = w.heap.size + 2) := by rw [Hid, ← hW]; simp
  have hr0 := hr.below hb0
  have HK0 := mkHid hk0
  have HK1 := mkHid hk1
  obtain ⟨e0, e1⟩ := b2_cells hk0
  clear hk0 hk1 hs1
  go_enter Try.func74, Try.ntmps74
  go_wp2_with fail
  first | rw [hW] | skip
  clear hW
  refine (clone_new2 a cap W c.t hr0 hl).mono ?_
  rintro e w2 ⟨a2, c2, rfl, hn, hb2⟩
  have hX : w.heap.size < W.heap.size := by have := HZ.out; omega
  have hX1 : w.heap.size + 1 < W.heap.size := by have := HZ.out; omega
  have g0 := (hb2.block _ hX).trans HK0.out
  have g1 := (hb2.block _ hX1).trans HK1.out
  obtain ⟨c0, c1⟩ := b2_cells g0
  obtain ⟨f0, f1⟩ := b2_free g0
  obtain ⟨d0, d1⟩ := b2_cells (b2_set1 g0 (.slice a2 c.t.length c2))
  obtain ⟨l0, l1⟩ := b2_cells (set_far (g := w.heap.size) (j := 1) g1 (by omega) (.slice a2 c.t.length c2))
  obtain ⟨k0, k1⟩ := b2_free (set_far (g := w.heap.size) (j := 1) g1 (by omega) (.slice a2 c.t.length c2))
  have HB := mkHid (hb0.then hb2)
  have HN := mkHid hn
  clear g0 g1 hn hX hX1 e0 e1 hb0 hb2
  go_wp2_with fail
  refine bodyPost_ret (v := .agg #[.bool c.neg, .slice a2 c.t.length c2]) (by simp [results, Try.results74, go_sem, *]) rfl ⟨a2, c2, rfl, ?_, ?_⟩
  · refine ((HN.out.grown (r := some w.heap.size) (grown_set _ _ _ _) (fun q e => by cases e; have := HZ.out; omega)).grown (r := some (w.heap.size + 1)) (grown_set _ _ _ _) (fun q e => by cases e; have := HZ.out; omega)).grown (r := some (w.heap.size + 1)) (grown_set _ _ _ _) (fun q e => by cases e; have := HZ.out; omega) |>.mono (by have := HZ.out; omega)
  · exact ((HB.out.setCell (p := ⟨w.heap.size, 1, none⟩) (Nat.le_refl _) _).setCell (p := ⟨w.heap.size + 1, 0, none⟩) (by simp) _).setCell (p := ⟨w.heap.size + 1, 1, none⟩) (by simp) _
end Go.Proofs.Ytnpffificfghpaa
set_option linter.unusedVariables false
namespace Go.Proofs.Ytnpffificfghpaa
open Go.RowKit

/-! ### a base copied -/
theorem cell_far {w : World} {b o g j : Nat} {v u : Value} (hb : b ≠ g) (h : w.cell? ⟨b, o, none⟩ = some v) : (w.setCell ⟨g, j, none⟩ u).cell? ⟨b, o, none⟩ = some v :=
  (World.cell?_of_block (w := w) (a := ⟨b, o, none⟩) (Below.heap_setCell w ⟨g, j, none⟩ u b hb)).trans h
theorem blk_far {w : World} {k g j : Nat} {o : Obj} {u : Value} (h : w.heap[k]? = some o) (hg : k ≠ g) : (w.setCell ⟨g, j, none⟩ u).heap[k]? = some o :=
  (Below.heap_setCell w ⟨g, j, none⟩ u k hg).trans h
theorem VOwn.low {α : Type} [RepC α] {V w : World} {B B' e : Nat} {acc : List α} {v : Value} (h : VOwn V B e acc v w) (hb : B' ≤ B) : VOwn V B' e acc v w := by
  obtain ⟨vs, ⟨h1, h2⟩, hc⟩ := h
  refine ⟨vs, ⟨h1, ?_⟩, hc⟩
  rcases h2 with h2 | ⟨g, cap, cur, e1, hB, rest⟩
  · exact .inl h2
  · exact .inr ⟨g, cap, cur, e1, Nat.le_trans hb hB, rest⟩
theorem VOwn.far {α : Type} [RepC α] {V w w' : World} {B e : Nat} {acc : List α} {v : Value} (h : VOwn V B e acc v w) (hb : ∀ b, v.ownBlock = some b → w'.heap[b]? = w.heap[b]?) : VOwn V B e acc v w' :=
  let ⟨vs, ho, hc⟩ := h
  ⟨vs, own_blockN ho hb, hc⟩
def CopPost (us : List Nat) (w : World) (b : Bs) (e : Ending) (w' : World) : Prop :=
  ∃ a2 c2 a3 c3, e = .returned (.agg #[.slice a2 b.f.length c2, .int .i64 b.v, .bool b.on, .slice a3 b.td.length c3]) ∧ Row (veil ((Value.slice a3 b.td.length c3).ownBlock.toList ++ us) w') a2 c2 b.f ∧ VOwn (veil ((Value.slice a3 b.td.length c3).ownBlock.toList ++ us) w') w.heap.size 32 b.td (.slice a3 b.td.length c3) w' ∧ Below w.heap.size w w'

set_option maxHeartbeats 3200000 in
set_option maxRecDepth 100000 in
theorem copied_any (us : List Nat) (w : World) (b : Bs) (a : Option Addr) (c : Nat) (a' : Option Addr) (c' : Nat) (hu : ∀ k ∈ us, k < w.heap.size) (hr : Row (veil us w) a c b.f) (ht : Row (veil us w) a' c' b.td) (hl : b.f.length ≤ 1000000) (hs : ∀ x ∈ b.f, x.length ≤ 1000000) (hl2 : b.td.length ≤ 1000000) (hs2 : ∀ x ∈ b.td, x.t.length ≤ 1000000) :
    Calls Try.prog 73 #[.agg #[.slice a b.f.length c, .int .i64 b.v, .bool b.on, .slice a' b.td.length c']] w (CopPost us w b) := by
  obtain ⟨W, hW⟩ : ∃ W, (w.alloc (.cells #[.slice a b.f.length c, .int .i64 b.v, .bool b.on, .slice a' b.td.length c'] 25)).alloc (.cells #[.slice none 0 0, .int .i64 0, .bool false, .slice none 0 0] 25) = W := ⟨_, rfl⟩
  have hb0 : Below w.heap.size w W := by rw [← hW]; exact ((Below.refl _ _).new _).new _
  have HK0 : Hid (W.heap[w.heap.size]? = some (.cells #[.slice a b.f.length c, .int .i64 b.v, .bool b.on, .slice a' b.td.length c'] 25 (0, 0))) := by
    rw [Hid, ← hW]
    exact (heap_alloc_old _ _ (by simp)).trans (heap_alloc_new _ _)
  have hs1 : (w.alloc (.cells #[.slice a b.f.length c, .int .i64 b.v, .bool b.on, .slice a' b.td.length c'] 25)).heap.size = w.heap.size + 1 := by simp
  have HK1 : Hid (W.heap[w.heap.size + 1]? = some (.cells #[.slice none 0 0, .int .i64 0, .bool false, .slice none 0 0] 25 (0, 0))) := by
    rw [Hid, ← hW, ← hs1]
    exact heap_alloc_new _ _
  have HZ : Hid (W.heap.size = w.heap.size + 2) := by rw [Hid, ← hW]; simp
  obtain ⟨us2, hus2⟩ : ∃ us2, [w.heap.size, w.heap.size + 1] ++ us = us2 := ⟨_, rfl⟩
  have HU2 : Hid (∀ k ∈ us2, k < W.heap.size) := by
    rw [Hid, ← hus2]
    intro k hk
    have h3 := HZ.out
    rcases List.mem_append.1 hk with h | h
    · simp at h; omega
    · have := hu k h; omega
  have HM2 : Hid (∀ k ∈ us, k ∈ us2) := by rw [Hid, ← hus2]; exact fun k hk => List.mem_append_right _ hk
  have HX2 : Hid (w.heap.size ∈ us2 ∧ w.heap.size + 1 ∈ us2) := by rw [Hid, ← hus2]; simp
  have hto : Keeps (veil us w) (veil us2 W) := veil_toR (Fr.of hb0) fun k hk => by
    rw [← hus2] at hk
    rcases List.mem_append.1 hk with h | h
    · simp at h; right; omega
    · exact .inl h
  have HR := mkHid (hr.keeps hto)
  have HT := mkHid (ht.keeps hto)
  have HS := mkHid hs
  have HS2 := mkHid hs2
  have HB := mkHid hb0
  obtain ⟨e0, e1, e2, e3⟩ := st_cells HK0.out
  clear hr ht hs hs2 hs1 hb0 hto hus2 hu
  go_enter Try.func73, Try.ntmps73
  go_wp2_with fail
  first | rw [hW] | skip
  clear hW
  refine (copiedRow_any us2 a c W b.f HU2.out HR.out hl HS.out).mono ?_
  rintro e w2 ⟨a2, c2, rfl, hn, hb2⟩
  have hX : w.heap.size < W.heap.size := by have := HZ.out; omega
  have hX1 : w.heap.size + 1 < W.heap.size := by have := HZ.out; omega
  have g0 := (hb2.block _ hX).trans HK0.out
  have g1 := (hb2.block _ hX1).trans HK1.out
  obtain ⟨p0, p1, p2, p3⟩ := st_cells g0
  obtain ⟨f0, f1, f2, f3⟩ := st_free g0
  obtain ⟨w3, hw3⟩ : ∃ w3, w2.setCell ⟨w.heap.size, 0, none⟩ (.slice a2 b.f.length c2) = w3 := ⟨_, rfl⟩
  have q0 : w3.heap[w.heap.size]? = some (.cells #[.slice a2 b.f.length c2, .int .i64 b.v, .bool b.on, .slice a' b.td.length c'] 25 (0, 0)) := by rw [← hw3]; exact st0_set g0 _
  have q1 : w3.heap[w.heap.size + 1]? = some (.cells #[.slice none 0 0, .int .i64 0, .bool false, .slice none 0 0] 25 (0, 0)) := by rw [← hw3]; exact blk_far g1 (by omega)
  have hf3 : Fr us2 W w3 := by rw [← hw3]; exact (Fr.of hb2).set HX2.out.1 _
  have HR3 : Hid (Row (veil us2 w3) a2 c2 b.f) := by rw [Hid, ← hw3]; exact hn.keeps ((Fr.refl us2 w2).set HX2.out.1 _).keeps
  have HT3 := mkHid (HT.out.keeps hf3.keeps)
  have HB3 : Hid (Below w.heap.size w w3) := by rw [Hid, ← hw3]; exact (HB.out.then hb2).setCell (p := ⟨w.heap.size, 0, none⟩) (Nat.le_refl _) _
  have HZ3 : Hid (w.heap.size + 2 ≤ w3.heap.size) := by have h1 := HZ.out; have h2 := hf3.size; rw [Hid]; omega
  have HU3 : Hid (∀ k ∈ us2, k < w3.heap.size) := fun k hk => Nat.lt_of_lt_of_le (HU2.out k hk) hf3.size
  have HQ0 := mkHid q0
  have HQ1 := mkHid q1
  obtain ⟨s0, s1, s2, s3⟩ := st_cells q0
  clear e0 e1 e2 e3 g0 g1 p1 p2 p3 f1 f2 f3 hX hX1 hn hb2 q0 q1 HR HT hf3 HK0 HK1 HB HU2
  go_wp2_with fail
  first | rw [hw3] | skip
  clear hw3
  refine (cloneC_v (veil us2 w3) a' c' w3 b.td HT3.out (veil_keeps _ _) hl2).mono ?_
  rintro e w4 ⟨v, rfl, hown, hb4⟩
  obtain ⟨a3, c3, rfl, hle3, hmx3, hnl3⟩ := hown.slice
  clear hnl3
  obtain ⟨bs, hbs⟩ : ∃ bs, bs = (Value.slice a3 b.td.length c3).ownBlock.toList := ⟨_, rfl⟩
  have HBS := mkHid hbs
  have HLB : Hid (∀ k ∈ bs, w3.heap.size ≤ k ∧ k < w4.heap.size) := by
    rw [Hid, hbs]
    exact fun k hk => hown.lt k (by simpa using hk)
  have g0 := (hb4.block w.heap.size (by have := HZ3.out; omega)).trans HQ0.out
  have g1 := (hb4.block (w.heap.size + 1) (by have := HZ3.out; omega)).trans HQ1.out
  have z0 := (st_cells g0).2.2.2
  have y0 := (st_free g0).2.2.2
  obtain ⟨w5, hw5⟩ : ∃ w5, w4.setCell ⟨w.heap.size, 3, none⟩ (.slice a3 b.td.length c3) = w5 := ⟨_, rfl⟩
  have q0 : w5.heap[w.heap.size]? = some (.cells #[.slice a2 b.f.length c2, .int .i64 b.v, .bool b.on, .slice a3 b.td.length c3] 25 (0, 0)) := by rw [← hw5]; exact st3_set g0 _
  have q1 : w5.heap[w.heap.size + 1]? = some (.cells #[.slice none 0 0, .int .i64 0, .bool false, .slice none 0 0] 25 (0, 0)) := by rw [← hw5]; exact blk_far g1 (by omega)
  have hf5 : Fr us2 w3 w5 := by rw [← hw5]; exact (Fr.of hb4).set HX2.out.1 _
  have hto : Keeps (veil us2 w3) (veil (bs ++ us2) w5) := veil_toR hf5 fun k hk => by
    rcases List.mem_append.1 hk with h | h
    · exact .inr (HLB.out k h).1
    · exact .inl h
  have HR5 := mkHid (HR3.out.keeps hto)
  have HV5 : Hid (VOwn (veil (bs ++ us2) w5) w3.heap.size 32 b.td (.slice a3 b.td.length c3) w5) := by
    refine (hown.view hto).far fun q hq => ?_
    have h1 := (HLB.out q (by rw [hbs, hq]; simp)).1
    have h2 := HZ3.out
    rw [← hw5]
    exact Below.heap_setCell w4 _ _ q (by show q ≠ w.heap.size; omega)
  have HB5 : Hid (Below w.heap.size w w5) := by rw [Hid, ← hw5]; exact (HB3.out.then hb4).setCell (p := ⟨w.heap.size, 3, none⟩) (Nat.le_refl _) _
  have HZ5 : Hid (w3.heap.size ≤ w5.heap.size) := hf5.size
  have HQ0 := mkHid q0
  have HQ1 := mkHid q1
  have s3 := (st_cells q0).2.2.2
  clear g0 g1 q0 q1 hto hown hb4 hf5 HR3 HT3 HB3 hbs s0 s1 s2
  go_wp2_with fail
  first | rw [hw5] | skip
  clear hw5
  go_loopw [16] (fun i wr => ∃ k : Nat, k ≤ b.td.length ∧ i = .int .i64 k ∧ Hid (wr.heap[w.heap.size]? = some (.cells #[.slice a2 b.f.length c2, .int .i64 b.v, .bool b.on, .slice a3 b.td.length c3] 25 (0, 0))) ∧ Hid (wr.heap[w.heap.size + 1]? = some (.cells #[.slice none 0 0, .int .i64 0, .bool false, .slice none 0 0] 25 (0, 0))) ∧ Hid (Row (veil (bs ++ us2) wr) a2 c2 b.f) ∧ Hid (VOwn (veil (bs ++ us2) wr) w3.heap.size 32 b.td (.slice a3 b.td.length c3) wr) ∧ Hid (Below w.heap.size w wr) ∧ Hid (w3.heap.size ≤ wr.heap.size)) (fun i wr => b.td.length - (intOf i).toNat)
  case atStart => exact ⟨0, Nat.zero_le _, rfl, HQ0, HQ1, HR5, HV5, HB5, HZ5⟩
  case round =>
    clear HQ0 HQ1 HR5 HV5 HB5 HZ5 HLB s3 y0 z0 f0 p0
    obtain ⟨k, hk, rfl, HQ0, HQ1, HR5, HV5, HB5, HZ5⟩ := hrel
    have s3 := (st_cells HQ0.out).2.2.2
    by_cases hlt : k < b.td.length
    · obtain ⟨g, cp, e1, hgB, hgl, _, _⟩ := HV5.out.form (by omega)
      injection e1 with e1 _ e3
      subst e1
      obtain rfl : bs = [g] := HBS.out
      clear e3
      obtain ⟨a4, c4, d0, d1, hr4⟩ := HV5.out.at2 hlt
      have HR4 : Hid (Row wr a4 c4 b.td[k].t) := hr4.keeps (veil_keeps _ _)
      have hlx := HS2.out _ (List.getElem_mem hlt)
      have HGB : Hid (w3.heap.size ≤ g ∧ g < wr.heap.size) := ⟨hgB, hgl⟩
      obtain ⟨wq, hwq⟩ : ∃ wq, wr.alloc (.cells #[.bool b.td[k].neg, .slice a4 b.td[k].t.length c4] 32) = wq := ⟨_, rfl⟩
      have hbq : Below wr.heap.size wr wq := by rw [← hwq]; exact (Below.refl _ _).new _
      have HZQ : Hid (wq.heap.size = wr.heap.size + 1) := by rw [Hid, ← hwq]; simp
      have HBX : Hid (wq.heap[wr.heap.size]? = some (.cells #[.bool b.td[k].neg, .slice a4 b.td[k].t.length c4] 32 (0, 0))) := by rw [Hid, ← hwq]; exact heap_alloc_new _ _
      have HBQ := mkHid hbq
      have HS0 : Hid (∀ X, Below wq.heap.size wq X → X.cell? ⟨w.heap.size, 3, none⟩ = some (.slice (some ⟨g, 0, none⟩) b.td.length c3) ∧ X.cell? ⟨wr.heap.size, 0, none⟩ = some (.bool b.td[k].neg) ∧ X.cell? ⟨wr.heap.size, 1, none⟩ = some (.slice a4 b.td[k].t.length c4)) := fun X h => by
        obtain ⟨u0, u1⟩ := b2_cells HBX.out
        exact ⟨keep (keep s3 hbq) h, keep u0 h, keep u1 h⟩
      clear hbq hr4
      go_wp2_with fail
      first | rw [hwq] | skip
      clear hwq
      have HDR : Hid (Below wq.heap.size wq wq.drew) := (Below.refl _ _).drew
      have HN1 : Hid (w.heap.size ≠ g) := by have h1 := HZ3.out; rw [Hid]; omega
      have HN2 : Hid (wr.heap.size ≠ g) := by rw [Hid]; omega
      have HRQ := mkHid (HR4.out.below (HBQ.out.then HDR.out))
      have HD0 := mkHid d0
      have HD1 := mkHid d1
      clear d0 d1
      go_region_held3 (fun X => X.cell? ⟨w.heap.size, 3, none⟩ = some (.slice (some ⟨g, 0, none⟩) b.td.length c3) ∧ X.cell? ⟨wr.heap.size, 0, none⟩ = some (.bool b.td[k].neg) ∧ X.cell? ⟨wr.heap.size, 1, none⟩ = some (.slice a4 b.td[k].t.length c4))
        (first
          | exact HS0.out _ HDR.out
          | exact HS0.out _ (HDR.out.then hb6)
          | exact ⟨cell_far HN1.out (cell_far HN1.out (HS0.out _ (HDR.out.then hb6)).1), cell_far HN2.out (cell_far HN2.out (HS0.out _ (HDR.out.then hb6)).2.1), cell_far HN2.out (cell_far HN2.out (HS0.out _ (HDR.out.then hb6)).2.2)⟩)
        (first | (go_at_call 74; refine (copiedChange_any b.td[k] a4 c4 _ HRQ.out hlx).mono ?_; rintro e w6 ⟨a5, c5, rfl, hn6, hb6⟩; have HB6 := mkHid (HBQ.out.then (HDR.out.then hb6)); have HN6 := mkHid hn6; clear hn6; have i0 := keep HD0.out HB6.out; have i1 := keep HD1.out HB6.out; have j0 := (HV5.out.below HB6.out).free (k * 2); have j1 := (HV5.out.below HB6.out).free (k * 2 + 1)))
      obtain ⟨w7, hw7⟩ : ∃ w7, (w6.setCell ⟨g, k * 2, none⟩ (.bool b.td[k].neg)).setCell ⟨g, k * 2 + 1, none⟩ (.slice a5 b.td[k].t.length c5) = w7 := ⟨_, rfl⟩
      have HF7 : Hid (Fr [g] w6 w7) := by rw [Hid, ← hw7]; exact ((Fr.refl _ _).set (by simp) _).set (by simp) _
      have HFr : Hid (Fr ([g] ++ us2) wr w7) := (Fr.of HB6.out).trans (HF7.out.sub fun q hq => List.mem_append_left _ hq)
      have HQ0' := mkHid ((HF7.out.block w.heap.size (by have h1 := HB6.out.size; have h2 := HZ5.out; have h3 := HZ3.out; omega) (by simp; exact HN1.out)).trans ((HB6.out.block w.heap.size (by have h2 := HZ5.out; have h3 := HZ3.out; omega)).trans HQ0.out))
      have HQ1' := mkHid ((HF7.out.block (w.heap.size + 1) (by have h1 := HB6.out.size; have h2 := HZ5.out; have h3 := HZ3.out; omega) (by have h3 := HZ3.out; have h4 := HGB.out.1; simp; omega)).trans ((HB6.out.block (w.heap.size + 1) (by have h2 := HZ5.out; have h3 := HZ3.out; omega)).trans HQ1.out))
      have HR5' := mkHid (HR5.out.keeps HFr.out.keeps)
      have HV5' : Hid (VOwn (veil ([g] ++ us2) w7) w3.heap.size 32 b.td (.slice (some ⟨g, 0, none⟩) b.td.length c3) w7) := by
        have h1 := (HV5.out.below HB6.out).set2 (V' := veil ([g] ++ us2) w6) hlt (Fr.keeps (Fr.of HB6.out)) (HN6.out.keeps (under_veil fun q hq => by
          have h5 : wq.drew.heap.size = wr.heap.size + 1 := HZQ.out
          rw [h5]
          rcases List.mem_append.1 hq with hq | hq
          · rw [List.mem_singleton] at hq; have := HGB.out.2; omega
          · have h6 := HU3.out q hq; have h7 := HZ5.out; omega))
        rw [List.set_getElem_self] at h1
        rw [hw7] at h1
        exact h1.view (HF7.out.sub fun q hq => List.mem_append_left _ hq).keeps
      have HB5' : Hid (Below w.heap.size w w7) := by
        rw [Hid, ← hw7]
        exact ((HB5.out.then HB6.out).setCell (p := ⟨g, k * 2, none⟩) (by have h3 := HZ3.out; have h4 := HGB.out.1; show w.heap.size ≤ g; omega) _).setCell (p := ⟨g, k * 2 + 1, none⟩) (by have h3 := HZ3.out; have h4 := HGB.out.1; show w.heap.size ≤ g; omega) _
      have HZ5' : Hid (w3.heap.size ≤ w7.heap.size) := Nat.le_trans HZ5.out HFr.out.size
      clear i0 i1 j0 j1 HS0 HB6 HN6 HD0 HD1 HRQ HF7 HFr
      go_wp2_with fail
      first | rw [hw7] | skip
      clear hw7
      go_round
      case rel => exact ⟨k + 1, by omega, by go_num, HQ0', HQ1', HR5', HV5', HB5', HZ5'⟩
      case measure => simp [intOf]; omega
    · obtain ⟨p0, p1, p2, p3⟩ := st_cells HQ0.out
      obtain ⟨l0, l1, l2, l3⟩ := st_cells HQ1.out
      obtain ⟨k0, k1, k2, k3⟩ := st_free HQ1.out
      go_wp2_with fail
      refine bodyPost_ret (v := .agg #[.slice a2 b.f.length c2, .int .i64 b.v, .bool b.on, .slice a3 b.td.length c3]) (by simp [results, Try.results73, go_sem, *]) rfl ⟨a2, c2, a3, c3, rfl, ?_, ?_, ?_⟩
      · rw [← HBS.out]
        exact HR5.out.keeps ((Fr.four (Fr.refl (bs ++ us2) wr) (List.mem_append_right _ HX2.out.2) _ _ _ _).keeps.trans (veil_mono _ fun q hq => (List.mem_append.1 hq).elim (fun h => List.mem_append_left _ h) fun h => List.mem_append_right _ (HM2.out q h)))
      · rw [← HBS.out]
        refine ((HV5.out.view ((Fr.four (Fr.refl (bs ++ us2) wr) (List.mem_append_right _ HX2.out.2) _ _ _ _).keeps.trans (veil_mono _ fun q hq => (List.mem_append.1 hq).elim (fun h => List.mem_append_left _ h) fun h => List.mem_append_right _ (HM2.out q h)))).far fun q hq => ?_).low (by have h3 := HZ3.out; omega)
        have h1 := (HV5.out.lt q hq).1
        have h3 := HZ3.out
        exact ((Fr.four (Fr.refl [w.heap.size + 1] wr) (List.mem_singleton.2 rfl) _ _ _ _).block q (HV5.out.lt q hq).2 (by simp; omega))
      · exact below_four HB5.out (Nat.le_succ _) _ _ _ _
end Go.Proofs.Ytnpffificfghpaa
namespace Go.Proofs.Ytnpffificfghpaa
open Go.RowKit

/-! ### is it a fact? -/
section
variable {n : Nat} {xs : List Cel} {a : Option Addr} {cap : Nat} {w : World}
theorem refright_litF (hn : n = xs.length) (hr : Row w a cap xs) {b : Bool} (hb : rightB xs = b) :
    Calls Try.prog 49 #[.slice a n cap] w fun e w' => e = .returned (.bool b) ∧ Below w.heap.size w w' := by
  subst hn; subst hb; exact refright_any a cap w xs hr
theorem refground_litF (hn : n = xs.length) (hr : Row w a cap xs) (hl : xs.length ≤ 1000000) {b : Bool} (hb : groundB xs = b) :
    Calls Try.prog 144 #[.slice a n cap] w fun e w' => e = .returned (.bool b) ∧ Below w.heap.size w w' := by
  subst hn; subst hb; exact refground_any a cap w xs hr hl
theorem refdepth_litF {t : Tm} (hx : t.flat = xs) (ht : t.ok) (hn : n = xs.length) (hl : xs.length ≤ 200) (hr : Row w a cap xs) {d : Nat} (hd : t.depth = d) :
    Calls Try.prog 83 #[.slice a n cap] w fun e w' => e = .returned (.int .i64 d) ∧ Below w.heap.size w w' := by
  subst hn; subst hx; subst hd; exact refdepth_any _ t a cap w (Nat.le_refl _) ht hl hr
end

set_option maxHeartbeats 1600000 in
theorem fact_any (a : Option Addr) (cap : Nat) (w : World) (xs : List Cel) (hx : Row w a cap xs) :
    Calls Try.prog 67 #[.slice a xs.length cap] w fun e w' => e = .returned (.bool (factB xs)) ∧ Below w.heap.size w w' := by
  have hm := hx.max
  have hm2 := hx.le
  cases hR : rightB xs with
  | false =>
    have HF : Hid (factB xs = false) := by unfold Hid factB; rw [hR]; rfl
    have HR := mkHid hR
    clear hR
    go_enter Try.func67, Try.ntmps67
    go_wp2_with fail
    refine (right_lit rfl hx HR.out).mono ?_; rintro e w1 ⟨rfl, hb1⟩
    go_wp2_with fail
    go_ret
    exact ⟨ret_bool HF.out.symm, hb1⟩
  | true =>
    obtain ⟨t, ht, hxt, h200⟩ := right_tm hR
    have h0 : 0 < xs.length := by rw [hxt]; exact flat_pos t
    have HX := mkHid hxt.symm
    have HT := mkHid ht
    obtain ⟨b, off, rfl, hb, hat⟩ := hx.cases.resolve_left (fun e => by simp [e] at h0)
    obtain ⟨d, hd⟩ : ∃ d, t.depth = d := ⟨_, rfl⟩
    have HD := mkHid hd
    obtain ⟨g, hg⟩ : ∃ g, groundB xs = g := ⟨_, rfl⟩
    have HG := mkHid hg
    have HR := mkHid hR
    have HF : Hid (factB xs = (decide (xs[0].k = 3) && (g && decide (d ≤ 12)))) := by
      have hfun : funB xs = decide (xs[0].k = 3) := by
        cases xs with
        | nil => simp at h0
        | cons c l => rfl
      have hdd : depthL xs = d := by rw [hxt, depthL_flat ht, hd]
      unfold Hid factB
      rw [hR, hg, hfun, hdd, Bool.true_and, Bool.and_assoc]
    clear hR hxt ht hd hg
    have hdn : (d : Int) ≤ 200 := by
      have := HD.out; have h1 := depth_le t; rw [HX.out] at h1; omega
    by_cases h3 : xs[0].k = 3
    · have t3 : (xs[0].k == 3) = true := by simp [h3]
      have HF2 : Hid (factB xs = (g && decide (d ≤ 12))) := by rw [Hid, HF.out, h3]; simp
      clear h3 HF
      go_enter Try.func67, Try.ntmps67
      go_wp2_with fail
      refine (right_lit rfl hx HR.out).mono ?_; rintro e w1 ⟨rfl, hb1⟩
      obtain ⟨c0, _, _, _⟩ := cel_at hat hb1 h0
      simp only [Nat.zero_mul, Nat.add_zero] at c0
      go_wp2_with fail
      have hx1 := hx.below hb1
      with_reducible refine (ground_lit rfl hx1 HG.out).mono ?_
      rintro e w2 ⟨rfl, hb2⟩
      cases g with
      | false =>
        go_wp2_with fail
        go_ret
        exact ⟨ret_bool (by rw [HF2.out]; rfl), hb1.then hb2⟩
      | true =>
        go_wp2_with fail
        have hx2 := hx1.below hb2
        with_reducible refine (depth_lit HX.out HT.out rfl h200 hx2 HD.out).mono ?_
        rintro e w3 ⟨rfl, hb3⟩
        go_wp2_with fail
        go_ret
        refine ⟨ret_bool ?_, (hb1.then hb2).then hb3⟩
        rw [HF2.out, Bool.true_and]
        exact decide_eq_decide.2 (by omega)
    · have t3 : (xs[0].k == 3) = false := by simp [h3]
      have HF2 : Hid (factB xs = false) := by rw [Hid, HF.out]; simp [h3]
      clear h3 HF
      go_enter Try.func67, Try.ntmps67
      go_wp2_with fail
      refine (right_lit rfl hx HR.out).mono ?_; rintro e w1 ⟨rfl, hb1⟩
      obtain ⟨c0, _, _, _⟩ := cel_at hat hb1 h0
      simp only [Nat.zero_mul, Nat.add_zero] at c0
      go_wp2_with fail
      go_ret
      exact ⟨ret_bool HF2.out.symm, hb1⟩

set_option maxHeartbeats 1600000 in
theorem reffact_any (a : Option Addr) (cap : Nat) (w : World) (xs : List Cel) (hx : Row w a cap xs) :
    Calls Try.prog 70 #[.slice a xs.length cap] w fun e w' => e = .returned (.bool (factB xs)) ∧ Below w.heap.size w w' := by
  have hm := hx.max
  have hm2 := hx.le
  cases hR : rightB xs with
  | false =>
    have HF : Hid (factB xs = false) := by unfold Hid factB; rw [hR]; rfl
    have HR := mkHid hR
    clear hR
    go_enter Try.func70, Try.ntmps70
    go_wp2_with fail
    refine (refright_litF rfl hx HR.out).mono ?_; rintro e w1 ⟨rfl, hb1⟩
    go_wp2_with fail
    go_ret
    exact ⟨ret_bool HF.out.symm, hb1⟩
  | true =>
    obtain ⟨t, ht, hxt, h200⟩ := right_tm hR
    have h0 : 0 < xs.length := by rw [hxt]; exact flat_pos t
    have HX := mkHid hxt.symm
    have HT := mkHid ht
    obtain ⟨b, off, rfl, hb, hat⟩ := hx.cases.resolve_left (fun e => by simp [e] at h0)
    obtain ⟨d, hd⟩ : ∃ d, t.depth = d := ⟨_, rfl⟩
    have HD := mkHid hd
    obtain ⟨g, hg⟩ : ∃ g, groundB xs = g := ⟨_, rfl⟩
    have HG := mkHid hg
    have HR := mkHid hR
    have HF : Hid (factB xs = (decide (xs[0].k = 3) && (g && decide (d ≤ 12)))) := by
      have hfun : funB xs = decide (xs[0].k = 3) := by
        cases xs with
        | nil => simp at h0
        | cons c l => rfl
      have hdd : depthL xs = d := by rw [hxt, depthL_flat ht, hd]
      unfold Hid factB
      rw [hR, hg, hfun, hdd, Bool.true_and, Bool.and_assoc]
    clear hR hxt ht hd hg
    have hdn : (d : Int) ≤ 200 := by
      have := HD.out; have h1 := depth_le t; rw [HX.out] at h1; omega
    by_cases h3 : xs[0].k = 3
    · have t3 : (xs[0].k == 3) = true := by simp [h3]
      have HF2 : Hid (factB xs = (g && decide (d ≤ 12))) := by rw [Hid, HF.out, h3]; simp
      clear h3 HF
      go_enter Try.func70, Try.ntmps70
      go_wp2_with fail
      refine (refright_litF rfl hx HR.out).mono ?_; rintro e w1 ⟨rfl, hb1⟩
      obtain ⟨c0, _, _, _⟩ := cel_at hat hb1 h0
      simp only [Nat.zero_mul, Nat.add_zero] at c0
      go_wp2_with fail
      have hx1 := hx.below hb1
      with_reducible refine (refground_litF rfl hx1 (by omega) HG.out).mono ?_
      rintro e w2 ⟨rfl, hb2⟩
      cases g with
      | false =>
        go_wp2_with fail
        go_ret
        exact ⟨ret_bool (by rw [HF2.out]; rfl), hb1.then hb2⟩
      | true =>
        go_wp2_with fail
        have hx2 := hx1.below hb2
        with_reducible refine (refdepth_litF HX.out HT.out rfl h200 hx2 HD.out).mono ?_
        rintro e w3 ⟨rfl, hb3⟩
        go_wp2_with fail
        go_ret
        refine ⟨ret_bool ?_, (hb1.then hb2).then hb3⟩
        rw [HF2.out, Bool.true_and]
        exact decide_eq_decide.2 (by omega)
    · have t3 : (xs[0].k == 3) = false := by simp [h3]
      have HF2 : Hid (factB xs = false) := by rw [Hid, HF.out]; simp [h3]
      clear h3 HF
      go_enter Try.func70, Try.ntmps70
      go_wp2_with fail
      refine (refright_litF rfl hx HR.out).mono ?_; rintro e w1 ⟨rfl, hb1⟩
      obtain ⟨c0, _, _, _⟩ := cel_at hat hb1 h0
      simp only [Nat.zero_mul, Nat.add_zero] at c0
      go_wp2_with fail
      go_ret
      exact ⟨ret_bool HF2.out.symm, hb1⟩
end Go.Proofs.Ytnpffificfghpaa
namespace Go.Proofs.Ytnpffificfghpaa
open Go.RowKit

/-! ### may a row be? -/
theorem stand_first {l : List (List Cel)} {k : Nat} (hk : k < l.length) (h0 : k = 0) : standB l k = factB l[k] := by
  unfold standB; rw [getD_atF hk, decide_eq_true h0]; simp
theorem stand_next {l : List (List Cel)} {k : Nat} (hk : k < l.length) (h0 : 0 < k) : standB l k = (factB l[k] && decide (compP l[k - 1] l[k] < 0)) := by
  unfold standB; rw [getD_atF hk, getD_atF (by omega), decide_eq_false (by omega), Bool.false_or]
theorem fright_bad {l : List (List Cel)} {k : Nat} (hk : k < l.length) (h : standB l k = false) : frightB l = false := by
  unfold frightB
  rw [Bool.and_eq_false_iff]
  right
  rw [List.all_eq_false]
  exact ⟨k, List.mem_range.2 hk, by simp [h]⟩
theorem fright_end {l : List (List Cel)} (h512 : l.length ≤ 512) {k : Nat} (h : ∀ j, j < k → standB l j = true) (hk : l.length ≤ k) : frightB l = true := by
  unfold frightB
  rw [decide_eq_true h512, Bool.true_and, List.all_eq_true]
  intro j hj
  exact h j (by have := List.mem_range.1 hj; omega)
theorem fright_long {l : List (List Cel)} (h : ¬ l.length ≤ 512) : frightB l = false := by
  unfold frightB; rw [decide_eq_false h, Bool.false_and]
theorem stand_succ {l : List (List Cel)} {k : Nat} (h : ∀ j, j < k → standB l j = true) (hs : standB l k = true) : ∀ j, j < k + 1 → standB l j = true := fun j hj => by
  by_cases e : j = k
  · rw [e]; exact hs
  · exact h j (by omega)
theorem stand_fact {l : List (List Cel)} {k : Nat} (hk : k < l.length) (h : standB l k = true) : factB l[k] = true := by
  by_cases h0 : k = 0
  · rwa [stand_first hk h0] at h
  · rw [stand_next hk (by omega), Bool.and_eq_true] at h; exact h.1
theorem comp_factF {xs ys : List Cel} (h : factB xs = true) (k : factB ys = true) : compP xs ys = compR xs ys := comp_right (fact_right h) (fact_right k)

section
variable {a : Option Addr} {cap : Nat} {w : World} {xs : List Cel}
theorem fact_is {b : Bool} (hr : Row w a cap xs) (H : Hid (factB xs = b)) :
    Calls Try.prog 67 #[.slice a xs.length cap] w fun e w' => e = .returned (.bool b) ∧ Below w.heap.size w w' :=
  (fact_any a cap w xs hr).mono fun _ _ ⟨he, hb⟩ => ⟨by rw [he]; exact ret_bool H.out, hb⟩
theorem reffact_is {b : Bool} (hr : Row w a cap xs) (H : Hid (factB xs = b)) :
    Calls Try.prog 70 #[.slice a xs.length cap] w fun e w' => e = .returned (.bool b) ∧ Below w.heap.size w w' :=
  (reffact_any a cap w xs hr).mono fun _ _ ⟨he, hb⟩ => ⟨by rw [he]; exact ret_bool H.out, hb⟩
theorem compare_is {a' : Option Addr} {cap' : Nat} {ys : List Cel} {d : Int} (hr : Row w a cap xs) (hr' : Row w a' cap' ys) (H : Hid (compP xs ys = d)) :
    Calls Try.prog 142 #[.slice a xs.length cap, .slice a' ys.length cap'] w fun e w' => e = .returned (.int .i64 d) ∧ Below w.heap.size w w' :=
  (compare_any a cap a' cap' w xs ys hr hr').mono fun _ _ ⟨he, hb⟩ => ⟨by rw [he]; exact ret_int H.out, hb⟩
theorem refcompare_is {a' : Option Addr} {cap' : Nat} {ys : List Cel} {d : Int} (hr : Row w a cap xs) (hr' : Row w a' cap' ys) (H : Hid (compR xs ys = d)) :
    Calls Try.prog 145 #[.slice a xs.length cap, .slice a' ys.length cap'] w fun e w' => e = .returned (.int .i64 d) ∧ Below w.heap.size w w' :=
  (refcompare_any a cap a' cap' w xs ys hr hr').mono fun _ _ ⟨he, hb⟩ => ⟨by rw [he]; exact ret_int H.out, hb⟩
theorem sameF_is {a' : Option Addr} {cap' : Nat} {ys : List Cel} {d : Bool} (hr : Row w a cap xs) (hr' : Row w a' cap' ys) (H : Hid (decide (xs = ys) = d)) :
    Calls Try.prog 156 #[.slice a xs.length cap, .slice a' ys.length cap'] w fun e w' => e = .returned (.bool d) ∧ Below w.heap.size w w' :=
  (same_any a cap a' cap' w xs ys hr hr').mono fun _ _ ⟨he, hb⟩ => ⟨by rw [he]; exact ret_bool H.out, hb⟩
theorem refsameF_is {a' : Option Addr} {cap' : Nat} {ys : List Cel} {d : Bool} (hr : Row w a cap xs) (hr' : Row w a' cap' ys) (H : Hid (decide (xs = ys) = d)) :
    Calls Try.prog 60 #[.slice a xs.length cap, .slice a' ys.length cap'] w fun e w' => e = .returned (.bool d) ∧ Below w.heap.size w w' :=
  (refsame_any a cap a' cap' w xs ys hr hr').mono fun _ _ ⟨he, hb⟩ => ⟨by rw [he]; exact ret_bool H.out, hb⟩
end

set_option maxHeartbeats 1600000 in
theorem fright_any (a : Option Addr) (cap : Nat) (w : World) (l : List (List Cel)) (hr : Row w a cap l) :
    Calls Try.prog 68 #[.slice a l.length cap] w fun e w' => e = .returned (.bool (frightB l)) ∧ Below w.heap.size w w' := by
  have hm := hr.max
  have hm2 := hr.le
  by_cases h512 : l.length ≤ 512
  · go_enter Try.func68, Try.ntmps68
    go_wp2
    go_loopw [10] (fun i wr => ∃ k : Nat, k ≤ l.length ∧ i = .int .i64 k ∧ Below w.heap.size w wr ∧ Hid (∀ j, j < k → standB l j = true)) (fun i wr => l.length - (intOf i).toNat)
    case atStart => exact ⟨0, Nat.zero_le _, rfl, Below.refl _ _, fun j hj => absurd hj (Nat.not_lt_zero _)⟩
    case round =>
      obtain ⟨k, hk, rfl, hbl, HS⟩ := hrel
      by_cases hlt : k < l.length
      · obtain ⟨b, off, rfl, hb, hat⟩ := hr.cases.resolve_left (fun e => by simp [e] at hlt)
        obtain ⟨a1, cap1, c0, hr1⟩ := list_at hat hbl hlt
        obtain ⟨q, hq⟩ : ∃ q, factB l[k] = q := ⟨_, rfl⟩
        have HQ := mkHid hq
        clear hq
        cases q with
        | false =>
          have HF : Hid (frightB l = false) := fright_bad hlt (by
            cases hs : standB l k with
            | false => rfl
            | true => have := stand_fact hlt hs; rw [HQ.out] at this; cases this)
          clear HS
          go_wp2_with (go_at_call 67; refine (fact_is hr1 HQ).mono ?_; rintro e w' ⟨rfl, hb1⟩)
          go_ret
          exact ⟨ret_bool HF.out.symm, hbl.then hb1⟩
        | true =>
          by_cases h0 : k = 0
          · have HT := mkHid (stand_succ HS.out (by rw [stand_first hlt h0]; exact HQ.out))
            subst h0
            simp only [Nat.add_zero] at c0
            clear HS
            go_wp2_with (go_at_call 67; refine (fact_is hr1 HQ).mono ?_; rintro e w' ⟨rfl, hb1⟩)
            go_round
            case rel => exact ⟨1, by omega, by go_num, hbl.then hb1, HT⟩
            case measure => simp [intOf]; omega
          · have h0' : 0 < k := by omega
            have hk1 : k - 1 < l.length := by omega
            obtain ⟨a2, cap2, c1, hr2⟩ := list_at hat hbl hk1
            obtain ⟨d, hd⟩ : ∃ d, compP l[k - 1] l[k] = d := ⟨_, rfl⟩
            have HD := mkHid hd
            clear hd
            have hoff : off + (k - 1) = off + k - 1 := by omega
            have hki : ((k : Int) - 1) = ((k - 1 : Nat) : Int) := by omega
            by_cases hd0 : d < 0
            · have HT := mkHid (stand_succ HS.out (by rw [stand_next hlt h0', HQ.out, HD.out, decide_eq_true hd0]; rfl))
              clear HS
              go_wp2_with (first
                | (go_at_call 67; refine (fact_is hr1 HQ).mono ?_; rintro e w' ⟨rfl, hb1⟩; have c1' := keep c1 hb1; rw [hoff] at c1')
                | (go_at_call 142; refine (compare_is (hr2.below hb1) (hr1.below hb1) HD).mono ?_; rintro e w2 ⟨rfl, hb2⟩))
              go_round
              case rel => exact ⟨k + 1, by omega, by go_num, (hbl.then hb1).then hb2, HT⟩
              case measure => simp [intOf]; omega
            · have HF : Hid (frightB l = false) := fright_bad hlt (by rw [stand_next hlt h0', HD.out, decide_eq_false hd0, Bool.and_false])
              clear HS
              go_wp2_with (first
                | (go_at_call 67; refine (fact_is hr1 HQ).mono ?_; rintro e w' ⟨rfl, hb1⟩; have c1' := keep c1 hb1; rw [hoff] at c1')
                | (go_at_call 142; refine (compare_is (hr2.below hb1) (hr1.below hb1) HD).mono ?_; rintro e w2 ⟨rfl, hb2⟩))
              go_ret
              exact ⟨ret_bool HF.out.symm, (hbl.then hb1).then hb2⟩
      · have HF : Hid (frightB l = true) := fright_end h512 HS.out (by omega)
        clear HS
        go_wp2
        go_ret
        exact ⟨ret_bool HF.out.symm, hbl⟩
  · have HF : Hid (frightB l = false) := fright_long h512
    go_enter Try.func68, Try.ntmps68
    go_wp2
    go_ret
    exact ⟨ret_bool HF.out.symm, Below.refl _ _⟩
end Go.Proofs.Ytnpffificfghpaa
namespace Go.Proofs.Ytnpffificfghpaa
open Go.RowKit

/-! ### the document's own -/
theorem nmem_take {l : List (List Cel)} {t : List Cel} {k : Nat} (hk : k < l.length) (h : t ∉ l.take k) (hn : l[k] ≠ t) : t ∉ l.take (k + 1) := by
  rw [List.take_succ_eq_append_getElem hk, List.mem_append, not_or]
  exact ⟨h, by simpa using fun e => hn e.symm⟩

set_option maxHeartbeats 1600000 in
theorem refhasF_any (a : Option Addr) (cap : Nat) (l : List (List Cel)) (a' : Option Addr) (cap' : Nat) (t : List Cel) (w : World) (hr : Row w a cap l) (ht : Row w a' cap' t) :
    Calls Try.prog 200 #[.slice a l.length cap, .slice a' t.length cap'] w fun e w' => e = .returned (.bool (decide (t ∈ l))) ∧ Below w.heap.size w w' := by
  have hm := hr.max
  have hm2 := hr.le
  go_enter Try.func200, Try.ntmps200
  go_wp2
  go_loopw [5] (fun i wr => ∃ k : Nat, k ≤ l.length ∧ i = .int .i64 k ∧ Below w.heap.size w wr ∧ Hid (t ∉ l.take k)) (fun i wr => l.length - (intOf i).toNat)
  case atStart => exact ⟨0, Nat.zero_le _, rfl, Below.refl _ _, by simp [Hid]⟩
  case round =>
    obtain ⟨k, hk, rfl, hbl, HS⟩ := hrel
    by_cases hlt : k < l.length
    · obtain ⟨b, off, rfl, hb, hat⟩ := hr.cases.resolve_left (fun e => by simp [e] at hlt)
      obtain ⟨a1, cap1, c0, hr1⟩ := list_at hat hbl hlt
      have ht1 := ht.below hbl
      by_cases he : l[k] = t
      · have HD := mkHid (decide_eq_true he)
        have HF : Hid (decide (t ∈ l) = true) := decide_eq_true (he ▸ List.getElem_mem hlt)
        clear HS he
        go_wp2_with (go_at_call 60; refine (refsameF_is hr1 ht1 HD).mono ?_; rintro e w' ⟨rfl, hb1⟩)
        go_ret
        exact ⟨ret_bool HF.out.symm, hbl.then hb1⟩
      · have HD := mkHid (decide_eq_false he)
        have HT := mkHid (nmem_take hlt HS.out he)
        clear HS he
        go_wp2_with (go_at_call 60; refine (refsameF_is hr1 ht1 HD).mono ?_; rintro e w' ⟨rfl, hb1⟩)
        go_round
        case rel => exact ⟨k + 1, by omega, by go_num, hbl.then hb1, HT⟩
        case measure => simp [intOf]; omega
    · have HF : Hid (decide (t ∈ l) = false) := decide_eq_false (by have := HS.out; rwa [List.take_of_length_le (by omega)] at this)
      clear HS
      go_wp2
      go_ret
      exact ⟨ret_bool HF.out.symm, hbl⟩

set_option maxHeartbeats 1600000 in
theorem refrightF_any (a : Option Addr) (cap : Nat) (w : World) (l : List (List Cel)) (hr : Row w a cap l) :
    Calls Try.prog 71 #[.slice a l.length cap] w fun e w' => e = .returned (.bool (frightB l)) ∧ Below w.heap.size w w' := by
  have hm := hr.max
  have hm2 := hr.le
  by_cases h512 : l.length ≤ 512
  · go_enter Try.func71, Try.ntmps71
    go_wp2
    go_loopw [3] (fun i wr => ∃ k : Nat, k ≤ l.length ∧ i = .int .i64 k ∧ Below w.heap.size w wr ∧ Hid (∀ j, j < k → standB l j = true)) (fun i wr => l.length - (intOf i).toNat)
    case atStart => exact ⟨0, Nat.zero_le _, rfl, Below.refl _ _, fun j hj => absurd hj (Nat.not_lt_zero _)⟩
    case round =>
      obtain ⟨k, hk, rfl, hbl, HS⟩ := hrel
      by_cases hlt : k < l.length
      · obtain ⟨b, off, rfl, hb, hat⟩ := hr.cases.resolve_left (fun e => by simp [e] at hlt)
        obtain ⟨a1, cap1, c0, hr1⟩ := list_at hat hbl hlt
        obtain ⟨q, hq⟩ : ∃ q, factB l[k] = q := ⟨_, rfl⟩
        have HQ := mkHid hq
        clear hq
        have hcF : ∀ x : Later wr, Calls Try.prog 70 #[.slice a1 l[k].length cap1] x.w' fun e w'' => e = .returned (.bool q) ∧ Below x.w'.heap.size x.w' w'' := fun x => reffact_is (hr1.below x.ok) HQ
        cases q with
        | false =>
          have HF : Hid (frightB l = false) := fright_bad hlt (by
            cases hs : standB l k with
            | false => rfl
            | true => have := stand_fact hlt hs; rw [HQ.out] at this; cases this)
          have e0 : ∀ x : Later wr, x.w'.cell? ⟨b, off + k, none⟩ = some (.slice a1 l[k].length cap1) := keepL c0
          clear HS
          go_wp2
          refine wp_region_calm (by kernel_rfl) (by kernel_rfl) ?_
          repeat (go_big_quiet_step (exact Calls.calm_of (hcF _)))
          refine wpQuiet_nil ?_
          rintro _ ⟨x, rfl⟩
          go_wp2
          go_ret
          exact ⟨ret_bool HF.out.symm, hbl.then x.ok⟩
        | true =>
          by_cases h0 : k = 0
          · have HT := mkHid (stand_succ HS.out (by rw [stand_first hlt h0]; exact HQ.out))
            subst h0
            simp only [Nat.add_zero] at c0
            have e0 : ∀ x : Later wr, x.w'.cell? ⟨b, off, none⟩ = some (.slice a1 l[0].length cap1) := keepL c0
            clear HS
            go_wp2
            refine wp_region_calm (by kernel_rfl) (by kernel_rfl) ?_
            repeat (go_big_quiet_step (exact Calls.calm_of (hcF _)))
            refine wpQuiet_nil ?_
            rintro _ ⟨x, rfl⟩
            go_wp2
            go_round
            case rel => exact ⟨1, by omega, by go_num, hbl.then x.ok, HT⟩
            case measure => simp [intOf]; omega
          · have h0' : 0 < k := by omega
            have hk1 : k - 1 < l.length := by omega
            have e0 : ∀ x : Later wr, x.w'.cell? ⟨b, off + k, none⟩ = some (.slice a1 l[k].length cap1) := keepL c0
            obtain ⟨a2, cap2, c1, hr2⟩ := list_at hat hbl hk1
            have hf1 : factB l[k - 1] = true := stand_fact hk1 (HS.out (k - 1) (by omega))
            obtain ⟨d, hd⟩ : ∃ d, compP l[k - 1] l[k] = d := ⟨_, rfl⟩
            have HD := mkHid hd
            have HR : Hid (compR l[k - 1] l[k] = d) := by rw [Hid, ← comp_factF hf1 HQ.out]; exact hd
            have hcC : ∀ x : Later wr, Calls Try.prog 145 #[.slice a2 l[k - 1].length cap2, .slice a1 l[k].length cap1] x.w' fun e w'' => e = .returned (.int .i64 d) ∧ Below x.w'.heap.size x.w' w'' := fun x =>
              refcompare_is (hr2.below x.ok) (hr1.below x.ok) HR
            clear hd hf1
            have hoff : off + (k - 1) = off + k - 1 := by omega
            rw [hoff] at c1
            have e1 : ∀ x : Later wr, x.w'.cell? ⟨b, off + k - 1, none⟩ = some (.slice a2 l[k - 1].length cap2) := keepL c1
            by_cases hd0 : d < 0
            · have hd1 : ¬ 0 ≤ d := by omega
              have HT := mkHid (stand_succ HS.out (by rw [stand_next hlt h0', HQ.out, HD.out, decide_eq_true hd0]; rfl))
              clear HS
              go_wp2
              refine wp_region_calm (by kernel_rfl) (by kernel_rfl) ?_
              repeat (go_big_quiet_step (first | exact Calls.calm_of (hcF _) | exact Calls.calm_of (hcC _)))
              refine wpQuiet_nil ?_
              rintro _ ⟨x, rfl⟩
              go_wp2
              go_round
              case rel => exact ⟨k + 1, by omega, by go_num, hbl.then x.ok, HT⟩
              case measure => simp [intOf]; omega
            · have hd1 : 0 ≤ d := by omega
              have HF : Hid (frightB l = false) := fright_bad hlt (by rw [stand_next hlt h0', HD.out, decide_eq_false hd0, Bool.and_false])
              clear HS
              go_wp2
              refine wp_region_calm (by kernel_rfl) (by kernel_rfl) ?_
              repeat (go_big_quiet_step (first | exact Calls.calm_of (hcF _) | exact Calls.calm_of (hcC _)))
              refine wpQuiet_nil ?_
              rintro _ ⟨x, rfl⟩
              go_wp2
              go_ret
              exact ⟨ret_bool HF.out.symm, hbl.then x.ok⟩
      · have HF : Hid (frightB l = true) := fright_end h512 HS.out (by omega)
        clear HS
        go_wp2
        go_ret
        exact ⟨ret_bool HF.out.symm, hbl⟩
  · have HF : Hid (frightB l = false) := fright_long h512
    go_enter Try.func71, Try.ntmps71
    go_wp2
    go_ret
    exact ⟨ret_bool HF.out.symm, Below.refl _ _⟩
end Go.Proofs.Ytnpffificfghpaa
namespace Go.Proofs.Ytnpffificfghpaa
open Go.RowKit

/-- the name that is made of a string -/
theorem name3_any (s : ByteArray) (w : World) : Calls Try.prog 206 #[.string s] w fun e w' => (∃ t : ByteArray, e = .returned (.string t) ∧ (t = ⟨#[102]⟩ ∨ t = ⟨#[103]⟩ ∨ t = ⟨#[97]⟩)) ∧ w' = w := by
  go_enter Try.func206, Try.ntmps206
  go_wp2
  all_goals
    go_ret
    exact ⟨⟨_, rfl, by simp⟩, rfl⟩
end Go.Proofs.Ytnpffificfghpaa
namespace Go.Proofs.Ytnpffificfghpaa
open Go.RowKit

/-! ### laying out: the row that grows -/
def LR (W : World) (B : Nat) (v : Value) (acc : List Cel) : Prop := W.ownsRow B 93 3 v acc.length (flat acc)
theorem LR.kept {W W' : World} {B : Nat} {v : Value} {acc : List Cel} {row : Option Nat} (h : LR W B v acc) (hg : W.grownBy W' row) (hne : v.ownBlock = none ∨ v.ownBlock ≠ row) : LR W' B v acc := World.ownsRow.kept h hg hne
theorem LR.cells {W : World} {B g : Nat} {v : Value} {acc : List Cel} (h : LR W B v acc) (hg : v.ownBlock = some g) : ∃ cur, W.heap[g]? = some (.cells cur 93 (0, 0)) := by
  rcases h.2 with ⟨rfl, _⟩ | ⟨g', cap', cur, rfl, hb, hgg, _⟩
  · simp [Value.ownBlock] at hg
  · simp [Value.ownBlock] at hg
    subst hg
    exact ⟨cur, hgg⟩
theorem LR.block {W W' : World} {B : Nat} {v : Value} {acc : List Cel} (h : LR W B v acc) (e : ∀ g, v.ownBlock = some g → W'.heap[g]? = W.heap[g]?) : LR W' B v acc := by
  refine ⟨h.1, ?_⟩
  rcases h.2 with hn | ⟨g', cap', cur, rfl, hb, hgg, rest⟩
  · exact .inl hn
  · exact .inr ⟨g', cap', cur, rfl, hb, (e g' rfl).trans hgg, rest⟩
theorem LR.lt {W : World} {B : Nat} {v : Value} {acc : List Cel} (h : LR W B v acc) : ∀ g, v.ownBlock = some g → B ≤ g ∧ g < W.heap.size := World.ownsRow.lt h
/-- append of one cell, laid just ahead of it -/
theorem run_lay {W : World} {B : Nat} {v : Value} {acc : List Cel} (h : LR W B v acc) (c : Cel) (hl : acc.length ≤ 1000000) (hB : B ≤ W.heap.size) (ty : TypeId) :
    ∃ v' w', (Builtin.append_ #[30, 30] ty #[v, .slice (some ⟨W.heap.size, 0, none⟩) 1 1]).run Try.prog (W.alloc (.cells #[.int .i64 c.k, .string c.s, .int .i64 c.n] 93)) = .ok v' w' ∧
      LR w' B v' (acc ++ [c]) ∧ (W.alloc (.cells #[.int .i64 c.k, .string c.s, .int .i64 c.n] 93)).grownBy w' v.ownBlock ∧ (v'.ownBlock = v.ownBlock ∨ v'.ownBlock = some (W.heap.size + 1)) ∧ ∃ g cap', v' = .slice (some ⟨g, 0, none⟩) (acc.length + 1) cap' := by
  obtain ⟨i, hi, hz0, hz1, hz2⟩ := info_parts Try.infoCell
  obtain ⟨v', w', hrun, h2, h3, h4⟩ := run_append_where (P := Try.prog) (W.alloc (.cells #[.int .i64 c.k, .string c.s, .int .i64 c.n] 93)) B 30 ty 93 i _ 3 32 Try.underlying30 hi hz0 hz1 hz2 rfl (by omega) _ acc.length _ (World.ownsRow.alloc h _)
    ⟨W.heap.size, 0, none⟩ 1 1 [.int .i64 c.k, .string c.s, .int .i64 c.n] rfl (by
      intro j u hj
      match j, hj with
      | 0, hj => simp at hj; subst hj; simp [Addr.add, World.cell?_alloc_at]
      | 1, hj => simp at hj; subst hj; simp [Addr.add, World.cell?_alloc_at]
      | 2, hj => simp at hj; subst hj; simp [Addr.add, World.cell?_alloc_at]
      | j + 3, hj => simp at hj) (by intro u hu; simp at hu; rcases hu with rfl | rfl | rfl <;> rfl) (by unfold maxLen; omega) (by omega) (by simp; omega)
  refine ⟨v', w', hrun, ?_, h3, by simpa using h4, ?_⟩
  · unfold LR
    rw [List.length_append, List.length_singleton, show flat (acc ++ [c]) = flat acc ++ [.int .i64 c.k, .string c.s, .int .i64 c.n] by simp [flat]]
    exact h2
  · rcases h2.2 with ⟨_, h0⟩ | ⟨g, cap, _, e, _⟩
    · omega
    · exact ⟨g, cap, e⟩
end Go.Proofs.Ytnpffificfghpaa
namespace Go.Proofs.Ytnpffificfghpaa
open Go.RowKit

theorem mask (a : Int) (m : Nat) (hm : m ≤ 1000) : 0 ≤ bits .and .i64 a m ∧ bits .and .i64 a m ≤ m := by
  have h2 : (BitVec.ofInt 64 (m : Int)).toNat = m := by
    rw [BitVec.ofInt_natCast, BitVec.toNat_ofNat]; exact Nat.mod_eq_of_lt (by omega)
  have h3 : (BitVec.ofInt 64 a &&& BitVec.ofInt 64 (m : Int)).toNat ≤ m := by
    rw [BitVec.toNat_and, h2]; exact Nat.and_le_right
  have e : bits .and .i64 a m = IntKind.i64.wrap ((BitVec.ofInt 64 a &&& BitVec.ofInt 64 (m : Int)).toNat : Int) := rfl
  rw [e, IntKind.wrap_i64]
  omega
/-- append of one cell, laid just ahead of it -/
theorem wpList_lay {w : World} {ops : Array Oper} {rest : List Oper} {o : Oper} {a : Act} {Q : Exit → Act → World → Prop} (hg : o.guard = none) (s x : Operand) (hop : o.op = Op.call { callee := Callee.builtin Builtin.append, args := #[s, x], argTypes := #[30, 30] })
    (B : Nat) (v : Value) (acc : List Cel) (c : Cel) (hT : LR w B v acc) (hs : a.eval s = v) (hx : a.eval x = .slice (some ⟨w.heap.size, 0, none⟩) 1 1) (hB : B ≤ w.heap.size) (hl : acc.length ≤ 1000000)
    (hK : ∀ v' w', LR w' B v' (acc ++ [c]) → Below B w w' → (∃ g cap, v' = .slice (some ⟨g, 0, none⟩) (acc.length + 1) cap) → wpList Try.prog ops Q rest (a.put o.dst v') w') :
    wpList Try.prog ops Q (o :: rest) a (w.alloc (.cells #[.int .i64 c.k, .string c.s, .int .i64 c.n] 93)) := by
  refine wpList_plain hg fun K hK' => ?_
  obtain ⟨v', w', hrun, h2, h3, _, h4⟩ := run_lay hT c hl hB o.type
  have hlt := hT.lt
  have hb : Below B w w' := by
    refine ⟨h3.os, h3.tape, h3.output, by have := h3.size; simp at this; omega, fun k hk => ?_⟩
    exact (h3.block k (by simp; omega) (fun e => by have := (hlt k e.symm).1; omega)).trans (heap_alloc_old _ _ (by omega))
  unfold Oper.wp execOp
  simp [hop, resolve, invoke, builtin, hs, hx, hrun, Result.andThen]
  exact hK' _ _ (hK v' w' h2 hb h4)
end Go.Proofs.Ytnpffificfghpaa
namespace Go.Proofs.Ytnpffificfghpaa
open Go.RowKit

/-- what is made so far: n terms are wanted -/
structure MadeI (most n : Nat) (out : List Cel) : Prop where
  read : ∀ rest, sk 1 (out ++ rest) = sk n rest
  room : out.length + n ≤ most
  fit : ∀ c ∈ out, c.fit
theorem MadeI.start {most : Nat} (h : 1 ≤ most) : MadeI most 1 [] := ⟨fun _ => rfl, by simpa using h, by simp⟩
theorem MadeI.snoc {most m : Nat} {out : List Cel} {c : Cel} (h : MadeI most (m + 1) out) (hc : cellOk c = true) (hf : c.fit) (hr : out.length + (m + 1) + ar c ≤ most) : MadeI most (m + ar c) (out ++ [c]) := by
  refine ⟨fun rest => ?_, by rw [List.length_append, List.length_singleton]; omega, fun d hd => ?_⟩
  · rw [List.append_assoc, h.read]
    simp [sk, hc]
  · rcases List.mem_append.1 hd with hd | hd
    · exact h.fit d hd
    · rw [List.mem_singleton] at hd; rw [hd]; exact hf
theorem MadeI.done {most : Nat} {out : List Cel} (h : MadeI most 0 out) (hm : most ≤ 200) : rightB out = true ∧ out.length ≤ most := by
  have h1 := h.read []
  rw [List.append_nil] at h1
  have h2 := h.room
  refine ⟨?_, by omega⟩
  unfold rightB endI
  rw [List.drop_zero, h1]
  simp [sk]
  omega
def aC : Cel := ⟨3, ⟨#[97]⟩, 0⟩
theorem aC_fit : aC.fit := ⟨by show _ ≤ (3 : Int); omega, by show (3 : Int) ≤ _; omega, by show _ ≤ (0 : Int); omega, by show (0 : Int) ≤ _; omega, by show (1 : Nat) ≤ _; omega⟩
theorem aC_ok : cellOk aC = true := by decide +kernel
theorem vcel_ok (n : Int) (h : 0 ≤ n ∧ n ≤ 7) : cellOk ⟨1, ⟨#[]⟩, n⟩ = true ∧ (⟨1, ⟨#[]⟩, n⟩ : Cel).fit := by
  refine ⟨?_, ⟨by show _ ≤ (1 : Int); omega, by show (1 : Int) ≤ _; omega, by show _ ≤ n; omega, by show n ≤ _; omega, by show (0 : Nat) ≤ _; omega⟩⟩
  unfold cellOk
  simp
  omega
theorem ncel_ok (n : Int) (h : 0 ≤ n ∧ n ≤ 3) : cellOk ⟨2, ⟨#[]⟩, n⟩ = true ∧ (⟨2, ⟨#[]⟩, n⟩ : Cel).fit := by
  refine ⟨?_, ⟨by show _ ≤ (2 : Int); omega, by show (2 : Int) ≤ _; omega, by show _ ≤ n; omega, by show n ≤ _; omega, by show (0 : Nat) ≤ _; omega⟩⟩
  unfold cellOk
  simp
  omega
theorem fcel_ok (t : ByteArray) (ht : t = ⟨#[102]⟩ ∨ t = ⟨#[103]⟩ ∨ t = ⟨#[97]⟩) (n : Int) (h : 0 ≤ n ∧ n ≤ 3) : cellOk ⟨3, t, n⟩ = true ∧ (⟨3, t, n⟩ : Cel).fit := by
  refine ⟨?_, ⟨by show _ ≤ (3 : Int); omega, by show (3 : Int) ≤ _; omega, by show _ ≤ n; omega, by show n ≤ _; omega, by rcases ht with rfl | rfl | rfl <;> show (1 : Nat) ≤ _ <;> omega⟩⟩
  have hn : nameOk t = true := by rcases ht with rfl | rfl | rfl <;> decide +kernel
  unfold cellOk
  simp [hn]
  omega

/-- where a made row lies: it is the one that came, or it is new -/
def MadeAt (w : World) (a : Option Addr) (cap : Nat) (xs : List Cel) (w' : World) (a' : Option Addr) (cap' : Nat) (ys : List Cel) : Prop := (a' = a ∧ cap' = cap ∧ ys = xs) ∨ NewRow w.heap.size w' a' cap' ys
set_option maxRecDepth 100000 in
set_option maxHeartbeats 16000000 in
theorem made_where (a : Option Addr) (cap : Nat) (w : World) (xs : List Cel) (hx : Row w a cap xs) (most : Nat) (hm1 : 1 ≤ most) (hm2 : most ≤ 200) :
    Calls Try.prog 157 #[.slice a xs.length cap, .int .i64 most] w fun e w' => ∃ a' cap' ys, e = .returned (.slice a' ys.length cap') ∧ MadeAt w a cap xs w' a' cap' ys ∧ rightB ys = true ∧ ys.length ≤ most ∧ Below w.heap.size w w' := by
  have hm := hx.max
  have hle := hx.le
  have HX := mkHid hx
  clear hx
  go_enter Try.func157, Try.ntmps157
  go_wp2_with fail
  refine (refright_any a cap _ xs HX.out).mono ?_
  rintro e w1 ⟨rfl, hb1⟩
  by_cases hg : rightB xs = true ∧ xs.length ≤ most
  · obtain ⟨hr, hl⟩ := hg
    have t1 : decide (xs.length ≤ most) = true := by simp; omega
    have HE : Hid (∃ a' cap' ys, Ending.returned (.slice a xs.length cap) = .returned (.slice a' ys.length cap') ∧ MadeAt w a cap xs w1 a' cap' ys ∧ rightB ys = true ∧ ys.length ≤ most ∧ Below w.heap.size w w1) := ⟨a, cap, xs, rfl, .inl ⟨rfl, rfl, rfl⟩, hr, hl, hb1⟩
    rw [hr]
    clear hl hr
    go_wp2_with fail
    go_ret
    exact HE.out
  · by_cases hr : rightB xs = true
    · have t1 : decide (xs.length ≤ most) = false := by
        have : ¬ xs.length ≤ most := fun e => hg ⟨hr, e⟩
        simp; omega
      rw [hr]
      clear hr hg
      go_wp2_with fail
      have hown0 : LR (w1.alloc (.cells #[] 93)) w.heap.size (.slice (some ⟨w1.heap.size, 0, none⟩) 0 0) [] := World.ownsRow_made (base := w.heap.size) (e := 93) (size := 3) w1 #[] 0 hb1.size (by unfold maxLen; omega) rfl
      have HOWN0 := mkHid hown0
      have HMI0 := mkHid (MadeI.start hm1)
      have hb2 := hb1.new (.cells #[] 93)
      clear hown0
      go_loopw [5, 6, 7] (fun v nd i wr => ∃ (n : Nat) (out : List Cel) (g capo : Nat), nd = .int .i64 n ∧ i = .int .i64 out.length ∧ v = .slice (some ⟨g, 0, none⟩) out.length capo ∧ Hid (MadeI most n out) ∧ Hid (LR wr w.heap.size (.slice (some ⟨g, 0, none⟩) out.length capo) out) ∧ Below w.heap.size w wr ∧ out.length + n ≤ most) (fun v nd i wr => most - (intOf i).toNat)
      case atStart => exact ⟨1, [], w1.heap.size, 0, rfl, rfl, rfl, HMI0, HOWN0, hb2, by simpa using hm1⟩
      case round =>
        clear HOWN0 HMI0 hb2
        obtain ⟨n, out, g, capo, rfl, rfl, rfl, HMI, HLR, hbl, hrm⟩ := hrel
        cases n with
        | zero =>
          have HE : Hid (∃ a' cap' ys, Ending.returned (.slice (some ⟨g, 0, none⟩) out.length capo) = .returned (.slice a' ys.length cap') ∧ MadeAt w a cap xs wr a' cap' ys ∧ rightB ys = true ∧ ys.length ≤ most ∧ Below w.heap.size w wr) := by
            obtain ⟨q1, q2⟩ := HMI.out.done hm2
            obtain ⟨a5, cap5, e5, hr5⟩ := own_new (xs := out) HLR.out HMI.out.fit
            cases e5
            exact ⟨_, _, out, rfl, .inr hr5, q1, q2, hbl⟩
          go_wp2_with fail
          go_ret
          exact HE.out
        | succ m =>
          by_cases hlt : out.length < xs.length
          · obtain ⟨b, off, rfl, hb', hat⟩ := HX.out.cases.resolve_left (fun e => by simp [e] at hlt)
            obtain ⟨c0, c1, c2, hf⟩ := cel_at hat hbl hlt
            obtain ⟨k1, k2⟩ := mask xs[out.length].k 3 (by omega)
            obtain ⟨m1, m2⟩ := mask xs[out.length].n 7 (by omega)
            obtain ⟨n1, n2⟩ := mask xs[out.length].n 3 (by omega)
            rw [show ((3 : Nat) : Int) = 3 from rfl] at k1 k2 n1 n2
            rw [show ((7 : Nat) : Int) = 7 from rfl] at m1 m2
            have t27 : decide ((out.length : Int) < (xs.length : Int)) = true := by simp; omega
            have t27n : decide (out.length < xs.length) = true := by simp; omega
            have hbw := cell_lt c0
            have hk0 : (0 : Int) ≤ (out.length : Int) := by omega
            have hk1 : (out.length : Int) < (xs.length : Int) := by omega
            have hb3 := hbl.new (.cells #[.int .i64 3, .string ⟨#[97]⟩, .int .i64 0] 93)
            have HLR3 : Hid (LR (wr.alloc (.cells #[.int .i64 3, .string ⟨#[97]⟩, .int .i64 0] 93)) w.heap.size (.slice (some ⟨g, 0, none⟩) out.length capo) out) := World.ownsRow.alloc HLR.out _
            generalize hkk : bits .and .i64 xs[out.length].k 3 = kk at k1 k2
            generalize hm7 : bits .and .i64 xs[out.length].n 7 = v7 at m1 m2
            generalize hn3 : bits .and .i64 xs[out.length].n 3 = v3 at n1 n2
            by_cases h1 : kk = 1
            · have t35 : (kk == 1) = true := by simp [h1]
              obtain ⟨q1, q2⟩ := vcel_ok v7 ⟨m1, m2⟩
              have HN := mkHid (HMI.out.snoc q1 q2 (by show out.length + (m + 1) + 0 ≤ most; omega))
              clear h1 q1 q2
              have hb4 := hbl.new (.cells #[.int .i64 1, .string ⟨#[]⟩, .int .i64 v7] 93)
              have HLR4 : Hid (LR (wr.alloc (.cells #[.int .i64 1, .string ⟨#[]⟩, .int .i64 v7] 93)) w.heap.size (.slice (some ⟨g, 0, none⟩) out.length capo) out) := World.ownsRow.alloc HLR.out _
              go_wp2_with (at_builtin; refine wpList_lay rfl _ _ rfl w.heap.size _ out (⟨1, ⟨#[]⟩, v7⟩ : Cel) HLR4.out rfl (by simp only [World.size_alloc]; rfl) hb4.size (by omega) ?_; intro v2 w2 h1 h2 h3; obtain ⟨g2, cap2, rfl⟩ := h3)
              go_round
              case rel => exact ⟨m + ar (⟨1, ⟨#[]⟩, v7⟩ : Cel), out ++ [(⟨1, ⟨#[]⟩, v7⟩ : Cel)], g2, cap2, by go_num, by simp, by simp, HN.out, by rw [Hid, List.length_append]; exact h1, hb4.trans h2, HN.out.room⟩
              case measure => simp [intOf]; omega
            · have t35 : (kk == 1) = false := by simp [h1]
              by_cases h2 : kk = 2
              · have t55 : (kk == 2) = true := by simp [h2]
                obtain ⟨q1, q2⟩ := ncel_ok v3 ⟨n1, n2⟩
                have HN := mkHid (HMI.out.snoc q1 q2 (by show out.length + (m + 1) + 0 ≤ most; omega))
                clear h1 h2 q1 q2
                have hb4 := hbl.new (.cells #[.int .i64 2, .string ⟨#[]⟩, .int .i64 v3] 93)
                have HLR4 : Hid (LR (wr.alloc (.cells #[.int .i64 2, .string ⟨#[]⟩, .int .i64 v3] 93)) w.heap.size (.slice (some ⟨g, 0, none⟩) out.length capo) out) := World.ownsRow.alloc HLR.out _
                go_wp2_with (at_builtin; refine wpList_lay rfl _ _ rfl w.heap.size _ out (⟨2, ⟨#[]⟩, v3⟩ : Cel) HLR4.out rfl (by simp only [World.size_alloc]; rfl) hb4.size (by omega) ?_; intro v2 w2 h1 h2 h3; obtain ⟨g2, cap2, rfl⟩ := h3)
                go_round
                case rel => exact ⟨m + ar (⟨2, ⟨#[]⟩, v3⟩ : Cel), out ++ [(⟨2, ⟨#[]⟩, v3⟩ : Cel)], g2, cap2, by go_num, by simp, by simp, HN.out, by rw [Hid, List.length_append]; exact h1, hb4.trans h2, HN.out.room⟩
                case measure => simp [intOf]; omega
              · have t55 : (kk == 2) = false := by simp [h2]
                clear h1 h2
                by_cases hro : (out.length : Int) + ((m : Int) + 1) + v3 ≤ (most : Int)
                · have t81 : decide ((out.length : Int) + ((m : Int) + 1) + v3 ≤ (most : Int)) = true := by simp; omega
                  have HKS : Hid (∀ w', Below wr.heap.size wr w' → w'.cell? ⟨b, off + out.length * 3 + 1, none⟩ = some (.string xs[out.length].s) ∧ w'.cell? ⟨b, off + out.length * 3 + 2, none⟩ = some (.int .i64 xs[out.length].n)) := fun w' h => ⟨keep c1 h, keep c2 h⟩
                  have HB0 : Hid (Below wr.heap.size wr (wr.alloc (.cells #[.int .i64 3, .string ⟨#[97]⟩, .int .i64 0] 93)).drew) := ((Below.refl _ _).new _).drew
                  have hro2 : out.length + (m + 1) + v3.toNat ≤ most := by omega
                  clear hro
                  go_wp2_with fail
                  go_region_held3 (fun w' => w'.cell? ⟨b, off + out.length * 3 + 1, none⟩ = some (.string xs[out.length].s) ∧ w'.cell? ⟨b, off + out.length * 3 + 2, none⟩ = some (.int .i64 xs[out.length].n))
                    (first | exact HKS.out _ HB0.out | exact HKS.out _ (((Below.refl _ _).new _).drew) | exact HKS.out _ ((HB0.out).setCell (Nat.le_refl _) _) | exact HKS.out _ (((((HB0.out).setCell (p := ⟨wr.heap.size, 0, none⟩) (Nat.le_refl _) _).setCell (p := ⟨wr.heap.size, 1, none⟩) (Nat.le_refl _) _)).setCell (p := ⟨wr.heap.size, 2, none⟩) (Nat.le_refl _) _))
                    ((go_at_call 206; refine (name3_any _ _).mono ?_; rintro e w2 ⟨⟨tn, rfl, htn⟩, rfl⟩))
                  have hw5 : ∃ W5, W5 = (wr.alloc (.cells #[.int .i64 3, .string tn, .int .i64 v3] 93)).drew := ⟨_, rfl⟩
                  obtain ⟨W5, hW5⟩ := hw5
                  rw [← hW5]
                  have z0 : W5.cell? ⟨wr.heap.size, 0, none⟩ = some (.int .i64 3) := by rw [hW5]; exact World.cell?_alloc_at _ _ _ 0 rfl
                  have z1 : W5.cell? ⟨wr.heap.size, 1, none⟩ = some (.string tn) := by rw [hW5]; exact World.cell?_alloc_at _ _ _ 1 rfl
                  have z2 : W5.cell? ⟨wr.heap.size, 2, none⟩ = some (.int .i64 v3) := by rw [hW5]; exact World.cell?_alloc_at _ _ _ 2 rfl
                  have hl5 := cell_lt z0
                  have hb4 : Below w.heap.size w W5 := by rw [hW5]; exact (hbl.new _).drew
                  have HLR5 : Hid (LR W5 w.heap.size (.slice (some ⟨g, 0, none⟩) out.length capo) out) := by
                    rw [hW5]
                    exact World.ownsRow.alloc HLR.out (.cells #[.int .i64 3, .string tn, .int .i64 v3] 93)
                  obtain ⟨q1, q2⟩ := fcel_ok tn htn v3 ⟨n1, n2⟩
                  have HN := mkHid (HMI.out.snoc q1 q2 (by show out.length + (m + 1) + v3.toNat ≤ most; exact hro2))
                  clear hW5 q1 q2 htn
                  go_wp2_with (at_builtin; refine wpList_lay rfl _ _ rfl w.heap.size _ out (⟨3, tn, v3⟩ : Cel) HLR5.out rfl rfl hb4.size (by omega) ?_; intro v2 w2 h1 h2 h3; obtain ⟨g2, cap2, rfl⟩ := h3)
                  go_round
                  case rel => exact ⟨m + ar (⟨3, tn, v3⟩ : Cel), out ++ [(⟨3, tn, v3⟩ : Cel)], g2, cap2, (by show Value.int .i64 _ = Value.int .i64 ((m + v3.toNat : Nat) : Int); congr 1; omega), by simp, by simp, HN.out, by rw [Hid, List.length_append]; exact h1, hb4.trans h2, HN.out.room⟩
                  case measure => simp [intOf]; omega
                · have t81 : decide ((out.length : Int) + ((m : Int) + 1) + v3 ≤ (most : Int)) = false := by simp; omega
                  have HN := mkHid (HMI.out.snoc aC_ok aC_fit (by show out.length + (m + 1) + 0 ≤ most; omega))
                  clear hro
                  have hb4 := hbl.new (.cells #[.int .i64 3, .string ⟨#[97]⟩, .int .i64 0] 93)
                  have HLR4 : Hid (LR (wr.alloc (.cells #[.int .i64 3, .string ⟨#[97]⟩, .int .i64 0] 93)) w.heap.size (.slice (some ⟨g, 0, none⟩) out.length capo) out) := World.ownsRow.alloc HLR.out _
                  go_wp2_with (at_builtin; refine wpList_lay rfl _ _ rfl w.heap.size _ out aC HLR4.out rfl (by simp only [World.size_alloc]; rfl) hb4.size (by omega) ?_; intro v2 w2 h1 h2 h3; obtain ⟨g2, cap2, rfl⟩ := h3)
                  go_round
                  case rel => exact ⟨m + ar aC, out ++ [aC], g2, cap2, by go_num, by simp, by simp, HN.out, by rw [Hid, List.length_append]; exact h1, hb4.trans h2, HN.out.room⟩
                  case measure => simp [intOf]; omega
          · have t27 : decide ((out.length : Int) < (xs.length : Int)) = false := by simp; omega
            have t27n : decide (out.length < xs.length) = false := by simp; omega
            have HN := mkHid (HMI.out.snoc aC_ok aC_fit (by show out.length + (m + 1) + 0 ≤ most; omega))
            clear hlt
            have hb3 := hbl.new (.cells #[.int .i64 3, .string ⟨#[97]⟩, .int .i64 0] 93)
            have HLR3 : Hid (LR (wr.alloc (.cells #[.int .i64 3, .string ⟨#[97]⟩, .int .i64 0] 93)) w.heap.size (.slice (some ⟨g, 0, none⟩) out.length capo) out) := World.ownsRow.alloc HLR.out _
            go_wp2_with (at_builtin; refine wpList_lay rfl _ _ rfl w.heap.size _ out aC HLR3.out rfl (by simp only [World.size_alloc]; rfl) hb3.size (by omega) ?_; intro v2 w2 h1 h2 h3; obtain ⟨g2, cap2, rfl⟩ := h3)
            go_round
            case rel => exact ⟨m + ar aC, out ++ [aC], g2, cap2, by go_num, by simp, by simp, HN.out, by rw [Hid, List.length_append]; exact h1, hb3.trans h2, HN.out.room⟩
            case measure => simp [intOf]; omega
    · rw [show rightB xs = false by simpa using hr]
      clear hr hg
      go_wp2_with fail
      have hown0 : LR (w1.alloc (.cells #[] 93)) w.heap.size (.slice (some ⟨w1.heap.size, 0, none⟩) 0 0) [] := World.ownsRow_made (base := w.heap.size) (e := 93) (size := 3) w1 #[] 0 hb1.size (by unfold maxLen; omega) rfl
      have HOWN0 := mkHid hown0
      have HMI0 := mkHid (MadeI.start hm1)
      have hb2 := hb1.new (.cells #[] 93)
      clear hown0
      go_loopw [5, 6, 7] (fun v nd i wr => ∃ (n : Nat) (out : List Cel) (g capo : Nat), nd = .int .i64 n ∧ i = .int .i64 out.length ∧ v = .slice (some ⟨g, 0, none⟩) out.length capo ∧ Hid (MadeI most n out) ∧ Hid (LR wr w.heap.size (.slice (some ⟨g, 0, none⟩) out.length capo) out) ∧ Below w.heap.size w wr ∧ out.length + n ≤ most) (fun v nd i wr => most - (intOf i).toNat)
      case atStart => exact ⟨1, [], w1.heap.size, 0, rfl, rfl, rfl, HMI0, HOWN0, hb2, by simpa using hm1⟩
      case round =>
        clear HOWN0 HMI0 hb2
        obtain ⟨n, out, g, capo, rfl, rfl, rfl, HMI, HLR, hbl, hrm⟩ := hrel
        cases n with
        | zero =>
          have HE : Hid (∃ a' cap' ys, Ending.returned (.slice (some ⟨g, 0, none⟩) out.length capo) = .returned (.slice a' ys.length cap') ∧ MadeAt w a cap xs wr a' cap' ys ∧ rightB ys = true ∧ ys.length ≤ most ∧ Below w.heap.size w wr) := by
            obtain ⟨q1, q2⟩ := HMI.out.done hm2
            obtain ⟨a5, cap5, e5, hr5⟩ := own_new (xs := out) HLR.out HMI.out.fit
            cases e5
            exact ⟨_, _, out, rfl, .inr hr5, q1, q2, hbl⟩
          go_wp2_with fail
          go_ret
          exact HE.out
        | succ m =>
          by_cases hlt : out.length < xs.length
          · obtain ⟨b, off, rfl, hb', hat⟩ := HX.out.cases.resolve_left (fun e => by simp [e] at hlt)
            obtain ⟨c0, c1, c2, hf⟩ := cel_at hat hbl hlt
            obtain ⟨k1, k2⟩ := mask xs[out.length].k 3 (by omega)
            obtain ⟨m1, m2⟩ := mask xs[out.length].n 7 (by omega)
            obtain ⟨n1, n2⟩ := mask xs[out.length].n 3 (by omega)
            rw [show ((3 : Nat) : Int) = 3 from rfl] at k1 k2 n1 n2
            rw [show ((7 : Nat) : Int) = 7 from rfl] at m1 m2
            have t27 : decide ((out.length : Int) < (xs.length : Int)) = true := by simp; omega
            have t27n : decide (out.length < xs.length) = true := by simp; omega
            have hbw := cell_lt c0
            have hk0 : (0 : Int) ≤ (out.length : Int) := by omega
            have hk1 : (out.length : Int) < (xs.length : Int) := by omega
            have hb3 := hbl.new (.cells #[.int .i64 3, .string ⟨#[97]⟩, .int .i64 0] 93)
            have HLR3 : Hid (LR (wr.alloc (.cells #[.int .i64 3, .string ⟨#[97]⟩, .int .i64 0] 93)) w.heap.size (.slice (some ⟨g, 0, none⟩) out.length capo) out) := World.ownsRow.alloc HLR.out _
            generalize hkk : bits .and .i64 xs[out.length].k 3 = kk at k1 k2
            generalize hm7 : bits .and .i64 xs[out.length].n 7 = v7 at m1 m2
            generalize hn3 : bits .and .i64 xs[out.length].n 3 = v3 at n1 n2
            by_cases h1 : kk = 1
            · have t35 : (kk == 1) = true := by simp [h1]
              obtain ⟨q1, q2⟩ := vcel_ok v7 ⟨m1, m2⟩
              have HN := mkHid (HMI.out.snoc q1 q2 (by show out.length + (m + 1) + 0 ≤ most; omega))
              clear h1 q1 q2
              have hb4 := hbl.new (.cells #[.int .i64 1, .string ⟨#[]⟩, .int .i64 v7] 93)
              have HLR4 : Hid (LR (wr.alloc (.cells #[.int .i64 1, .string ⟨#[]⟩, .int .i64 v7] 93)) w.heap.size (.slice (some ⟨g, 0, none⟩) out.length capo) out) := World.ownsRow.alloc HLR.out _
              go_wp2_with (at_builtin; refine wpList_lay rfl _ _ rfl w.heap.size _ out (⟨1, ⟨#[]⟩, v7⟩ : Cel) HLR4.out rfl (by simp only [World.size_alloc]; rfl) hb4.size (by omega) ?_; intro v2 w2 h1 h2 h3; obtain ⟨g2, cap2, rfl⟩ := h3)
              go_round
              case rel => exact ⟨m + ar (⟨1, ⟨#[]⟩, v7⟩ : Cel), out ++ [(⟨1, ⟨#[]⟩, v7⟩ : Cel)], g2, cap2, by go_num, by simp, by simp, HN.out, by rw [Hid, List.length_append]; exact h1, hb4.trans h2, HN.out.room⟩
              case measure => simp [intOf]; omega
            · have t35 : (kk == 1) = false := by simp [h1]
              by_cases h2 : kk = 2
              · have t55 : (kk == 2) = true := by simp [h2]
                obtain ⟨q1, q2⟩ := ncel_ok v3 ⟨n1, n2⟩
                have HN := mkHid (HMI.out.snoc q1 q2 (by show out.length + (m + 1) + 0 ≤ most; omega))
                clear h1 h2 q1 q2
                have hb4 := hbl.new (.cells #[.int .i64 2, .string ⟨#[]⟩, .int .i64 v3] 93)
                have HLR4 : Hid (LR (wr.alloc (.cells #[.int .i64 2, .string ⟨#[]⟩, .int .i64 v3] 93)) w.heap.size (.slice (some ⟨g, 0, none⟩) out.length capo) out) := World.ownsRow.alloc HLR.out _
                go_wp2_with (at_builtin; refine wpList_lay rfl _ _ rfl w.heap.size _ out (⟨2, ⟨#[]⟩, v3⟩ : Cel) HLR4.out rfl (by simp only [World.size_alloc]; rfl) hb4.size (by omega) ?_; intro v2 w2 h1 h2 h3; obtain ⟨g2, cap2, rfl⟩ := h3)
                go_round
                case rel => exact ⟨m + ar (⟨2, ⟨#[]⟩, v3⟩ : Cel), out ++ [(⟨2, ⟨#[]⟩, v3⟩ : Cel)], g2, cap2, by go_num, by simp, by simp, HN.out, by rw [Hid, List.length_append]; exact h1, hb4.trans h2, HN.out.room⟩
                case measure => simp [intOf]; omega
              · have t55 : (kk == 2) = false := by simp [h2]
                clear h1 h2
                by_cases hro : (out.length : Int) + ((m : Int) + 1) + v3 ≤ (most : Int)
                · have t81 : decide ((out.length : Int) + ((m : Int) + 1) + v3 ≤ (most : Int)) = true := by simp; omega
                  have HKS : Hid (∀ w', Below wr.heap.size wr w' → w'.cell? ⟨b, off + out.length * 3 + 1, none⟩ = some (.string xs[out.length].s) ∧ w'.cell? ⟨b, off + out.length * 3 + 2, none⟩ = some (.int .i64 xs[out.length].n)) := fun w' h => ⟨keep c1 h, keep c2 h⟩
                  have HB0 : Hid (Below wr.heap.size wr (wr.alloc (.cells #[.int .i64 3, .string ⟨#[97]⟩, .int .i64 0] 93)).drew) := ((Below.refl _ _).new _).drew
                  have hro2 : out.length + (m + 1) + v3.toNat ≤ most := by omega
                  clear hro
                  go_wp2_with fail
                  go_region_held3 (fun w' => w'.cell? ⟨b, off + out.length * 3 + 1, none⟩ = some (.string xs[out.length].s) ∧ w'.cell? ⟨b, off + out.length * 3 + 2, none⟩ = some (.int .i64 xs[out.length].n))
                    (first | exact HKS.out _ HB0.out | exact HKS.out _ (((Below.refl _ _).new _).drew) | exact HKS.out _ ((HB0.out).setCell (Nat.le_refl _) _) | exact HKS.out _ (((((HB0.out).setCell (p := ⟨wr.heap.size, 0, none⟩) (Nat.le_refl _) _).setCell (p := ⟨wr.heap.size, 1, none⟩) (Nat.le_refl _) _)).setCell (p := ⟨wr.heap.size, 2, none⟩) (Nat.le_refl _) _))
                    ((go_at_call 206; refine (name3_any _ _).mono ?_; rintro e w2 ⟨⟨tn, rfl, htn⟩, rfl⟩))
                  have hw5 : ∃ W5, W5 = (wr.alloc (.cells #[.int .i64 3, .string tn, .int .i64 v3] 93)).drew := ⟨_, rfl⟩
                  obtain ⟨W5, hW5⟩ := hw5
                  rw [← hW5]
                  have z0 : W5.cell? ⟨wr.heap.size, 0, none⟩ = some (.int .i64 3) := by rw [hW5]; exact World.cell?_alloc_at _ _ _ 0 rfl
                  have z1 : W5.cell? ⟨wr.heap.size, 1, none⟩ = some (.string tn) := by rw [hW5]; exact World.cell?_alloc_at _ _ _ 1 rfl
                  have z2 : W5.cell? ⟨wr.heap.size, 2, none⟩ = some (.int .i64 v3) := by rw [hW5]; exact World.cell?_alloc_at _ _ _ 2 rfl
                  have hl5 := cell_lt z0
                  have hb4 : Below w.heap.size w W5 := by rw [hW5]; exact (hbl.new _).drew
                  have HLR5 : Hid (LR W5 w.heap.size (.slice (some ⟨g, 0, none⟩) out.length capo) out) := by
                    rw [hW5]
                    exact World.ownsRow.alloc HLR.out (.cells #[.int .i64 3, .string tn, .int .i64 v3] 93)
                  obtain ⟨q1, q2⟩ := fcel_ok tn htn v3 ⟨n1, n2⟩
                  have HN := mkHid (HMI.out.snoc q1 q2 (by show out.length + (m + 1) + v3.toNat ≤ most; exact hro2))
                  clear hW5 q1 q2 htn
                  go_wp2_with (at_builtin; refine wpList_lay rfl _ _ rfl w.heap.size _ out (⟨3, tn, v3⟩ : Cel) HLR5.out rfl rfl hb4.size (by omega) ?_; intro v2 w2 h1 h2 h3; obtain ⟨g2, cap2, rfl⟩ := h3)
                  go_round
                  case rel => exact ⟨m + ar (⟨3, tn, v3⟩ : Cel), out ++ [(⟨3, tn, v3⟩ : Cel)], g2, cap2, (by show Value.int .i64 _ = Value.int .i64 ((m + v3.toNat : Nat) : Int); congr 1; omega), by simp, by simp, HN.out, by rw [Hid, List.length_append]; exact h1, hb4.trans h2, HN.out.room⟩
                  case measure => simp [intOf]; omega
                · have t81 : decide ((out.length : Int) + ((m : Int) + 1) + v3 ≤ (most : Int)) = false := by simp; omega
                  have HN := mkHid (HMI.out.snoc aC_ok aC_fit (by show out.length + (m + 1) + 0 ≤ most; omega))
                  clear hro
                  have hb4 := hbl.new (.cells #[.int .i64 3, .string ⟨#[97]⟩, .int .i64 0] 93)
                  have HLR4 : Hid (LR (wr.alloc (.cells #[.int .i64 3, .string ⟨#[97]⟩, .int .i64 0] 93)) w.heap.size (.slice (some ⟨g, 0, none⟩) out.length capo) out) := World.ownsRow.alloc HLR.out _
                  go_wp2_with (at_builtin; refine wpList_lay rfl _ _ rfl w.heap.size _ out aC HLR4.out rfl (by simp only [World.size_alloc]; rfl) hb4.size (by omega) ?_; intro v2 w2 h1 h2 h3; obtain ⟨g2, cap2, rfl⟩ := h3)
                  go_round
                  case rel => exact ⟨m + ar aC, out ++ [aC], g2, cap2, by go_num, by simp, by simp, HN.out, by rw [Hid, List.length_append]; exact h1, hb4.trans h2, HN.out.room⟩
                  case measure => simp [intOf]; omega
          · have t27 : decide ((out.length : Int) < (xs.length : Int)) = false := by simp; omega
            have t27n : decide (out.length < xs.length) = false := by simp; omega
            have HN := mkHid (HMI.out.snoc aC_ok aC_fit (by show out.length + (m + 1) + 0 ≤ most; omega))
            clear hlt
            have hb3 := hbl.new (.cells #[.int .i64 3, .string ⟨#[97]⟩, .int .i64 0] 93)
            have HLR3 : Hid (LR (wr.alloc (.cells #[.int .i64 3, .string ⟨#[97]⟩, .int .i64 0] 93)) w.heap.size (.slice (some ⟨g, 0, none⟩) out.length capo) out) := World.ownsRow.alloc HLR.out _
            go_wp2_with (at_builtin; refine wpList_lay rfl _ _ rfl w.heap.size _ out aC HLR3.out rfl (by simp only [World.size_alloc]; rfl) hb3.size (by omega) ?_; intro v2 w2 h1 h2 h3; obtain ⟨g2, cap2, rfl⟩ := h3)
            go_round
            case rel => exact ⟨m + ar aC, out ++ [aC], g2, cap2, by go_num, by simp, by simp, HN.out, by rw [Hid, List.length_append]; exact h1, hb3.trans h2, HN.out.room⟩
            case measure => simp [intOf]; omega
theorem made_any (a : Option Addr) (cap : Nat) (w : World) (xs : List Cel) (hx : Row w a cap xs) (most : Nat) (hm1 : 1 ≤ most) (hm2 : most ≤ 200) :
    Calls Try.prog 157 #[.slice a xs.length cap, .int .i64 most] w fun e w' => ∃ a' cap' ys, e = .returned (.slice a' ys.length cap') ∧ Row w' a' cap' ys ∧ rightB ys = true ∧ ys.length ≤ most ∧ Below w.heap.size w w' :=
  (made_where a cap w xs hx most hm1 hm2).mono fun e w' ⟨a', cap', ys, h1, h2, h3, h4, h5⟩ => ⟨a', cap', ys, h1, by
    rcases h2 with ⟨rfl, rfl, rfl⟩ | h2
    · exact hx.below h5
    · exact h2.row, h3, h4, h5⟩
end Go.Proofs.Ytnpffificfghpaa
namespace Go.Proofs.Ytnpffificfghpaa
open Go.RowKit

mutual
/-- a tree with its cells changed -/
def mapT (f : Cel → Cel) : Tm → Tm
  | .mk c ts => .mk (f c) (mapTs f ts)
def mapTs (f : Cel → Cel) : List Tm → List Tm
  | [] => []
  | t :: ts => mapT f t :: mapTs f ts
end
mutual
theorem mapT_flat (f : Cel → Cel) : ∀ t : Tm, (mapT f t).flat = t.flat.map f
  | .mk c ts => by simp only [mapT, Tm.flat, List.map_cons]; rw [mapTs_flat f ts]
theorem mapTs_flat (f : Cel → Cel) : ∀ ts : List Tm, flats (mapTs f ts) = (flats ts).map f
  | [] => rfl
  | t :: ts => by simp only [mapTs, flats, List.map_append]; rw [mapT_flat f t, mapTs_flat f ts]
end
theorem mapTs_length (f : Cel → Cel) (ts : List Tm) : (mapTs f ts).length = ts.length := by
  induction ts with
  | nil => rfl
  | cons t ts ih => simp [mapTs, ih]
mutual
theorem mapT_depth (f : Cel → Cel) : ∀ t : Tm, (mapT f t).depth = t.depth
  | .mk c ts => by simp only [mapT, Tm.depth]; rw [mapTs_depth f ts]
theorem mapTs_depth (f : Cel → Cel) : ∀ ts : List Tm, depths (mapTs f ts) = depths ts
  | [] => rfl
  | t :: ts => by simp only [mapTs, depths]; rw [mapT_depth f t, mapTs_depth f ts]
end
mutual
theorem mapT_ok (f : Cel → Cel) : ∀ t : Tm, t.ok → (∀ c ∈ t.flat, cellOk (f c) = true ∧ ar (f c) = ar c) → (mapT f t).ok
  | .mk c ts, h, hf => by
    obtain ⟨h1, h2, h3⟩ := h
    have hc := hf c (by simp [Tm.flat])
    exact ⟨hc.1, by rw [mapTs_length, h2, hc.2], mapTs_ok f ts h3 (fun d hd => hf d (by simp only [Tm.flat]; exact List.mem_cons_of_mem _ hd))⟩
theorem mapTs_ok (f : Cel → Cel) : ∀ ts : List Tm, oks ts → (∀ c ∈ flats ts, cellOk (f c) = true ∧ ar (f c) = ar c) → oks (mapTs f ts)
  | [], _, _ => trivial
  | t :: ts, h, hf => ⟨mapT_ok f t h.1 (fun c hc => hf c (by simp only [flats]; exact List.mem_append_left _ hc)), mapTs_ok f ts h.2 (fun c hc => hf c (by simp only [flats]; exact List.mem_append_right _ hc))⟩
end
mutual
theorem ok_cells : ∀ t : Tm, t.ok → ∀ c ∈ t.flat, cellOk c = true
  | .mk c ts, h, d, hd => by
    simp only [Tm.flat, List.mem_cons] at hd
    rcases hd with rfl | hd
    · exact h.1
    · exact oks_cells ts h.2.2 d hd
theorem oks_cells : ∀ ts : List Tm, oks ts → ∀ c ∈ flats ts, cellOk c = true
  | [], _, d, hd => by simp [flats] at hd
  | t :: ts, h, d, hd => by
    simp only [flats, List.mem_append] at hd
    rcases hd with hd | hd
    · exact ok_cells t h.1 d hd
    · exact oks_cells ts h.2 d hd
end
theorem right_cells {xs : List Cel} (h : rightB xs = true) : ∀ c ∈ xs, cellOk c = true := by
  obtain ⟨t, ht, rfl, _⟩ := right_tm h
  exact ok_cells t ht
theorem var_range {c : Cel} (h : cellOk c = true) (h1 : c.k = 1) : 0 ≤ c.n ∧ c.n ≤ 999 := by
  simp [cellOk, h1] at h; omega

/-- the variables of a term, shifted -/
def shiftI (d : Int) (c : Cel) : Cel := if c.k = 1 then ⟨c.k, c.s, c.n + d⟩ else c
theorem shiftC_eq {d : Int} (hd : -100000 ≤ d ∧ d ≤ 100000) {c : Cel} (h : c.k = 1 → -100000 ≤ c.n ∧ c.n ≤ 100000) : shiftC d c = shiftI d c := by
  unfold shiftC shiftI
  by_cases h1 : c.k = 1
  · have := h h1
    rw [if_pos h1, if_pos h1, IntWalk.wrap64_in _ (by constructor <;> omega)]
  · rw [if_neg h1, if_neg h1]
theorem map_shift {xs : List Cel} {d : Int} (hd : -100000 ≤ d ∧ d ≤ 100000) (h : ∀ c ∈ xs, c.k = 1 → -100000 ≤ c.n ∧ c.n ≤ 100000) : xs.map (shiftC d) = xs.map (shiftI d) :=
  List.map_congr_left (fun c hc => shiftC_eq hd (h c hc))
theorem varsGo_shift (d : Int) (xs : List Cel) : ∀ acc : List Int, varsGo (acc.map (· + d)) (xs.map (shiftI d)) = (varsGo acc xs).map (· + d) := by
  induction xs with
  | nil => intro acc; rfl
  | cons c xs ih =>
    intro acc
    simp only [List.map_cons, varsGo]
    have hk : (shiftI d c).k = c.k := by unfold shiftI; split <;> rfl
    have hm : ∀ n : Int, n + d ∈ acc.map (· + d) ↔ n ∈ acc := by
      intro n
      rw [List.mem_map]
      constructor
      · rintro ⟨m, hm, e⟩
        have : m = n := by omega
        rw [← this]; exact hm
      · intro h; exact ⟨n, h, rfl⟩
    by_cases h1 : c.k = 1
    · have hn : (shiftI d c).n = c.n + d := by unfold shiftI; rw [if_pos h1]
      by_cases h2 : c.n ∈ acc
      · rw [if_neg (by rw [hk, hn]; simp only [hm]; exact fun h => h.2 h2), if_neg (fun h => h.2 h2)]
        exact ih acc
      · rw [if_pos (by rw [hk, hn]; simp only [hm]; exact ⟨h1, h2⟩), if_pos ⟨h1, h2⟩, hn]
        have := ih (acc ++ [c.n])
        rw [List.map_append] at this
        exact this
    · rw [if_neg (by rw [hk]; exact fun h => h1 h.1), if_neg (fun h => h1 h.1)]
      exact ih acc
theorem vars_shift {xs : List Cel} (d : Int) : varsL (xs.map (shiftI d)) = (varsL xs).map (· + d) := varsGo_shift d xs []
theorem mem_vars_of (xs : List Cel) : ∀ (acc : List Int) (n : Int), n ∈ varsGo acc xs → n ∈ acc ∨ ∃ c ∈ xs, c.k = 1 ∧ c.n = n := by
  induction xs with
  | nil => intro acc n h; exact .inl h
  | cons c xs ih =>
    intro acc n h
    simp only [varsGo] at h
    rcases ih _ _ h with h | ⟨e, he, h1, h2⟩
    · split at h
      · rename_i hc
        rcases List.mem_append.1 h with h | h
        · exact .inl h
        · simp at h; exact .inr ⟨c, List.mem_cons_self, hc.1, h.symm⟩
      · exact .inl h
    · exact .inr ⟨e, List.mem_cons_of_mem _ he, h1, h2⟩
theorem vars_range {xs : List Cel} (h : rightB xs = true) : ∀ n ∈ varsL xs, 0 ≤ n ∧ n ≤ 999 := by
  intro n hn
  rcases mem_vars_of xs [] n hn with h' | ⟨c, hc, h1, rfl⟩
  · simp at h'
  · exact var_range (right_cells h c hc) h1
theorem shift_ok {c : Cel} {d : Int} (h : cellOk c = true) (hr : c.k = 1 → 0 ≤ c.n + d ∧ c.n + d ≤ 999) : cellOk (shiftI d c) = true ∧ ar (shiftI d c) = ar c := by
  unfold shiftI
  by_cases h1 : c.k = 1
  · rw [if_pos h1]
    have := hr h1
    refine ⟨?_, by simp [ar, h1]⟩
    simp [cellOk, h1] at h ⊢
    exact ⟨⟨h.1.1, this.1⟩, this.2⟩
  · rw [if_neg h1]; exact ⟨h, rfl⟩
theorem mem_varsL {xs : List Cel} {c : Cel} (hc : c ∈ xs) (h1 : c.k = 1) : c.n ∈ varsL xs := by
  have : ∀ (xs : List Cel) (acc : List Int), c ∈ xs → c.n ∈ varsGo acc xs := by
    intro xs
    induction xs with
    | nil => intro acc h; simp at h
    | cons e l ih =>
      intro acc h
      rcases List.mem_cons.1 h with rfl | h
      · simp only [varsGo]
        have sub : ∀ (l : List Cel) (acc : List Int) (n : Int), n ∈ acc → n ∈ varsGo acc l := by
          intro l
          induction l with
          | nil => intro acc n h; exact h
          | cons f l ih => intro acc n h; refine ih _ _ ?_; split; exact List.mem_append_left _ h; exact h
        refine sub _ _ _ ?_
        by_cases h2 : c.n ∈ acc
        · rw [if_neg (fun h => h.2 h2)]; exact h2
        · rw [if_pos ⟨h1, h2⟩]; simp
      · exact ih _ h
  exact this xs [] hc
theorem small_vars {xs : List Cel} (h : rightB xs = true) : ∀ c ∈ xs, c.k = 1 → -100000 ≤ c.n ∧ c.n ≤ 100000 := fun c hc h1 => by
  have := var_range (right_cells h c hc) h1; omega

/-- all variables stay within the limits -/
def stays (vs : List Int) (d : Int) : Bool := vs.all fun n => decide (0 ≤ n + d) && decide (n + d ≤ 999)
theorem shift_stays {t : Tm} (ht : t.ok) (h200 : t.flat.length ≤ 200) {d : Int} (hd : -100000 ≤ d ∧ d ≤ 100000) (h : stays (varsL t.flat) d = true) :
    shiftL t.flat d = (mapT (shiftI d) t).flat ∧ (mapT (shiftI d) t).ok ∧ (mapT (shiftI d) t).flat.length = t.flat.length := by
  have hR := right_flat ht h200
  have hok : (mapT (shiftI d) t).ok := mapT_ok _ t ht (fun c hc => shift_ok (ok_cells t ht c hc) (fun h1 => by
    have := List.all_eq_true.1 h c.n (mem_varsL hc h1)
    simpa using this))
  have hl : (mapT (shiftI d) t).flat.length = t.flat.length := by rw [mapT_flat, List.length_map]
  refine ⟨?_, hok, hl⟩
  unfold shiftL
  rw [map_shift hd (small_vars hR), ← mapT_flat, if_pos (right_flat hok (by omega))]
theorem shift_leaves {t : Tm} (ht : t.ok) (h200 : t.flat.length ≤ 200) {d : Int} (hd : -100000 ≤ d ∧ d ≤ 100000) (h : stays (varsL t.flat) d = false) : shiftL t.flat d = [] := by
  have hR := right_flat ht h200
  unfold shiftL
  rw [map_shift hd (small_vars hR), if_neg]
  intro hr
  obtain ⟨n, hn, hb⟩ := List.all_eq_false.1 h
  rcases mem_vars_of t.flat [] n hn with h' | ⟨c, hc, h1, rfl⟩
  · simp at h'
  · have h2 := right_cells hr (shiftI d c) (List.mem_map_of_mem hc)
    have h3 : (shiftI d c).k = 1 := by unfold shiftI; rw [if_pos h1]; exact h1
    have h4 := var_range h2 h3
    have h5 : (shiftI d c).n = c.n + d := by unfold shiftI; rw [if_pos h1]
    rw [h5] at h4
    exact hb (by simp; exact h4)
theorem shift_back {t : Tm} (ht : t.ok) (h200 : t.flat.length ≤ 200) {d : Int} (hd : -100000 ≤ d ∧ d ≤ 99000) (hd2 : -99000 ≤ d) (h : stays (varsL t.flat) d = true) : shiftL (mapT (shiftI d) t).flat (-d) = t.flat := by
  obtain ⟨_, hok, hl⟩ := shift_stays ht h200 ⟨hd.1, by omega⟩ h
  have hR := right_flat ht h200
  have hR2 := right_flat hok (by omega)
  have e : (mapT (shiftI d) t).flat.map (shiftC (-d)) = t.flat := by
    rw [map_shift ⟨by omega, by omega⟩ (small_vars hR2), mapT_flat, List.map_map]
    have : ∀ c ∈ t.flat, (shiftI (-d) ∘ shiftI d) c = c := by
      intro c _
      show shiftI (-d) (shiftI d c) = c
      unfold shiftI
      by_cases h1 : c.k = 1
      · rw [if_pos h1, if_pos h1]
        exact (Cel.eq_iff _ _).2 ⟨rfl, rfl, by show c.n + d + -d = c.n; omega⟩
      · rw [if_neg h1, if_neg h1]
    exact (List.map_congr_left this).trans (List.map_id _)
  unfold shiftL
  rw [e, if_pos hR]
theorem shift_zero {t : Tm} (ht : t.ok) (h200 : t.flat.length ≤ 200) : shiftL t.flat 0 = t.flat := by
  have hR := right_flat ht h200
  have e : t.flat.map (shiftC 0) = t.flat := by
    rw [map_shift ⟨by omega, by omega⟩ (small_vars hR)]
    have : ∀ c ∈ t.flat, shiftI 0 c = c := by
      intro c _
      unfold shiftI
      by_cases h1 : c.k = 1
      · rw [if_pos h1]
        exact (Cel.eq_iff _ _).2 ⟨rfl, rfl, by show c.n + 0 = c.n; omega⟩
      · rw [if_neg h1]
    exact (List.map_congr_left this).trans (List.map_id _)
  unfold shiftL
  rw [e, if_pos hR]
end Go.Proofs.Ytnpffificfghpaa
namespace Go.Proofs.Ytnpffificfghpaa
open Go.RowKit

/-! ### the document's Add -/
def insGo (q : Bool) (t : List Cel) (l : List (List Cel)) : List (List Cel) := if q then l else insF t l
theorem insGo_yes (t : List Cel) (l : List (List Cel)) : insGo true t l = l := rfl
theorem insGo_lt {t : List Cel} {l : List (List Cel)} {k : Nat} (hk : k < l.length) (h : compP t l[k] < 0) : insGo false t (l.drop k) = t :: l[k] :: l.drop (k + 1) := by
  rw [List.drop_eq_getElem_cons hk]; unfold insGo insF; simp [h]
theorem insGo_ge {t : List Cel} {l : List (List Cel)} {k : Nat} (hk : k < l.length) (h : ¬ compP t l[k] < 0) : insGo false t (l.drop k) = l[k] :: insGo false t (l.drop (k + 1)) := by
  rw [List.drop_eq_getElem_cons hk]; unfold insGo; simp only [Bool.false_eq_true, if_false]; rw [insF, if_neg h]
theorem insGo_end {t : List Cel} {l : List (List Cel)} {k : Nat} (hk : l.length ≤ k) : insGo false t (l.drop k) = [t] := by
  rw [List.drop_eq_nil_of_le hk]; rfl

set_option maxHeartbeats 3200000 in
set_option maxRecDepth 100000 in
theorem refaddF_any (a : Option Addr) (cap : Nat) (l : List (List Cel)) (a' : Option Addr) (cap' : Nat) (t : List Cel) (w : World) (hr : Row w a cap l) (ht : Row w a' cap' t) (hF : FR l) :
    Calls Try.prog 146 #[.slice a l.length cap, .slice a' t.length cap'] w fun e w' => ∃ a2 c2, e = .returned (.tuple #[.slice a2 (addF l t).length c2, .int .i64 (addE l t)]) ∧ Row w' a2 c2 (addF l t) ∧ Below w.heap.size w w' := by
  have hm := hr.max
  have hm2 := hr.le
  have hm3 := ht.max
  have hm4 := ht.le
  have h512 := hF.len
  cases hQ : factB t with
  | false =>
    have HE : Hid (addE l t = 120) := by unfold Hid addE; rw [hQ]; rfl
    have HL : Hid (addF l t = []) := by unfold Hid addF; rw [hQ]; rfl
    have HQ := mkHid hQ
    clear hQ hF
    go_enter Try.func146, Try.ntmps146
    go_wp2_with fail
    refine (reffact_is ht HQ).mono ?_; rintro e w1 ⟨rfl, hb1⟩
    go_wp2_with fail
    go_ret2
    rw [HE.out, HL.out]
    exact ⟨none, 0, rfl, nilRow _, hb1⟩
  | true =>
    have HQ := mkHid hQ
    by_cases hin : t ∈ l
    · have HE : Hid (addE l t = 0) := addE_in hQ hin
      have HL : Hid (addF l t = l) := by unfold Hid addF; rw [if_pos hQ, if_pos hin]
      have HD : Hid (decide (t ∈ l) = true) := decide_eq_true hin
      clear hQ hin hF
      go_enter Try.func146, Try.ntmps146
      go_wp2_with fail
      refine (reffact_is ht HQ).mono ?_; rintro e w1 ⟨rfl, hb1⟩
      go_wp2_with fail
      refine (refhasF_any a cap l a' cap' t w1 (hr.below hb1) (ht.below hb1)).mono ?_; rintro e w2 ⟨rfl, hb2⟩
      rw [HD.out]
      go_wp2_with fail
      go_ret2
      rw [HE.out, HL.out]
      exact ⟨a, cap, rfl, (hr.below hb1).below hb2, hb1.then hb2⟩
    · have HD : Hid (decide (t ∈ l) = false) := decide_eq_false hin
      by_cases hfull : 512 ≤ l.length
      · have HE : Hid (addE l t = 2) := by unfold Hid addE; rw [if_pos hQ, if_neg hin, if_pos hfull]
        have HL : Hid (addF l t = []) := by unfold Hid addF; rw [if_pos hQ, if_neg hin, if_pos hfull]
        clear hQ hin hF
        go_enter Try.func146, Try.ntmps146
        go_wp2_with fail
        refine (reffact_is ht HQ).mono ?_; rintro e w1 ⟨rfl, hb1⟩
        go_wp2_with fail
        refine (refhasF_any a cap l a' cap' t w1 (hr.below hb1) (ht.below hb1)).mono ?_; rintro e w2 ⟨rfl, hb2⟩
        rw [HD.out]
        go_wp2_with fail
        go_ret2
        rw [HE.out, HL.out]
        exact ⟨none, 0, rfl, nilRow _, hb1.then hb2⟩
      · have HE : Hid (addE l t = 0) := by unfold Hid addE; rw [if_pos hQ, if_neg hin, if_neg hfull]
        have HL : Hid (addF l t = insF t l) := by unfold Hid addF; rw [if_pos hQ, if_neg hin, if_neg hfull]
        have hlt512 : l.length < 512 := by omega
        have HA : Hid (∀ x ∈ l, factB x = true) := hF.all
        clear hQ hin hF
        go_enter Try.func146, Try.ntmps146
        go_wp2_with fail
        refine (reffact_is ht HQ).mono ?_; rintro e w1 ⟨rfl, hb1⟩
        go_wp2_with fail
        refine (refhasF_any a cap l a' cap' t w1 (hr.below hb1) (ht.below hb1)).mono ?_; rintro e w2 ⟨rfl, hb2⟩
        rw [HD.out]
        have hb12 := hb1.then hb2
        have hr2 := hr.below hb12
        have ht2 := ht.below hb12
        have hm0 := AccInv.made (α := List Cel) (B := w2.heap.size) (e := 30) (T := 30) w2 (Nat.le_refl _) rfl
        have hb0 := (Below.refl w2.heap.size w2).new (.cells #[] 30)
        go_wp2_with fail
        go_loopw [6, 7, 8] (fun v q i wr => ∃ (k : Nat) (A : List (List Cel)) (b : Bool), k ≤ l.length ∧ (A.length ≤ k ∨ b = true ∧ A.length ≤ k + 1) ∧ i = .int .i64 k ∧ q = .bool b ∧ AccInv w2.heap.size 30 A v wr ∧ Below w2.heap.size w2 wr ∧ Hid (A ++ insGo b t (l.drop k) = insF t l)) (fun v q i wr => l.length - (intOf i).toNat)
        case atStart => exact ⟨0, [], false, Nat.zero_le _, by simp, rfl, rfl, hm0, hb0, rfl⟩
        case round =>
          obtain ⟨k, A, q, hk, hA, rfl, rfl, hacc, hbl, HS⟩ := hrel
          by_cases hlt : k < l.length
          · obtain ⟨b, off, rfl, hb, hat⟩ := hr2.cases.resolve_left (fun e => by simp [e] at hlt)
            obtain ⟨a1, cap1, d0, hq1⟩ := list_at hat (Below.refl _ _) hlt
            have c0 := keep d0 hbl
            have hr1 := hq1.below hbl
            have ht1 := ht2.below hbl
            have hfr := hacc.fresh hbl
            have hqh := hq1.keeps hfr
            have hth := ht2.keeps hfr
            have hszl := hbl.size
            cases q with
            | true =>
              have hA1 : A.length ≤ k + 1 := hA.elim (fun h => by omega) (fun h => h.2)
              clear hA
              have HT : Hid ((A ++ [l[k]]) ++ insGo true t (l.drop (k + 1)) = insF t l) := by
                rw [Hid, ← HS.out, insGo_yes, insGo_yes, List.append_assoc, List.drop_eq_getElem_cons hlt]; rfl
              clear HS
              go_wp2_with (at_builtin; refine wpList_acc (α := List Cel) rfl _ _ 22 rfl w2.heap.size 30 24 _ Try.underlying22 Try.infoSl rfl (by decide) _ A hacc (by rfl) _ #[.slice a1 l[k].length cap1] l[k] ⟨a1, cap1, rfl, hqh⟩ (by rfl) (by omega) hszl ?_; intro v9 w9 hacc9 hb9)
              go_round
              case rel => exact ⟨k + 1, A ++ [l[k]], true, by omega, .inr ⟨rfl, by simp; omega⟩, by go_num, rfl, hacc9, hbl.trans hb9, HT⟩
              case measure => simp [intOf]; omega
            | false =>
              have hA1 : A.length ≤ k := hA.elim id (fun h => by cases h.1)
              clear hA
              obtain ⟨d, hd⟩ : ∃ d, compP t l[k] = d := ⟨_, rfl⟩
              have HR : Hid (compR t l[k] = d) := by rw [Hid, ← comp_factF HQ.out (HA.out _ (List.getElem_mem hlt))]; exact hd
              by_cases hd0 : d < 0
              · have HT : Hid (((A ++ [t]) ++ [l[k]]) ++ insGo true t (l.drop (k + 1)) = insF t l) := by
                  rw [Hid, ← HS.out, insGo_yes, insGo_lt hlt (by rw [hd]; exact hd0), List.append_assoc, List.append_assoc]; rfl
                clear HS hd
                go_wp2_with (first
                  | (go_at_call 145; refine (refcompare_is ht1 hr1 HR).mono ?_; rintro e w4 ⟨rfl, hb4⟩; have hacc4 := hacc.below hb4; have hbl4 := hbl.then hb4; have hfr4 := hacc4.fresh hbl4; have hqh4 := hq1.keeps hfr4; have hth4 := ht2.keeps hfr4; have c4 := keep c0 hb4; have hsz4 := hbl4.size)
                  | (at_builtin; refine wpList_acc (α := List Cel) rfl _ _ 22 rfl w2.heap.size 30 24 _ Try.underlying22 Try.infoSl rfl (by decide) _ A hacc4 (by rfl) _ #[.slice a' t.length cap'] t ⟨a', cap', rfl, hth4⟩ (by rfl) (by omega) hsz4 ?_; intro v8 w8 hacc8 hb8; have hbl8 := hbl4.trans hb8; have hqh8 := hq1.keeps (hacc8.fresh hbl8); have c8 := keep d0 hbl8; have hsz8 := hbl8.size)
                  | (at_builtin; refine wpList_acc (α := List Cel) rfl _ _ 22 rfl w2.heap.size 30 24 _ Try.underlying22 Try.infoSl rfl (by decide) _ (A ++ [t]) hacc8 (by rfl) _ #[.slice a1 l[k].length cap1] l[k] ⟨a1, cap1, rfl, hqh8⟩ (by rfl) (by simp; omega) hsz8 ?_; intro v9 w9 hacc9 hb9))
                go_round
                case rel => exact ⟨k + 1, (A ++ [t]) ++ [l[k]], true, by omega, .inr ⟨rfl, by simp; omega⟩, by go_num, rfl, hacc9, hbl8.trans hb9, HT⟩
                case measure => simp [intOf]; omega
              · have HT : Hid ((A ++ [l[k]]) ++ insGo false t (l.drop (k + 1)) = insF t l) := by
                  rw [Hid, ← HS.out, insGo_ge hlt (by rw [hd]; exact hd0), List.append_assoc]; rfl
                clear HS hd
                go_wp2_with (first
                  | (go_at_call 145; refine (refcompare_is ht1 hr1 HR).mono ?_; rintro e w4 ⟨rfl, hb4⟩; have hacc4 := hacc.below hb4; have hbl4 := hbl.then hb4; have hfr4 := hacc4.fresh hbl4; have hqh4 := hq1.keeps hfr4; have c4 := keep c0 hb4; have hsz4 := hbl4.size)
                  | (at_builtin; refine wpList_acc (α := List Cel) rfl _ _ 22 rfl w2.heap.size 30 24 _ Try.underlying22 Try.infoSl rfl (by decide) _ A hacc4 (by rfl) _ #[.slice a1 l[k].length cap1] l[k] ⟨a1, cap1, rfl, hqh4⟩ (by rfl) (by omega) hsz4 ?_; intro v9 w9 hacc9 hb9))
                go_round
                case rel => exact ⟨k + 1, A ++ [l[k]], false, by omega, .inl (by simp; omega), by go_num, rfl, hacc9, hbl4.trans hb9, HT⟩
                case measure => simp [intOf]; omega
          · have hszl := hbl.size
            cases q with
            | true =>
              clear hA
              have HT : Hid (A = insF t l) := by rw [Hid, ← HS.out, insGo_yes, List.drop_eq_nil_of_le (by omega), List.append_nil]
              clear HS
              obtain ⟨a9, c9, rfl, hr9⟩ := hacc.row
              go_wp2_with fail
              go_ret2
              rw [HE.out, HL.out, ← HT.out]
              exact ⟨a9, c9, rfl, hr9, hb12.then hbl⟩
            | false =>
              have hA1 : A.length ≤ k := hA.elim id (fun h => by cases h.1)
              clear hA
              have HT : Hid (A ++ [t] = insF t l) := by rw [Hid, ← HS.out, insGo_end (by omega)]
              have hth := ht2.keeps (hacc.fresh hbl)
              clear HS
              go_wp2_with (at_builtin; refine wpList_acc (α := List Cel) rfl _ _ 22 rfl w2.heap.size 30 24 _ Try.underlying22 Try.infoSl rfl (by decide) _ A hacc (by rfl) _ #[.slice a' t.length cap'] t ⟨a', cap', rfl, hth⟩ (by rfl) (by omega) hszl ?_; intro v9 w9 hacc9 hb9)
              obtain ⟨a9, c9, rfl, hr9⟩ := hacc9.row
              go_wp2_with fail
              go_ret2
              rw [HE.out, HL.out, ← HT.out]
              exact ⟨a9, c9, rfl, hr9, hb12.then (hbl.trans hb9)⟩
end Go.Proofs.Ytnpffificfghpaa
namespace Go.Proofs.Ytnpffificfghpaa
open Go.RowKit Go.Shelf Go.Lib

/-! ### slices.Insert of one row into a row of rows -/
theorem set_grownF (b : Nat) : ∀ (vs : List Value) (o : Nat) (w : World), w.grownBy (w.setCells b o vs) (some b)
  | [], o, w => ⟨rfl, rfl, rfl, Nat.le_refl _, fun _ _ _ => rfl⟩
  | v :: vs, o, w => grown_trans (grown_set w b o v) (set_grownF b vs (o + 1) (w.setCell ⟨b, o, none⟩ v))
theorem drew_grownF (w : World) (r : Option Nat) : w.grownBy w.drew r := ⟨rfl, rfl, rfl, Nat.le_refl _, fun _ _ _ => rfl⟩
theorem crows_one {W : World} : ∀ {vs : List Value} {acc : List (List Cel)}, CRows W vs acc → vs.length = acc.length ∧ ∀ (i : Nat) (x : List Cel), acc[i]? = some x → ∃ a cap, vs[i]? = some (Value.slice a x.length cap) ∧ Row W a cap x
  | _, _, .nil => ⟨rfl, fun i x h => by simp at h⟩
  | _, _, .cons (cs := cs) (x := y) (vs := vs) (xs := xs) hc hr => by
    obtain ⟨a, cap, rfl, hrow⟩ := hc
    obtain ⟨h1, h2⟩ := crows_one hr
    refine ⟨by simp [h1], fun i x hx => ?_⟩
    cases i with
    | zero => simp at hx; subst hx; exact ⟨a, cap, rfl, hrow⟩
    | succ i => exact h2 i x (by simpa using hx)
theorem info_sizeF : (Try.prog.info? 30).map (·.size) = some 1 := by
  obtain ⟨i0, hi0, _, hzs, _⟩ := info_parts Try.infoSl
  rw [hi0]; simp [hzs]
theorem size_of_F : ∀ w, (Go.sizeOf 30).run Try.prog w = .ok 1 w := fun w => by kernel_rfl
theorem overlapsF (w : World) (vb b o lb cb : Nat) (hvb : vb ≠ b) (tA tB : TypeId) (kA kB : Nat) (hsa : w.shape? vb = some (tA, kA)) (hsb : w.shape? b = some (tB, kB)) (hkB : kB ≠ 0) (hfa : ∀ j, w.frozen? ⟨vb, j, none⟩ = false) :
    (callFunc 245 #[.slice (some ⟨vb, 0, none⟩) 1 1, .slice (some ⟨b, o, none⟩) lb cb]).run Try.prog w = .ok (.value (.bool false)) w := by
  rw [run_callFunc_extern Try.func245 (by kernel_rfl) (by kernel_rfl) (by kernel_rfl) (e := Extern.SlicesOverlaps.overlaps #[22, 22] #[4]) (by kernel_rfl),
    Lib.run_overlaps_apart w 22 4 30 Try.underlying22 1 size_of_F ⟨vb, 0, none⟩ ⟨b, o, none⟩ 1 1 lb cb hvb tA tB kA kB hsa hsb hkB (hfa 0) (hfa kA)]
  rfl

set_option maxHeartbeats 4000000 in
set_option maxRecDepth 100000 in
/-- there is room, and it is put in ahead of the end -/
theorem ins_shift (b n c i vb : Nat) (cs : List Value) (tv : Value) (w : World) (hi : i < n) (hroom : n + 1 ≤ c) (hc63 : c ≤ 9223372036854775807) (hvb : vb ≠ b) (hcl : cs.length = n)
    (hcs : ∀ j v, cs[j]? = some v → w.cell? ⟨b, j, none⟩ = some v) (hsp : ∀ j, j < n + 1 → (w.cell? ⟨b, j, none⟩).isSome = true) (hfz : ∀ j, w.frozen? ⟨b, j, none⟩ = false)
    (hvs : w.cell? ⟨vb, 0, none⟩ = some tv) (h1c : ∀ v ∈ cs, v.oneCell' = true) (h1v : tv.oneCell' = true)
    (tA tB : TypeId) (kA kB : Nat) (hsa : w.shape? vb = some (tA, kA)) (hsb : w.shape? b = some (tB, kB)) (hkB : kB ≠ 0) (hfa : ∀ j, w.frozen? ⟨vb, j, none⟩ = false) :
    Calls Try.prog 234 #[.slice (some ⟨b, 0, none⟩) n c, .int .i64 i, .slice (some ⟨vb, 0, none⟩) 1 1] w fun e w' =>
      e = .returned (.slice (some ⟨b, 0, none⟩) (n + 1) c) ∧ w' = (w.drew.setCells b (i + 1) (cs.drop i)).setCells b i [tv] := by
  have hov : ∀ o lb cb, (callFunc 245 #[.slice (some ⟨vb, 0, none⟩) 1 1, .slice (some ⟨b, o, none⟩) lb cb]).run Try.prog w = .ok (.value (.bool false)) w := fun o lb cb => overlapsF w vb b o lb cb hvb tA tB kA kB hsa hsb hkB hfa
  have hdl : (cs.drop i).length = n - i := by rw [List.length_drop, hcl]
  have hz2 : ¬ ((i : Int) = (n : Int)) := by omega
  have hw1 : IntKind.i64.wrap ((i : Int) + 1) = (i : Int) + 1 := by rw [IntKind.wrap_i64]; omega
  have hb1 : (0 : Int) ≤ (i : Int) + 1 := by omega
  have hin : i ≤ n := by omega
  have htn : ((i : Int) + 1).toNat = i + 1 := by omega
  have hb2 : ¬ (c = i + 1) := by omega
  have hb3 : (i : Int) ≤ (n : Int) + 1 := by omega
  have hb4 : ¬ (c = i) := by omega
  have hcp1 : ∀ ty dc sc, (Builtin.copy_ #[22, 22] ty #[.slice (some ⟨b, i + 1, none⟩) (n - i) dc, .slice (some ⟨b, i, none⟩) (n + 1 - i) sc]).run Try.prog w.drew = .ok (goInt (cs.drop i).length) (w.drew.setCells b (i + 1) (cs.drop i)) := fun ty dc sc =>
    run_copy_cells w.drew _ _ ty 30 b (i + 1) (n - i) dc ⟨b, i, none⟩ (n + 1 - i) sc (cs.drop i) Try.underlying22 info_sizeF (by rw [hdl]; simp only [Nat.min_def]; split <;> omega)
      (fun j v hj => by rw [Addr.add_lit]; exact hcs (i + j) v (by rwa [List.getElem?_drop] at hj))
      (fun j hj => hsp _ (by omega)) (fun j hj => hfz _) (fun v hv => h1c v (List.mem_of_mem_drop hv))
  obtain ⟨W1, hW1⟩ : ∃ W1, W1 = w.drew.setCells b (i + 1) (cs.drop i) := ⟨_, rfl⟩
  have hsp1 : ∀ k, k < n + 1 → (W1.cell? ⟨b, k, none⟩).isSome = true := fun k hk => by
    rw [hW1]
    exact isSome_setCells b (cs.drop i) (i + 1) w.drew (fun j hj => hsp (i + 1 + j) (by omega)) k (hsp k hk)
  have hcp2 : ∀ (W : World), (∀ x, W.cell? x = W1.cell? x) → (∀ x, W.frozen? x = W1.frozen? x) → ∀ ty dc, (Builtin.copy_ #[22, 22] ty #[.slice (some ⟨b, i, none⟩) (n + 1 - i) dc, .slice (some ⟨vb, 0, none⟩) 1 1]).run Try.prog W = .ok (goInt [tv].length) (W.setCells b i [tv]) := fun W hWc hWf ty dc =>
    run_copy_cells W _ _ ty 30 b i (n + 1 - i) dc ⟨vb, 0, none⟩ 1 1 [tv] Try.underlying22 info_sizeF (by simp only [Nat.min_def, List.length_singleton]; split <;> omega)
      (fun j v hj => by
        rw [Addr.add_lit, hWc, hW1, World.cell?_setCells_out b _ _ _ _ (fun h _ => absurd h hvb)]
        cases j with
        | zero => simp at hj; subst hj; exact hvs
        | succ j => simp at hj)
      (fun j hj => by rw [hWc]; exact hsp1 _ (by simp at hj; omega)) (fun j hj => by rw [hWf, hW1, World.frozen?_setCells]; exact hfz _) (fun v hv => by simp at hv; subst hv; exact h1v)
  rw [← hW1] at hcp1
  have mixed : Try.prog.follows Departure.mixedOrders = true := by kernel_rfl
  go_enter Try.func234, Try.ntmps234
  go_wp2_with (simp only [hov])
  go_region_law_o (refine step_copy_runI rfl _ _ 22 22 rfl _ _ (by simp [Act.eval, Act.put]) (by simp [Act.eval, Act.put]) (hcp1 _ _ _) ?_)
  go_wp2_with (at_builtin; refine wpList_copy_runI _ rfl _ _ 22 22 rfl _ _ rfl rfl (hcp2 _ (fun _ => rfl) (fun _ => rfl) _ _) ?_)
  go_ret
  first | exact ⟨rfl, rfl⟩ | exact ⟨rfl, by rw [hW1]⟩

set_option maxHeartbeats 4000000 in
set_option maxRecDepth 100000 in
/-- there is no room, and it is put in ahead of the end -/
theorem ins_grow (b n c i vb : Nat) (cs : List Value) (tv : Value) (w : World) (hi : i < n) (hnc : n ≤ c) (hroom : c < n + 1) (hbig : n + 1 ≤ 1000000000)
    (hcl : cs.length = n) (hcs : ∀ j v, cs[j]? = some v → w.cell? ⟨b, j, none⟩ = some v) (hvs : w.cell? ⟨vb, 0, none⟩ = some tv) (h1c : ∀ v ∈ cs, v.oneCell' = true) (h1v : tv.oneCell' = true) :
    Calls Try.prog 234 #[.slice (some ⟨b, 0, none⟩) n c, .int .i64 i, .slice (some ⟨vb, 0, none⟩) 1 1] w fun e w' =>
      ∃ (G : Nat) (ROW : Array Value), e = .returned (.slice (some ⟨w.heap.size, 0, none⟩) (n + 1) G) ∧ n + 1 ≤ G ∧ G ≤ 9223372036854775807 ∧ n + 1 ≤ ROW.size ∧ (∀ (j : Nat) (v : Value), (cs.take i)[j]? = some v → ROW[j]? = some v) ∧
        w' = (((w.alloc (.cells ROW 30)).drew.setCells w.heap.size i [tv]).drew).setCells w.heap.size (i + 1) (cs.drop i) := by
  obtain ⟨i0, hi0, hz0, hzs, hzb⟩ := info_parts Try.infoSl
  have hz2 : ¬ ((i : Int) = (n : Int)) := by omega
  have hz3 : (c : Int) < (n : Int) + 1 := by omega
  have hbw : b < w.heap.size := block_lt_of_cell (hcs 0 _ (List.getElem?_eq_getElem (by omega)))
  have hvw : vb < w.heap.size := block_lt_of_cell hvs
  have hkk : (n : Int) + 1 - (i : Int) = ((n + 1 - i : Nat) : Int) := by omega
  have hik : i + (n + 1 - i) = n + 1 := by omega
  have hold : (Builtin.firstCells i0.size i (.slice (some ⟨b, 0, none⟩) i c)).run Try.prog w.drew = .ok (cs.take i).toArray w.drew := by
    rw [hzs]
    exact run_firstCells_some w.drew 1 i ⟨b, 0, none⟩ i c (cs.take i) (by rw [List.length_take]; omega) (fun j v hj => by
      rw [Addr.add_lit, Nat.zero_add]
      rw [List.getElem?_take] at hj
      split at hj
      · exact hcs j v hj
      · cases hj)
  have hrz : ∀ ty, (Builtin.append_ #[22, 3] ty #[.slice (some ⟨b, 0, none⟩) i c, .int .i64 ((n : Int) + 1 - (i : Int))]).run Try.prog w =
      .ok (.slice (some ⟨w.heap.size, 0, none⟩) (n + 1) (grownCap w (n + 1) c 30)) (w.drew.alloc (.cells ((cs.take i).toArray ++ Builtin.zeroCells (Value.slice none 0 0).cells (n + 1 - i) ++ Builtin.zeroCells (Value.slice none 0 0).cells (grownCap w (n + 1) c 30 - (n + 1))) 30)) := fun ty => by
    have h := Lib.run_append_grow_zeros w 22 3 ty 30 i0 _ .i64 .i64 Try.underlying22 Try.underlying3 hi0 hz0 (some ⟨b, 0, none⟩) i c (cs.take i) hold (n + 1 - i) (by omega) (by omega) (by omega) (by omega) (by rw [hzb]; omega) (by rw [hzb, hik]; exact growslice_fits (bytes := 24) hroom (by omega))
    rw [hik] at h
    rw [hkk]
    exact h
  obtain ⟨G, hG⟩ : ∃ G, G = grownCap w (n + 1) c 30 := ⟨_, rfl⟩
  obtain ⟨ROW, hROW⟩ : ∃ ROW : Array Value, ROW = (cs.take i).toArray ++ Builtin.zeroCells (Value.slice none 0 0).cells (n + 1 - i) ++ Builtin.zeroCells (Value.slice none 0 0).cells (G - (n + 1)) := ⟨_, rfl⟩
  rw [← hG] at hrz
  rw [← hROW] at hrz
  have hRl : n + 1 ≤ ROW.size := by
    rw [hROW]
    simp [Builtin.zeroCells, Value.cells]
    omega
  have hRt : ∀ (j : Nat) (v : Value), (cs.take i)[j]? = some v → ROW[j]? = some v := by
    intro j v hj
    obtain ⟨hl, _⟩ := List.getElem?_eq_some_iff.1 hj
    rw [hROW, Array.getElem?_append_left (by simp at hl ⊢; omega), Array.getElem?_append_left (by simpa using hl)]
    simpa using hj
  obtain ⟨W1, hW1⟩ : ∃ W1, W1 = w.drew.alloc (.cells ROW 30) := ⟨_, rfl⟩
  rw [← hW1] at hrz
  have hN : ∀ j, j < n + 1 → (W1.cell? ⟨w.heap.size, j, none⟩).isSome = true := fun j hj => by
    rw [hW1, World.cell?_alloc_at (w := w.drew) ROW _ w.heap.size j rfl, Array.getElem?_eq_getElem (by omega)]; rfl
  have hNf : ∀ j, W1.frozen? ⟨w.heap.size, j, none⟩ = false := fun j => by rw [hW1]; exact World.frozen?_alloc_at (w := w.drew) ROW _ w.heap.size j rfl
  have hOb : ∀ j v, w.cell? ⟨b, j, none⟩ = some v → W1.cell? ⟨b, j, none⟩ = some v := fun j v h => by rw [hW1, World.cell?_alloc_past (w := w.drew) _ b j hbw]; exact h
  have hOv : ∀ j v, w.cell? ⟨vb, j, none⟩ = some v → W1.cell? ⟨vb, j, none⟩ = some v := fun j v h => by rw [hW1, World.cell?_alloc_past (w := w.drew) _ vb j hvw]; exact h
  have hcpA : ∀ (W : World), (∀ x, W.cell? x = W1.cell? x) → (∀ x, W.frozen? x = W1.frozen? x) → ∀ ty dc, (Builtin.copy_ #[22, 22] ty #[.slice (some ⟨w.heap.size, i, none⟩) (n + 1 - i) dc, .slice (some ⟨vb, 0, none⟩) 1 1]).run Try.prog W = .ok (goInt [tv].length) (W.setCells w.heap.size i [tv]) := fun W hWc hWf ty dc =>
    run_copy_cells W _ _ ty 30 w.heap.size i (n + 1 - i) dc ⟨vb, 0, none⟩ 1 1 [tv] Try.underlying22 info_sizeF (by simp only [Nat.min_def, List.length_singleton]; split <;> omega)
      (fun j v hj => by
        rw [Addr.add_lit, hWc]
        cases j with
        | zero => simp at hj; subst hj; exact hOv _ _ hvs
        | succ j => simp at hj)
      (fun j hj => by rw [hWc]; exact hN _ (by simp at hj; omega)) (fun j hj => by rw [hWf]; exact hNf _) (fun v hv => by simp at hv; subst hv; exact h1v)
  have hGn : n + 1 ≤ G := by rw [hG]; exact grownCap_ge w _ _ _
  have hG63 : G ≤ 9223372036854775807 := by
    have := grownCap_le_maxLen w (n + 1) c 30 (by unfold maxLen; omega)
    rw [← hG] at this
    unfold maxLen at this
    omega
  have hGi : ¬ (G = i) := by omega
  have hGim : ¬ (G = i + 1) := by omega
  have hci : ¬ (c = i) := by omega
  have hbN : b ≠ w.heap.size := by omega
  have hdl : (cs.drop i).length = n - i := by rw [List.length_drop, hcl]
  have hcpB : ∀ (W : World), (∀ x, W.cell? x = (W1.setCells w.heap.size i [tv]).cell? x) → (∀ x, W.frozen? x = (W1.setCells w.heap.size i [tv]).frozen? x) → ∀ ty dc sc, (Builtin.copy_ #[22, 22] ty #[.slice (some ⟨w.heap.size, i + 1, none⟩) (n - i) dc, .slice (some ⟨b, i, none⟩) (n - i) sc]).run Try.prog W = .ok (goInt (cs.drop i).length) (W.setCells w.heap.size (i + 1) (cs.drop i)) := fun W hWc hWf ty dc sc =>
    run_copy_cells W _ _ ty 30 w.heap.size (i + 1) (n - i) dc ⟨b, i, none⟩ (n - i) sc (cs.drop i) Try.underlying22 info_sizeF (by rw [hdl]; simp only [Nat.min_def]; split <;> omega)
      (fun j v hj => by
        rw [Addr.add_lit, hWc, World.cell?_setCells_out _ _ _ _ _ (fun h _ => absurd h hbN)]
        exact hOb _ v (hcs (i + j) v (by rwa [List.getElem?_drop] at hj)))
      (fun j hj => by rw [hWc]; exact isSome_setCells w.heap.size [tv] i W1 (fun t ht => hN (i + t) (by simp at ht; omega)) (i + 1 + j) (hN _ (by omega)))
      (fun j hj => by rw [hWf, World.frozen?_setCells]; exact hNf _) (fun v hv => h1c v (List.mem_of_mem_drop hv))
  subst hW1
  have hE1 : ∀ x, ((w.alloc (.cells ROW 30)).drew).cell? x = (w.drew.alloc (.cells ROW 30)).cell? x := fun x => rfl
  have hE2 : ∀ x, ((w.alloc (.cells ROW 30)).drew).frozen? x = (w.drew.alloc (.cells ROW 30)).frozen? x := fun x => rfl
  have hF1 : ∀ x, (((w.alloc (.cells ROW 30)).drew.setCells w.heap.size i [tv]).drew).cell? x = ((w.drew.alloc (.cells ROW 30)).setCells w.heap.size i [tv]).cell? x := fun x => rfl
  have hF2 : ∀ x, (((w.alloc (.cells ROW 30)).drew.setCells w.heap.size i [tv]).drew).frozen? x = ((w.drew.alloc (.cells ROW 30)).setCells w.heap.size i [tv]).frozen? x := fun x => rfl
  have hw1 : IntKind.i64.wrap ((i : Int) + 1) = (i : Int) + 1 := by rw [IntKind.wrap_i64]; omega
  have hb1 : (0 : Int) ≤ (i : Int) + 1 := by omega
  have hin : i ≤ n := by omega
  have htn : ((i : Int) + 1).toNat = i + 1 := by omega
  have hb3 : (i : Int) ≤ (n : Int) := by omega
  have HRl := mkHid hRl
  have HRt := mkHid hRt
  have mixed : Try.prog.follows Departure.mixedOrders = true := by kernel_rfl
  clear hkk hik hold hROW hG hRl hRt
  go_enter Try.func234, Try.ntmps234
  go_wp2_with (first
    | (at_builtin; refine Lib.wpList_append_run _ rfl _ _ _ _ rfl _ _ rfl rfl _ _ (hrz _) ?_)
    | (at_builtin; refine wpList_copy_runI _ rfl _ _ 22 22 rfl _ _ rfl rfl (hcpA _ hE1 hE2 _ _) ?_)
    | (at_builtin; refine wpList_copy_runI _ rfl _ _ 22 22 rfl _ _ rfl rfl (hcpB _ (fun _ => rfl) (fun _ => rfl) _ _ _) ?_))
  go_region_law_o (refine step_copy_runI rfl _ _ 22 22 rfl (.slice (some ⟨w.heap.size, i + 1, none⟩) (n - i) (G - (i + 1))) (.slice (some ⟨b, i, none⟩) (n - i) (c - i)) (by simp [Act.eval, Act.put]) (by simp [Act.eval, Act.put]) (hcpB _ hF1 hF2 3 (G - (i + 1)) (c - i)) ?_)
  go_wp2
  go_ret
  exact ⟨G, ROW, rfl, hGn, hG63, HRl.out, HRt.out, rfl⟩
end Go.Proofs.Ytnpffificfghpaa
namespace Go.Proofs.Ytnpffificfghpaa
open Go.RowKit Go.Shelf Go.Lib

theorem ins_pt {α β : Type} (R : β → α → Prop) {us : List β} {xs : List α} (hl : us.length = xs.length) (h : ∀ (j : Nat) (x : α), xs[j]? = some x → ∃ u, us[j]? = some u ∧ R u x) {i : Nat} (hi : i ≤ xs.length) {v : β} {y : α} (hv : R v y) :
    ∀ (j : Nat) (x : α), (xs.take i ++ y :: xs.drop i)[j]? = some x → ∃ u, (us.take i ++ v :: us.drop i)[j]? = some u ∧ R u x := by
  intro j x hx
  have t1 : (xs.take i).length = i := by rw [List.length_take]; omega
  have t2 : (us.take i).length = i := by rw [List.length_take]; omega
  by_cases h1 : j < i
  · rw [List.getElem?_append_left (by omega), List.getElem?_take_of_lt h1] at hx ⊢
    exact h j x hx
  · rw [List.getElem?_append_right (by omega), t1] at hx
    rw [List.getElem?_append_right (by omega), t2]
    by_cases h2 : j = i
    · subst h2
      simp at hx ⊢
      subst hx; exact hv
    · obtain ⟨d, hd⟩ : ∃ d, j - i = d + 1 := ⟨j - i - 1, by omega⟩
      rw [hd, List.getElem?_cons_succ, List.getElem?_drop] at hx ⊢
      exact h _ x hx
section
variable {b i n : Nat} {w : World} {cs : List Value} {tv : Value}
theorem two_setA (hcl : cs.length = n) (hi : i < n) (hsp : ∀ j, j < n + 1 → (w.cell? ⟨b, j, none⟩).isSome = true) (hlo : ∀ (j : Nat) (u : Value), j < i → cs[j]? = some u → w.cell? ⟨b, j, none⟩ = some u) :
    ∀ (j : Nat) (u : Value), (cs.take i ++ tv :: cs.drop i)[j]? = some u → ((w.setCells b (i + 1) (cs.drop i)).setCells b i [tv]).cell? ⟨b, j, none⟩ = some u := by
  intro j u hj
  have t2 : (cs.take i).length = i := by rw [List.length_take]; omega
  have hdl : (cs.drop i).length = n - i := by rw [List.length_drop, hcl]
  by_cases h1 : j < i
  · rw [List.getElem?_append_left (by omega), List.getElem?_take_of_lt h1] at hj
    rw [World.cell?_setCells_out _ _ _ _ _ (fun _ _ => .inl h1), World.cell?_setCells_out _ _ _ _ _ (fun _ _ => .inl (by show j < i + 1; omega))]
    exact hlo j u h1 hj
  · rw [List.getElem?_append_right (by omega), t2] at hj
    by_cases h2 : j = i
    · subst h2
      simp at hj
      subst hj
      have := World.cell?_setCells_in b [tv] j (w.setCells b (j + 1) (cs.drop j)) (fun q hq => by
        simp at hq; subst hq
        exact isSome_setCells b (cs.drop j) (j + 1) w (fun q hq => hsp (j + 1 + q) (by omega)) (j + 0) (hsp _ (by omega))) 0 (by simp)
      simpa using this
    · obtain ⟨d, hd⟩ : ∃ d, j = i + 1 + d := ⟨j - i - 1, by omega⟩
      subst hd
      rw [show i + 1 + d - i = d + 1 by omega, List.getElem?_cons_succ] at hj
      obtain ⟨hl, hu⟩ := List.getElem?_eq_some_iff.1 hj
      rw [World.cell?_setCells_out _ _ _ _ _ (fun _ _ => .inr (by simp <;> omega)), World.cell?_setCells_in b (cs.drop i) (i + 1) w (fun q hq => hsp _ (by omega)) d hl, hu]
theorem two_setB (hcl : cs.length = n) (hi : i < n) (hsp : ∀ j, j < n + 1 → (w.cell? ⟨b, j, none⟩).isSome = true) (hlo : ∀ (j : Nat) (u : Value), j < i → cs[j]? = some u → w.cell? ⟨b, j, none⟩ = some u) :
    ∀ (j : Nat) (u : Value), (cs.take i ++ tv :: cs.drop i)[j]? = some u → ((w.setCells b i [tv]).setCells b (i + 1) (cs.drop i)).cell? ⟨b, j, none⟩ = some u := by
  intro j u hj
  have t2 : (cs.take i).length = i := by rw [List.length_take]; omega
  have hdl : (cs.drop i).length = n - i := by rw [List.length_drop, hcl]
  by_cases h1 : j < i
  · rw [List.getElem?_append_left (by omega), List.getElem?_take_of_lt h1] at hj
    rw [World.cell?_setCells_out _ _ _ _ _ (fun _ _ => .inl (by show j < i + 1; omega)), World.cell?_setCells_out _ _ _ _ _ (fun _ _ => .inl h1)]
    exact hlo j u h1 hj
  · rw [List.getElem?_append_right (by omega), t2] at hj
    by_cases h2 : j = i
    · subst h2
      simp at hj
      subst hj
      rw [World.cell?_setCells_out _ _ _ _ _ (fun _ _ => .inl (by show j < j + 1; omega))]
      have := World.cell?_setCells_in b [tv] j w (fun q hq => by
        simp at hq; subst hq
        exact hsp _ (by omega)) 0 (by simp)
      simpa using this
    · obtain ⟨d, hd⟩ : ∃ d, j = i + 1 + d := ⟨j - i - 1, by omega⟩
      subst hd
      rw [show i + 1 + d - i = d + 1 by omega, List.getElem?_cons_succ] at hj
      obtain ⟨hl, hu⟩ := List.getElem?_eq_some_iff.1 hj
      rw [World.cell?_setCells_in b (cs.drop i) (i + 1) _ (fun q hq => isSome_setCells b [tv] i w (fun q hq => hsp (i + q) (by simp at hq; omega)) (i + 1 + q) (hsp _ (by omega))) d hl, hu]
end
/-- rows of rows, told cell by cell -/
theorem row_told {W : World} {b c : Nat} {us : List Value} {xs : List (List Cel)} (hc : xs.length ≤ c) (hc2 : c ≤ 9223372036854775807) (hcell : ∀ (j : Nat) (u : Value), us[j]? = some u → W.cell? ⟨b, j, none⟩ = some u)
    (h : ∀ (j : Nat) (x : List Cel), xs[j]? = some x → ∃ u, us[j]? = some u ∧ ∃ a cap, u = Value.slice a x.length cap ∧ Row W a cap x) : Row W (some ⟨b, 0, none⟩) c xs := by
  refine ⟨hc, hc2, (fun e => by cases e), fun j x hx => ⟨b, 0, rfl, ?_⟩⟩
  obtain ⟨u, hu, a, cap, rfl, hr⟩ := h j x hx
  have := hcell j _ hu
  refine ⟨a, cap, ?_, hr⟩
  show W.cell? ⟨b, 0 + j * 1, none⟩ = _
  rw [Nat.zero_add, Nat.mul_one]
  exact this
theorem ins_len (xs : List (List Cel)) (t : List Cel) (k : Nat) : (xs.take k ++ t :: xs.drop k).length = xs.length + 1 := by
  rw [List.length_append, List.length_cons, ← Nat.add_assoc, ← List.length_append, List.take_append_drop]

set_option maxHeartbeats 2000000 in
theorem insert_any (B : Nat) (v : Value) (acc : List (List Cel)) (k : Nat) (t : List Cel) (at_ : Option Addr) (ct : Nat) (w : World) (hacc : AccInv B 30 acc v w) (hk : k ≤ acc.length) (hl : acc.length ≤ 1000000) (hB : B ≤ w.heap.size) (ht : Row (hide v.ownBlock w) at_ ct t) :
    Calls Try.prog 234 #[v, .int .i64 k, .slice (some ⟨w.heap.size, 0, none⟩) 1 1] (w.alloc (.cells #[.slice at_ t.length ct] 30)) fun e w' => ∃ a' c', e = .returned (.slice a' (acc.length + 1) c') ∧ Row w' a' c' (acc.take k ++ t :: acc.drop k) ∧ Below B w w' := by
  by_cases hke : k = acc.length
  · have HE : Hid (acc ++ [t] = acc.take k ++ t :: acc.drop k) := by subst hke; simp [Hid]
    have hend : ∀ v9 w9, AccInv B 30 (acc ++ [t]) v9 w9 → ∃ a' c', v9 = .slice a' (acc.length + 1) c' ∧ Row w9 a' c' (acc.take k ++ t :: acc.drop k) := fun v9 w9 h => by
      obtain ⟨a', c', rfl, hr⟩ := h.row
      exact ⟨a', c', by simp, HE.out ▸ hr⟩
    have HEND := mkHid hend
    clear hend HE
    obtain ⟨vs, ho, hc⟩ := hacc.ex
    rcases ho.2 with ⟨rfl, hn⟩ | ⟨g, cap, cur, rfl, hbg, hg, hn, hm, hsz, htk⟩
    · obtain rfl : acc = [] := List.eq_nil_of_length_eq_zero hn
      obtain rfl : k = 0 := hke
      clear ho hc hn
      go_enter Try.func234, Try.ntmps234
      go_wp2_with (at_builtin; refine wpList_acc (α := List Cel) rfl _ _ 22 rfl B 30 24 _ Try.underlying22 Try.infoSl rfl (by decide) _ [] hacc (by rfl) _ #[.slice at_ t.length ct] t ⟨at_, ct, rfl, ht⟩ (by rfl) (by simp) hB ?_; intro v9 w9 hacc9 hb9)
      obtain ⟨a', c', rfl, hrow⟩ := HEND.out v9 w9 hacc9
      go_wp2
      go_ret
      exact ⟨a', c', rfl, hrow, hb9⟩
    · have hcap : cap ≤ 9223372036854775807 := by unfold maxLen at hm; omega
      clear ho hc htk hsz hg hm
      subst hke
      by_cases hce : cap = acc.length
      · subst hce
        go_enter Try.func234, Try.ntmps234
        go_wp2_with (at_builtin; refine wpList_acc (α := List Cel) rfl _ _ 22 rfl B 30 24 _ Try.underlying22 Try.infoSl rfl (by decide) _ acc hacc (by rfl) _ #[.slice at_ t.length ct] t ⟨at_, ct, rfl, ht⟩ (by rfl) (by omega) hB ?_; intro v9 w9 hacc9 hb9)
        obtain ⟨a', c', rfl, hrow⟩ := HEND.out v9 w9 hacc9
        go_wp2
        go_ret
        exact ⟨a', c', rfl, hrow, hb9⟩
      · go_enter Try.func234, Try.ntmps234
        go_wp2_with (at_builtin; refine wpList_acc (α := List Cel) rfl _ _ 22 rfl B 30 24 _ Try.underlying22 Try.infoSl rfl (by decide) _ acc hacc (by rfl) _ #[.slice at_ t.length ct] t ⟨at_, ct, rfl, ht⟩ (by rfl) (by omega) hB ?_; intro v9 w9 hacc9 hb9)
        obtain ⟨a', c', rfl, hrow⟩ := HEND.out v9 w9 hacc9
        go_wp2
        go_ret
        exact ⟨a', c', rfl, hrow, hb9⟩
  · have hki : k < acc.length := by omega
    obtain ⟨vs, ho, hc⟩ := hacc.ex
    have hvl : vs.length = acc.length := by have := ho.1; rwa [show Rep.sz (List Cel) = 1 from rfl, Nat.mul_one] at this
    rcases ho.2 with ⟨rfl, hn⟩ | ⟨g, cap, cur, rfl, hbg, hg, hn, hm, hsz, htk⟩
    · omega
    have hgs : g < w.heap.size := (Array.getElem?_eq_some_iff.1 hg).1
    have hcap : cap ≤ 9223372036854775807 := by unfold maxLen at hm; omega
    obtain ⟨W, hW⟩ : ∃ W, w.alloc (.cells #[.slice at_ t.length ct] 30) = W := ⟨_, rfl⟩
    have hbW : Below w.heap.size w W := by rw [← hW]; exact (Below.refl _ _).new _
    have hkW : Keeps (hide (some g) w) (hide (some g) W) := below_hide hbW _
    have hcells : ∀ (j : Nat) (u : Value), vs[j]? = some u → W.cell? ⟨g, j, none⟩ = some u := fun j u hu => keep (own_cells ho j u hu) hbW
    have hgW : W.heap[g]? = some (.cells cur 30 (0, 0)) := by rw [hbW.block g hgs]; exact hg
    have hspW : ∀ j, j < cap → (W.cell? ⟨g, j, none⟩).isSome = true := fun j hj => by
      rw [World.cell?, hgW]
      have : j < cur.size := by rw [hsz, show Rep.sz (List Cel) = 1 from rfl, Nat.mul_one]; exact hj
      simp [this]
    have hfzW : ∀ j, W.frozen? ⟨g, j, none⟩ = false := fun j => by simp [World.frozen?, hgW]
    have hvW : W.cell? ⟨w.heap.size, 0, none⟩ = some (.slice at_ t.length ct) := by rw [← hW]; exact World.cell?_alloc_at _ _ _ 0 rfl
    have hsa : W.shape? w.heap.size = some (30, 1) := by rw [← hW]; exact World.shape?_alloc_at _ _ _ rfl
    have hsb : W.shape? g = some (30, cur.size) := by simp [World.shape?, hgW]
    have hfa : ∀ j, W.frozen? ⟨w.heap.size, j, none⟩ = false := fun j => by rw [← hW]; exact World.frozen?_alloc_at _ _ _ j rfl
    have hone : ∀ u ∈ vs, u.oneCell' = true := hc.one
    obtain ⟨_, hpt⟩ := crows_one hc
    have hpt2 : ∀ (W2 : World), Keeps (hide (some g) w) W2 → ∀ (j : Nat) (x : List Cel), (acc.take k ++ t :: acc.drop k)[j]? = some x → ∃ u, (vs.take k ++ .slice at_ t.length ct :: vs.drop k)[j]? = some u ∧ ∃ a cap, u = Value.slice a x.length cap ∧ Row W2 a cap x := fun W2 hk2 =>
      ins_pt (fun u x => ∃ a cap, u = Value.slice a x.length cap ∧ Row W2 a cap x) hvl (fun j x hx => by
        obtain ⟨a, c, h1, h2⟩ := hpt j x hx
        exact ⟨_, h1, a, c, rfl, h2.keeps hk2⟩) hk ⟨at_, ct, rfl, ht.keeps hk2⟩
    have HPT := mkHid hpt2
    have hlen := ins_len acc t k
    have HLEN := mkHid hlen
    clear hpt hpt2 hlen
    have hcz : cur.size ≠ 0 := by rw [hsz, show Rep.sz (List Cel) = 1 from rfl, Nat.mul_one]; omega
    rw [hW]
    by_cases hroom : acc.length + 1 ≤ cap
    · refine (ins_shift g acc.length cap k w.heap.size vs _ W hki hroom hcap (by omega) hvl hcells (fun j hj => hspW j (by omega)) hfzW hvW hone (by rfl) _ _ _ _ hsa hsb hcz hfa).mono ?_
      rintro e w' ⟨rfl, hw'⟩
      have hgr : W.grownBy w' (some g) := by rw [hw']; exact grown_trans (grown_trans (drew_grownF W _) (set_grownF g _ _ _)) (set_grownF g _ _ _)
      have hk2 : Keeps (hide (some g) w) w' := (hkW.trans (grown_keeps hgr)).trans (hide_keeps _ _)
      refine ⟨some ⟨g, 0, none⟩, cap, rfl, row_told (by rw [HLEN.out]; exact hroom) hcap (us := vs.take k ++ .slice at_ t.length ct :: vs.drop k) ?_ (HPT.out w' hk2), ?_⟩
      · rw [hw']
        exact two_setA (w := W.drew) hvl hki (fun j hj => hspW j (by omega)) (fun j u _ hu => hcells j u hu)
      · exact (hbW.mono hB).grown hgr (Nat.le_trans hB hbW.size) (fun q hq => by cases hq; exact hbg)
    · refine (ins_grow g acc.length cap k w.heap.size vs _ W hki hn (by omega) (by omega) hvl hcells hvW hone (by rfl)).mono ?_
      rintro e w' ⟨G, ROW, rfl, hG1, hG2, hR1, hR2, hw'⟩
      have hb1 : Below W.heap.size W w' := by
        rw [hw']
        have h1 : Below W.heap.size W ((W.alloc (.cells ROW 30)).drew) := ((Below.refl _ _).new (.cells ROW 30)).trans ⟨rfl, rfl, rfl, Nat.le_refl _, fun _ _ => rfl⟩
        have h2 := h1.grown (set_grownF W.heap.size [Value.slice at_ t.length ct] k _) h1.size (fun q hq => by cases hq; exact Nat.le_refl _)
        have h3 : Below W.heap.size W ((((W.alloc (.cells ROW 30)).drew).setCells W.heap.size k [Value.slice at_ t.length ct]).drew) := h2.trans ⟨rfl, rfl, rfl, Nat.le_refl _, fun _ _ => rfl⟩
        exact h3.grown (set_grownF W.heap.size (vs.drop k) (k + 1) _) h3.size (fun q hq => by cases hq; exact Nat.le_refl _)
      have hk2 : Keeps (hide (some g) w) w' := (hkW.trans (hide_keeps _ _)).trans (Keeps.of hb1)
      refine ⟨some ⟨W.heap.size, 0, none⟩, G, rfl, row_told (by rw [HLEN.out]; exact hG1) hG2 (us := vs.take k ++ .slice at_ t.length ct :: vs.drop k) ?_ (HPT.out w' hk2), (hbW.mono hB).trans (hb1.mono (Nat.le_trans hB hbW.size))⟩
      rw [hw', drew_setCells]
      refine two_setB (w := (W.alloc (.cells ROW 30)).drew.drew) hvl hki (fun j hj => ?_) (fun j u hj hu => ?_)
      · have h1 : (W.alloc (.cells ROW 30)).cell? ⟨W.heap.size, j, none⟩ = ROW[j]? := World.cell?_alloc_at ROW _ W.heap.size j rfl
        show ((W.alloc (.cells ROW 30)).cell? ⟨W.heap.size, j, none⟩).isSome = true
        rw [h1, Array.getElem?_eq_getElem (by omega)]; rfl
      · have h1 : (W.alloc (.cells ROW 30)).cell? ⟨W.heap.size, j, none⟩ = ROW[j]? := World.cell?_alloc_at ROW _ W.heap.size j rfl
        show (W.alloc (.cells ROW 30)).cell? ⟨W.heap.size, j, none⟩ = some u
        rw [h1]
        exact hR2 j u (by rw [List.getElem?_take_of_lt hj]; exact hu)
end Go.Proofs.Ytnpffificfghpaa
namespace Go.Proofs.Ytnpffificfghpaa
open Go.RowKit

/-! ### where a fact stands -/
set_option maxHeartbeats 4000000 in
theorem search_any (g : Nat) (cb : Array Value) (n k : Nat) (p : Nat → Bool) (w : World) (eg : ∀ args w, (callFunc g args).run Try.prog w = .ok (.enter g args) w) (hsz : n ≤ 1000000) (hk : k ≤ n)
    (hf : ∀ (W : World) (i : Nat), Below w.heap.size w W → i < n → Calls Try.prog g (#[.int .i64 i] ++ cb) W fun e W' => e = .returned (.bool (p i)) ∧ Below W.heap.size W W')
    (h1 : ∀ i, i < k → p i = false) (h2 : ∀ i, k ≤ i → i < n → p i = true) :
    Calls Try.prog 154 #[.int .i64 n, .func (.func g) #[] cb] w fun e w' => e = .returned (.int .i64 k) ∧ Below w.heap.size w w' := by
  have HF := mkHid hf
  have H1 := mkHid h1
  have H2 := mkHid h2
  clear hf h1 h2
  go_enter Try.func154, Try.ntmps154
  go_wp2
  go_loopg [5, 6] n (fun kx s5 s6 wr => ∃ (lo hi : Nat), s5 = .int .i64 lo ∧ s6 = .int .i64 hi ∧ lo ≤ k ∧ k ≤ hi ∧ hi ≤ n ∧ hi - lo ≤ kx ∧ Below w.heap.size w wr)
  case atStart => exact ⟨0, n, rfl, rfl, Nat.zero_le _, hk, Nat.le_refl _, by omega, Below.refl _ _⟩
  case round =>
    obtain ⟨lo, hi, rfl, rfl, hlk, hkh, hin, hg, hbl⟩ := hrel
    by_cases hlt : lo < hi
    · have hc := HF.out wr ((lo + hi) / 2) hbl (by omega)
      rw [show (((lo + hi) / 2 : Nat) : Int) = ((lo : Int) + (hi : Int)) / 2 by omega] at hc
      by_cases hp : (lo + hi) / 2 < k
      · rw [H1.out _ hp] at hc
        go_wp2_with fail
        refine hc.mono ?_
        rintro e w' ⟨rfl, hb1⟩
        go_wp2_with fail
        go_roundg (hi - ((lo + hi) / 2 + 1))
        case measure => omega
        case rel => exact ⟨(lo + hi) / 2 + 1, hi, by rw [show ((lo : Int) + (hi : Int)) / 2 + 1 = (((lo + hi) / 2 + 1 : Nat) : Int) by omega], rfl, hp, hkh, hin, Nat.le_refl _, hbl.then hb1⟩
      · rw [H2.out ((lo + hi) / 2) (by omega) (by omega)] at hc
        go_wp2_with fail
        refine hc.mono ?_
        rintro e w' ⟨rfl, hb1⟩
        go_wp2_with fail
        go_roundg ((lo + hi) / 2 - lo)
        case measure => omega
        case rel => exact ⟨lo, (lo + hi) / 2, rfl, by rw [show ((lo : Int) + (hi : Int)) / 2 = (((lo + hi) / 2 : Nat) : Int) by omega], hlk, by omega, by omega, Nat.le_refl _, hbl.then hb1⟩
    · obtain rfl : hi = lo := by omega
      obtain rfl : hi = k := by omega
      go_wp2
      go_ret
      exact ⟨rfl, hbl⟩

set_option maxHeartbeats 1600000 in
theorem place1_any (T2 T3 : Nat) (W : World) (a : Option Addr) (cap : Nat) (l : List (List Cel)) (a' : Option Addr) (cap' : Nat) (t : List Cel) (i : Nat) (hi : i < l.length) (hr : Row W a cap l) (ht : Row W a' cap' t)
    (h2 : W.cell? ⟨T2, 0, none⟩ = some (.slice a l.length cap)) (h3 : W.cell? ⟨T3, 0, none⟩ = some (.slice a' t.length cap')) :
    Calls Try.prog 155 (#[.int .i64 i] ++ #[.pointer (some ⟨T2, 0, none⟩), .pointer (some ⟨T3, 0, none⟩)]) W fun e W' => e = .returned (.bool (!decide (compP l[i] t < 0))) ∧ Below W.heap.size W W' := by
  have hm := hr.max
  have hm2 := hr.le
  obtain ⟨b, off, rfl, hb, hat⟩ := hr.cases.resolve_left (fun e => by simp [e] at hi)
  obtain ⟨a1, cap1, c0, hr1⟩ := list_at hat (Below.refl _ _) hi
  have e0 : ∀ x : Later W, x.w'.cell? ⟨b, off + i, none⟩ = some (.slice a1 l[i].length cap1) := keepL c0
  have e2 : ∀ x : Later W, x.w'.cell? ⟨T2, 0, none⟩ = some (.slice (some ⟨b, off, none⟩) l.length cap) := keepL h2
  have e3 : ∀ x : Later W, x.w'.cell? ⟨T3, 0, none⟩ = some (.slice a' t.length cap') := keepL h3
  obtain ⟨d, hd⟩ : ∃ d, compP l[i] t = d := ⟨_, rfl⟩
  have HD := mkHid hd
  have hcall : ∀ x : Later W, Calls Try.prog 142 #[.slice a1 l[i].length cap1, .slice a' t.length cap'] x.w' fun e w'' => e = .returned (.int .i64 d) ∧ Below x.w'.heap.size x.w' w'' := fun x =>
    compare_is (hr1.below x.ok) (ht.below x.ok) HD
  rw [hd]
  clear hd
  show Calls Try.prog 155 #[.int .i64 i, .pointer (some ⟨T2, 0, none⟩), .pointer (some ⟨T3, 0, none⟩)] W _
  by_cases hd0 : d < 0
  · have hd1 : ¬ 0 ≤ d := by omega
    go_enter Try.func155, Try.ntmps155
    go_wp2
    refine wp_region_calm (by kernel_rfl) (by kernel_rfl) ?_
    repeat (go_big_quiet_step (exact Calls.calm_of (hcall _)))
    refine wpQuiet_nil ?_
    rintro _ ⟨x, rfl⟩
    go_wp2
    go_ret
    exact ⟨ret_bool (by have h1 : ¬ 0 ≤ d := by omega
                        simp [hd0, h1]), x.ok⟩
  · have hd1 : 0 ≤ d := by omega
    go_enter Try.func155, Try.ntmps155
    go_wp2
    refine wp_region_calm (by kernel_rfl) (by kernel_rfl) ?_
    repeat (go_big_quiet_step (exact Calls.calm_of (hcall _)))
    refine wpQuiet_nil ?_
    rintro _ ⟨x, rfl⟩
    go_wp2
    go_ret
    exact ⟨ret_bool (by simp; omega), x.ok⟩

theorem pos_ahead {t : List Cel} {l : List (List Cel)} (h : FR l) {i : Nat} (hi : i < l.length) : (!decide (compP l[i] t < 0)) = !decide (i < posF t l) := by
  obtain ⟨h1, h2⟩ := pos_split (t := t) h.rise
  by_cases hk : i < posF t l
  · have := h1 l[i] (take_memF hi hk)
    simp [this, hk]
  · have := h2 l[i] (drop_memF hi (by omega))
    simp [hk]; omega

theorem fbox_old (w : World) (v : Value) (T : TypeId) (o : Obj) : ((w.alloc (.cells #[v] T)).alloc o).cell? ⟨w.heap.size, 0, none⟩ = some v := by
  have h : (w.alloc (.cells #[v] T)).cell? ⟨w.heap.size, 0, none⟩ = some v := (World.cell?_alloc_at #[v] T w.heap.size 0 rfl).trans rfl
  exact keep h ((Below.refl _ _).new _)
theorem fbox_new (w : World) (o : Obj) (v : Value) (T : TypeId) : ((w.alloc o).alloc (.cells #[v] T)).cell? ⟨w.heap.size + 1, 0, none⟩ = some v :=
  (World.cell?_alloc_at (w := w.alloc o) #[v] T (w.heap.size + 1) 0 (by simp)).trans rfl
set_option maxHeartbeats 1600000 in
theorem place_any (a : Option Addr) (cap : Nat) (l : List (List Cel)) (a' : Option Addr) (cap' : Nat) (t : List Cel) (w : World) (hr : Row w a cap l) (ht : Row w a' cap' t) (hF : FR l) :
    Calls Try.prog 81 #[.slice a l.length cap, .slice a' t.length cap'] w fun e w' => e = .returned (.tuple #[.int .i64 (posF t l), .bool (decide (t ∈ l))]) ∧ Below w.heap.size w w' := by
  have hm := hr.max
  have hm2 := hr.le
  have h512 := hF.len
  have hple := pos_le t l
  have HP : Hid (t ∈ l ↔ ∃ hk : posF t l < l.length, l[posF t l] = t) := pos_mem hF.rise
  have HF := mkHid hF
  clear hF
  have hmf : ∀ (fn : Fn) (first cap : Array Value) (w : World), (Instr.makeFunc fn first cap).run Try.prog w = .ok (.func fn first cap) w := fun _ _ _ _ => rfl
  have hb0 : Below w.heap.size w ((w.alloc (.cells #[.slice a l.length cap] 22)).alloc (.cells #[.slice a' t.length cap'] 30)) := ((Below.refl _ _).new _).new _
  have k2 : ((w.alloc (.cells #[.slice a l.length cap] 22)).alloc (.cells #[.slice a' t.length cap'] 30)).cell? ⟨w.heap.size, 0, none⟩ = some (.slice a l.length cap) := fbox_old _ _ _ _
  have k3 : ((w.alloc (.cells #[.slice a l.length cap] 22)).alloc (.cells #[.slice a' t.length cap'] 30)).cell? ⟨w.heap.size + 1, 0, none⟩ = some (.slice a' t.length cap') := fbox_new _ _ _ _
  have hs : Calls Try.prog 154 #[.int .i64 l.length, .func (.func 155) #[] #[.pointer (some ⟨w.heap.size, 0, none⟩), .pointer (some ⟨w.heap.size + 1, 0, none⟩)]] ((w.alloc (.cells #[.slice a l.length cap] 22)).alloc (.cells #[.slice a' t.length cap'] 30)) fun e w' => e = .returned (.int .i64 (posF t l)) ∧ Below ((w.alloc (.cells #[.slice a l.length cap] 22)).alloc (.cells #[.slice a' t.length cap'] 30)).heap.size ((w.alloc (.cells #[.slice a l.length cap] 22)).alloc (.cells #[.slice a' t.length cap'] 30)) w' := by
    refine search_any _ _ l.length (posF t l) (fun i => !decide (i < posF t l)) _ (fun _ _ => by kernel_rfl) (by omega) hple ?_ (fun i hi => by simp [hi]) (fun i hi _ => by simp; omega)
    intro W i hW hi
    have hbW := hb0.then hW
    refine (place1_any w.heap.size (w.heap.size + 1) W a cap l a' cap' t i hi (hr.below hbW) (ht.below hbW) (keep k2 hW) (keep k3 hW)).mono ?_
    rintro e W' ⟨he, hb⟩
    exact ⟨by rw [he]; exact ret_bool (pos_ahead HF.out hi), hb⟩
  obtain ⟨k, hkk⟩ : ∃ k, posF t l = k := ⟨_, rfl⟩
  rw [hkk] at hs hple HP ⊢
  clear hkk
  by_cases hlt : k < l.length
  · obtain ⟨b, off, rfl, hb, hat⟩ := hr.cases.resolve_left (fun e => by simp [e] at hlt)
    obtain ⟨d, hd⟩ : ∃ d, decide (l[k] = t) = d := ⟨_, rfl⟩
    have HD := mkHid hd
    have HE : Hid (d = decide (t ∈ l)) := by
      rw [Hid, ← hd]
      refine decide_eq_decide.2 ?_
      rw [HP.out]
      exact ⟨fun e => ⟨hlt, e⟩, fun ⟨_, e⟩ => e⟩
    clear hd
    go_enter Try.func81, Try.ntmps81
    go_wp2_with fail
    refine hs.mono ?_
    rintro e w1 ⟨rfl, hb1⟩
    have hb01 := hb0.then hb1
    obtain ⟨a1, cap1, c0, hr1⟩ := list_at hat hb01 hlt
    have e0 : ∀ x : Later w1, x.w'.cell? ⟨b, off + k, none⟩ = some (.slice a1 l[k].length cap1) := keepL c0
    have e2 : ∀ x : Later w1, x.w'.cell? ⟨w.heap.size, 0, none⟩ = some (.slice (some ⟨b, off, none⟩) l.length cap) := keepL (keep k2 hb1)
    have e3 : ∀ x : Later w1, x.w'.cell? ⟨w.heap.size + 1, 0, none⟩ = some (.slice a' t.length cap') := keepL (keep k3 hb1)
    have ht1 := ht.below hb01
    have hcall : ∀ x : Later w1, Calls Try.prog 156 #[.slice a1 l[k].length cap1, .slice a' t.length cap'] x.w' fun e w'' => e = .returned (.bool d) ∧ Below x.w'.heap.size x.w' w'' := fun x =>
      sameF_is (hr1.below x.ok) (ht1.below x.ok) HD
    go_wp2_with fail
    refine wp_region_calm (by kernel_rfl) (by kernel_rfl) ?_
    repeat (go_big_quiet_step (exact Calls.calm_of (hcall _)))
    refine wpQuiet_nil ?_
    rintro _ ⟨x, rfl⟩
    go_wp2
    go_ret2
    refine ⟨?_, hb01.then x.ok⟩
    rw [← HE.out]
    rfl
  · have HE : Hid (decide (t ∈ l) = false) := by
      rw [Hid]
      refine decide_eq_false ?_
      rw [HP.out]
      exact fun ⟨h, _⟩ => hlt h
    go_enter Try.func81, Try.ntmps81
    go_wp2_with fail
    refine hs.mono ?_
    rintro e w1 ⟨rfl, hb1⟩
    have hb01 := hb0.then hb1
    have e2 : ∀ x : Later w1, x.w'.cell? ⟨w.heap.size, 0, none⟩ = some (.slice a l.length cap) := keepL (keep k2 hb1)
    have e3 : ∀ x : Later w1, x.w'.cell? ⟨w.heap.size + 1, 0, none⟩ = some (.slice a' t.length cap') := keepL (keep k3 hb1)
    go_wp2_with fail
    refine wp_region_calm (by kernel_rfl) (by kernel_rfl) ?_
    repeat (go_big_quiet_step (fail))
    refine wpQuiet_nil ?_
    rintro _ ⟨x, rfl⟩
    go_wp2
    go_ret2
    refine ⟨?_, hb01.then x.ok⟩
    rw [HE.out]
    rfl

/-! ### is it there? -/
theorem hasF_any (a : Option Addr) (cap : Nat) (l : List (List Cel)) (a' : Option Addr) (cap' : Nat) (t : List Cel) (w : World) (hr : Row w a cap l) (ht : Row w a' cap' t) (hF : FR l) :
    Calls Try.prog 34 #[.slice a l.length cap, .slice a' t.length cap'] w fun e w' => e = .returned (.bool (decide (t ∈ l))) ∧ Below w.heap.size w w' := by
  have hm := hr.max
  have hm2 := hr.le
  have hm3 := ht.max
  have hm4 := ht.le
  cases hQ : factB t with
  | false =>
    have HE : Hid (decide (t ∈ l) = false) := decide_eq_false fun h => by rw [hF.all t h] at hQ; cases hQ
    have HQ := mkHid hQ
    clear hQ
    go_enter Try.func34, Try.ntmps34
    go_wp2_with fail
    refine (fact_is ht HQ).mono ?_; rintro e w1 ⟨rfl, hb1⟩
    go_wp2_with fail
    go_ret
    exact ⟨ret_bool HE.out.symm, hb1⟩
  | true =>
    have HQ := mkHid hQ
    clear hQ
    have HF := mkHid hF
    clear hF
    go_enter Try.func34, Try.ntmps34
    go_wp2_with fail
    refine (fact_is ht HQ).mono ?_; rintro e w1 ⟨rfl, hb1⟩
    go_wp2_with fail
    refine (place_any a cap l a' cap' t w1 (hr.below hb1) (ht.below hb1) HF.out).mono ?_; rintro e w2 ⟨rfl, hb2⟩
    go_wp2_with fail
    go_ret
    exact ⟨rfl, hb1.then hb2⟩
/-- what is no fact is never there -/
theorem hasF_no (a : Option Addr) (cap : Nat) (l : List (List Cel)) (a' : Option Addr) (cap' : Nat) (t : List Cel) (w : World) (hr : Row w a cap l) (ht : Row w a' cap' t) (hQ : factB t = false) :
    Calls Try.prog 34 #[.slice a l.length cap, .slice a' t.length cap'] w fun e w' => e = .returned (.bool false) ∧ Below w.heap.size w w' := by
  have hm := hr.max
  have hm2 := hr.le
  have hm3 := ht.max
  have hm4 := ht.le
  have HQ := mkHid hQ
  clear hQ
  go_enter Try.func34, Try.ntmps34
  go_wp2_with fail
  refine (fact_is ht HQ).mono ?_; rintro e w1 ⟨rfl, hb1⟩
  go_wp2_with fail
  go_ret
  exact ⟨rfl, hb1⟩
end Go.Proofs.Ytnpffificfghpaa
namespace Go.Proofs.Ytnpffificfghpaa
open Go.RowKit

/-! ### rows picked from a row -/
theorem filt_yes {α : Type} {p : α → Bool} {l : List α} {k : Nat} (hk : k < l.length) (h : p l[k] = true) : (l.take (k + 1)).filter p = (l.take k).filter p ++ [l[k]] := by
  rw [List.take_succ_eq_append_getElem hk, List.filter_append]; simp [h]
theorem filt_no {α : Type} {p : α → Bool} {l : List α} {k : Nat} (hk : k < l.length) (h : p l[k] = false) : (l.take (k + 1)).filter p = (l.take k).filter p := by
  rw [List.take_succ_eq_append_getElem hk, List.filter_append]; simp [h]

set_option maxHeartbeats 1600000 in
theorem picked_any (g : Nat) (cb : Array Value) (p : List Cel → Bool) (a : Option Addr) (cap : Nat) (l : List (List Cel)) (w : World) (hr : Row w a cap l) (hl : l.length ≤ 1000000) (hx : ∀ x ∈ l, x.length ≤ 1000000)
    (eg : ∀ args w, (callFunc g args).run Try.prog w = .ok (.enter g args) w)
    (hf : ∀ (W : World) (i : Nat) (hi : i < l.length) (a1 : Option Addr) (c1 : Nat), Below w.heap.size w W → Row W a1 c1 l[i] → Calls Try.prog g (#[.slice a1 l[i].length c1] ++ cb) W fun e W' => e = .returned (.bool (p l[i])) ∧ Below W.heap.size W W') :
    Calls Try.prog 204 #[.slice a l.length cap, .func (.func g) #[] cb] w fun e w' => ∃ v, e = .returned v ∧ AccInv w.heap.size 30 (l.filter p) v w' ∧ Below w.heap.size w w' := by
  have hm := hr.max
  have hm2 := hr.le
  have HF := mkHid hf
  have HX := mkHid hx
  clear hf hx
  go_enter Try.func204, Try.ntmps204
  go_wp2
  go_loopw [5, 10] (fun v i wr => ∃ (k : Nat) (A : List (List Cel)), k ≤ l.length ∧ A.length ≤ k ∧ i = .int .i64 k ∧ AccInv w.heap.size 30 A v wr ∧ Below w.heap.size w wr ∧ Hid ((l.take k).filter p = A)) (fun v i wr => l.length - (intOf i).toNat)
  case atStart => exact ⟨0, [], Nat.zero_le _, Nat.zero_le _, rfl, AccInv.nil _ _ _, Below.refl _ _, rfl⟩
  case round =>
    obtain ⟨k, A, hk, hA, rfl, hacc, hbl, HS⟩ := hrel
    by_cases hlt : k < l.length
    · obtain ⟨b, off, rfl, hb, hat⟩ := hr.cases.resolve_left (fun e => by simp [e] at hlt)
      obtain ⟨a1, cap1, c0, hr1⟩ := list_at hat hbl hlt
      have hc := HF.out wr k hlt a1 cap1 hbl hr1
      obtain ⟨q, hq⟩ : ∃ q, p l[k] = q := ⟨_, rfl⟩
      rw [hq] at hc
      have HQ := mkHid hq
      clear hq
      have hlk : l[k].length ≤ 1000000 := HX.out _ (List.getElem_mem hlt)
      cases q with
      | false =>
        have HT : Hid ((l.take (k + 1)).filter p = A) := by rw [Hid, filt_no hlt HQ.out, HS.out]
        clear HS
        go_wp2_with fail
        refine hc.mono ?_
        rintro e w1 ⟨rfl, hb1⟩
        go_wp2_with fail
        go_round
        case rel => exact ⟨k + 1, A, by omega, by omega, by go_num, hacc.below hb1, hbl.then hb1, HT⟩
        case measure => simp [intOf]; omega
      | true =>
        have HT : Hid ((l.take (k + 1)).filter p = A ++ [l[k]]) := by rw [Hid, filt_yes hlt HQ.out, HS.out]
        clear HS
        go_wp2_with fail
        refine hc.mono ?_
        rintro e w1 ⟨rfl, hb1⟩
        have hacc1 := hacc.below hb1
        have hr11 := hr1.below hb1
        go_wp2_with (first
          | (go_at_call 149; refine (clone_new2 a1 cap1 _ l[k] hr11 hlk).mono ?_; rintro e w2 ⟨a2, cap2, rfl, hr2, hb2⟩; have hacc2 := hacc1.below hb2; have hrh := hacc1.newer (Nat.le_refl _) hr2; have hbl2 := (hbl.then hb1).then hb2; have hsz2 := hbl2.size)
          | (at_builtin; refine wpList_acc (α := List Cel) rfl _ _ 22 rfl w.heap.size 30 24 _ Try.underlying22 Try.infoSl rfl (by decide) _ A hacc2 (by rfl) _ #[.slice a2 l[k].length cap2] l[k] ⟨a2, cap2, rfl, hrh⟩ (by rfl) (by omega) hsz2 ?_; intro v9 w9 hacc9 hb9))
        go_round
        case rel => exact ⟨k + 1, A ++ [l[k]], by omega, by simp; omega, by go_num, hacc9, hbl2.trans hb9, HT⟩
        case measure => simp [intOf]; omega
    · have HT : Hid (A = l.filter p) := by rw [Hid, ← HS.out, List.take_of_length_le (by omega)]
      have hacc' : AccInv w.heap.size 30 (l.filter p) u5 wr := HT.out ▸ hacc
      clear HS
      go_wp2
      go_ret
      exact ⟨_, rfl, hacc', hbl⟩

/-! ### the four questions -/
theorem add1_any (v : Value) (W : World) : Calls Try.prog 233 #[v] W fun e W' => e = .returned (.bool true) ∧ Below W.heap.size W W' := by
  go_enter Try.func233, Try.ntmps233
  go_wp2
  go_ret
  exact ⟨rfl, Below.refl _ _⟩
theorem drop1_any (T3 : Nat) (W : World) (a : Option Addr) (cap : Nat) (f : List Cel) (a' : Option Addr) (cap' : Nat) (t : List Cel) (hr : Row W a cap f) (ht : Row W a' cap' t) (h3 : W.cell? ⟨T3, 0, none⟩ = some (.slice a' t.length cap')) :
    Calls Try.prog 235 #[.slice a f.length cap, .pointer (some ⟨T3, 0, none⟩)] W fun e W' => e = .returned (.bool (!decide (f = t))) ∧ Below W.heap.size W W' := by
  obtain ⟨d, hd⟩ : ∃ d, decide (f = t) = d := ⟨_, rfl⟩
  have HD := mkHid hd
  rw [hd]
  clear hd
  cases d with
  | false =>
    go_enter Try.func235, Try.ntmps235
    go_wp2_with fail
    refine (sameF_is hr ht HD).mono ?_; rintro e w1 ⟨rfl, hb1⟩
    go_wp2_with fail
    go_ret
    exact ⟨rfl, hb1⟩
  | true =>
    go_enter Try.func235, Try.ntmps235
    go_wp2_with fail
    refine (sameF_is hr ht HD).mono ?_; rintro e w1 ⟨rfl, hb1⟩
    go_wp2_with fail
    go_ret
    exact ⟨rfl, hb1⟩
theorem without1_any (T3 : Nat) (W : World) (a : Option Addr) (cap : Nat) (f : List Cel) (a' : Option Addr) (cap' : Nat) (m : List (List Cel)) (hr : Row W a cap f) (ht : Row W a' cap' m) (hF : FR m) (h3 : W.cell? ⟨T3, 0, none⟩ = some (.slice a' m.length cap')) :
    Calls Try.prog 205 #[.slice a f.length cap, .pointer (some ⟨T3, 0, none⟩)] W fun e W' => e = .returned (.bool (!decide (f ∈ m))) ∧ Below W.heap.size W W' := by
  have HC := mkHid (hasF_any a' cap' m a cap f W ht hr hF)
  clear hF
  obtain ⟨d, hd⟩ : ∃ d, decide (f ∈ m) = d := ⟨_, rfl⟩
  have HD := mkHid hd
  rw [hd]
  clear hd
  cases d with
  | false =>
    go_enter Try.func205, Try.ntmps205
    go_wp2_with fail
    refine HC.out.mono ?_; rintro e w1 ⟨rfl, hb1⟩; rw [HD.out]
    go_wp2_with fail
    go_ret
    exact ⟨rfl, hb1⟩
  | true =>
    go_enter Try.func205, Try.ntmps205
    go_wp2_with fail
    refine HC.out.mono ?_; rintro e w1 ⟨rfl, hb1⟩; rw [HD.out]
    go_wp2_with fail
    go_ret
    exact ⟨rfl, hb1⟩
end Go.Proofs.Ytnpffificfghpaa
