import Derived.Test.YtlddglajdcednaaZr4
import Derived.Laws.Rows
import Derived.Test.YtlddglajdcednaaRows
import Derived.OrdersHeld
import Derived.OrdersIn
import Derived.OwnWalkIn
import Derived.RangeFuncCalls
import Derived.Deep.RegionHeld

namespace Go.Proofs.Ytlddglajdcednaa
open Go.RowKit
attribute [local go_sem] Oper.semAt_some

theorem find_row (w : World) {C u s m : Nat} {l : List Cel} {E U : List Int} {r : List Nat} {d : Nat → Nat} (hC : Cls (veil [u, s] w) C u s m l E) (hU : RowU w u U) (hR : Roots l.length U (fun k => r.getD k 0) d) (hl : l.length ≤ 1000000) (x : Nat) (hx : x < l.length) (X : Nat) (hX : X = r.getD x 0) :
    Calls Try.prog 65 #[.pointer (some ⟨C, 0, none⟩), .int .i64 x] w fun e w' => e = .returned (.int .i64 X) ∧ ∃ U', RowU w' u U' ∧ Roots l.length U' (fun k => r.getD k 0) d ∧ Fr [u] w w' ∧ w'.heap.size = w.heap.size := by
  subst hX
  exact find_any w hC hU hR hl x hx

set_option maxRecDepth 100000 in
set_option maxHeartbeats 16000000 in
theorem join_any (w : World) {C u s m : Nat} {l : List Cel} {U : List Int} {r : List Nat} {d : Nat → Nat} {x y : Nat} (hC : Cls (veil [u, s] w) C u s m l (endsL l)) (hU : RowU w u U) (hR : Roots l.length U (fun k => r.getD k 0) d) (hJ : JoinOk l r [(x, y)]) (hG : Good l) (hl : l.length ≤ 1000) (hsl : s < w.heap.size) :
    Calls Try.prog 36 #[.pointer (some ⟨C, 0, none⟩), .int .i64 x, .int .i64 y] w (JoinPost w u l (joinL l (7 * l.length + 1) r [(x, y)])) := by
  have HU := mkHid hU
  have HR := mkHid hR
  have HJ := mkHid hJ
  have HG := mkHid hG
  have HC := mkHid hC
  have hul := hU.lt
  clear hU hR hJ hG hC
  refine (callsIn_wide (n := 9)).1 ?_
  refine callsIn_of_wp_marks Try.func36 rfl trivial ?_ rfl
  simp only [Try.ntmps36, List.size_toArray, List.length_cons, List.length_nil, Nat.reduceAdd, Nat.reduceSub, Array.replicate_succ, Array.replicate_zero, List.push_toArray, List.append_toArray, List.nil_append, List.cons_append]
  refine wpIn_wide.2 ?_
  go_wp2
  refine wp_scope_straight ?_
  go_wp2
  refine wp_label ?_
  go_wp2
  refine wp_loop_ghost_k (fun k a W => ∃ (r2 : List Nat) (t : List (Nat × Nat)) (U2 : List Int) (d2 : Nat → Nat) (g cap : Nat) (Ds : List Nat) (u1 u2 u3 u4 u5 u9 u10 u11 u12 u13 u14 u15 u16 u17 u18 u19 u20 u21 u22 u23 u24 u25 u26 u27 u28 u29 u30 u31 u32 u33 u34 u35 u36 u37 u38 u39 u40 u41 u42 u43 u44 u45 u46 u47 u48 u49 u50 u51 u52 u53 u54 u55 u56 u57 u58 u59 u60 u61 u62 u63 u64 u65 u66 u67 u68 u69 u70 u71 u72 u73 u74 u75 u76 u77 u78 u79 u80 u81 u82 u83 u84 u85 u86 u87 u88 u89 u90 u91 u92 u93 u94 u95 u96 u97 u98 u99 u100 u101 u102 u103 u104 u105 u106 u107 u108 u109 u110 u111 u112 u113 u114 u115 u116 u117 u118 u119 u120 u121 u122 u123 u124 u125 u126 : Value), JW w u l r [(x, y)] k r2 t U2 d2 g cap Ds W ∧ a = { tmps := #[.pointer (some ⟨C, 0, none⟩), u1, u2, u3, u4, u5, .bool false, .pointer (some ⟨w.heap.size + 1, 0, none⟩), .bool false, u9, u10, u11, u12, u13, u14, u15, u16, u17, u18, u19, u20, u21, u22, u23, u24, u25, u26, u27, u28, u29, u30, u31, u32, u33, u34, u35, u36, u37, u38, u39, u40, u41, u42, u43, u44, u45, u46, u47, u48, u49, u50, u51, u52, u53, u54, u55, u56, u57, u58, u59, u60, u61, u62, u63, u64, u65, u66, u67, u68, u69, u70, u71, u72, u73, u74, u75, u76, u77, u78, u79, u80, u81, u82, u83, u84, u85, u86, u87, u88, u89, u90, u91, u92, u93, u94, u95, u96, u97, u98, u99, u100, u101, u102, u103, u104, u105, u106, u107, u108, u109, u110, u111, u112, u113, u114, u115, u116, u117, u118, u119, u120, u121, u122, u123, u124, u125, u126], defers := marksOf Ds }) (7 * tops r + 1) ?start ?round
  case start =>
    have hT := Todo.first (B := w.heap.size) w (Nat.le_refl _) (x, y)
    refine ⟨r, [(x, y)], U, d, w.heap.size, 1, [], ?_⟩
    (repeat apply Exists.intro)
    refine ⟨⟨HJ.out, rfl, ?_, ?_, ⟨?_, HR.out, ?_, ?_, by omega, ?_, List.nodup_nil, by simp⟩⟩, rfl⟩
    · have := tops_le r; have := HJ.out.len; omega
    · exact join_fuel HG.out _ _ r _ HJ.out (by have := tops_le r; have := HJ.out.len; simp; omega) (by simp)
    · exact (HU.out.alloc _).alloc _
    · have h1 := Boxed.new (w.alloc (.cells #[.int .i64 x, .int .i64 y] 81)) 82 (.slice (some ⟨w.heap.size, 0, none⟩) 1 1)
      rw [World.size_alloc] at h1
      exact h1
    · exact hT.block (heap_alloc_old _ _ (by simp))
    · exact ((Fr.refl _ _).alloc _).alloc _
  case round =>
    rintro gk _ wr ⟨r2, t, U2, d2, g, cap, Ds, hinv⟩
    obtain ⟨u1, hinv⟩ := hinv
    obtain ⟨u2, hinv⟩ := hinv
    obtain ⟨u3, hinv⟩ := hinv
    obtain ⟨u4, hinv⟩ := hinv
    obtain ⟨u5, hinv⟩ := hinv
    obtain ⟨u9, hinv⟩ := hinv
    obtain ⟨u10, hinv⟩ := hinv
    obtain ⟨u11, hinv⟩ := hinv
    obtain ⟨u12, hinv⟩ := hinv
    obtain ⟨u13, hinv⟩ := hinv
    obtain ⟨u14, hinv⟩ := hinv
    obtain ⟨u15, hinv⟩ := hinv
    obtain ⟨u16, hinv⟩ := hinv
    obtain ⟨u17, hinv⟩ := hinv
    obtain ⟨u18, hinv⟩ := hinv
    obtain ⟨u19, hinv⟩ := hinv
    obtain ⟨u20, hinv⟩ := hinv
    obtain ⟨u21, hinv⟩ := hinv
    obtain ⟨u22, hinv⟩ := hinv
    obtain ⟨u23, hinv⟩ := hinv
    obtain ⟨u24, hinv⟩ := hinv
    obtain ⟨u25, hinv⟩ := hinv
    obtain ⟨u26, hinv⟩ := hinv
    obtain ⟨u27, hinv⟩ := hinv
    obtain ⟨u28, hinv⟩ := hinv
    obtain ⟨u29, hinv⟩ := hinv
    obtain ⟨u30, hinv⟩ := hinv
    obtain ⟨u31, hinv⟩ := hinv
    obtain ⟨u32, hinv⟩ := hinv
    obtain ⟨u33, hinv⟩ := hinv
    obtain ⟨u34, hinv⟩ := hinv
    obtain ⟨u35, hinv⟩ := hinv
    obtain ⟨u36, hinv⟩ := hinv
    obtain ⟨u37, hinv⟩ := hinv
    obtain ⟨u38, hinv⟩ := hinv
    obtain ⟨u39, hinv⟩ := hinv
    obtain ⟨u40, hinv⟩ := hinv
    obtain ⟨u41, hinv⟩ := hinv
    obtain ⟨u42, hinv⟩ := hinv
    obtain ⟨u43, hinv⟩ := hinv
    obtain ⟨u44, hinv⟩ := hinv
    obtain ⟨u45, hinv⟩ := hinv
    obtain ⟨u46, hinv⟩ := hinv
    obtain ⟨u47, hinv⟩ := hinv
    obtain ⟨u48, hinv⟩ := hinv
    obtain ⟨u49, hinv⟩ := hinv
    obtain ⟨u50, hinv⟩ := hinv
    obtain ⟨u51, hinv⟩ := hinv
    obtain ⟨u52, hinv⟩ := hinv
    obtain ⟨u53, hinv⟩ := hinv
    obtain ⟨u54, hinv⟩ := hinv
    obtain ⟨u55, hinv⟩ := hinv
    obtain ⟨u56, hinv⟩ := hinv
    obtain ⟨u57, hinv⟩ := hinv
    obtain ⟨u58, hinv⟩ := hinv
    obtain ⟨u59, hinv⟩ := hinv
    obtain ⟨u60, hinv⟩ := hinv
    obtain ⟨u61, hinv⟩ := hinv
    obtain ⟨u62, hinv⟩ := hinv
    obtain ⟨u63, hinv⟩ := hinv
    obtain ⟨u64, hinv⟩ := hinv
    obtain ⟨u65, hinv⟩ := hinv
    obtain ⟨u66, hinv⟩ := hinv
    obtain ⟨u67, hinv⟩ := hinv
    obtain ⟨u68, hinv⟩ := hinv
    obtain ⟨u69, hinv⟩ := hinv
    obtain ⟨u70, hinv⟩ := hinv
    obtain ⟨u71, hinv⟩ := hinv
    obtain ⟨u72, hinv⟩ := hinv
    obtain ⟨u73, hinv⟩ := hinv
    obtain ⟨u74, hinv⟩ := hinv
    obtain ⟨u75, hinv⟩ := hinv
    obtain ⟨u76, hinv⟩ := hinv
    obtain ⟨u77, hinv⟩ := hinv
    obtain ⟨u78, hinv⟩ := hinv
    obtain ⟨u79, hinv⟩ := hinv
    obtain ⟨u80, hinv⟩ := hinv
    obtain ⟨u81, hinv⟩ := hinv
    obtain ⟨u82, hinv⟩ := hinv
    obtain ⟨u83, hinv⟩ := hinv
    obtain ⟨u84, hinv⟩ := hinv
    obtain ⟨u85, hinv⟩ := hinv
    obtain ⟨u86, hinv⟩ := hinv
    obtain ⟨u87, hinv⟩ := hinv
    obtain ⟨u88, hinv⟩ := hinv
    obtain ⟨u89, hinv⟩ := hinv
    obtain ⟨u90, hinv⟩ := hinv
    obtain ⟨u91, hinv⟩ := hinv
    obtain ⟨u92, hinv⟩ := hinv
    obtain ⟨u93, hinv⟩ := hinv
    obtain ⟨u94, hinv⟩ := hinv
    obtain ⟨u95, hinv⟩ := hinv
    obtain ⟨u96, hinv⟩ := hinv
    obtain ⟨u97, hinv⟩ := hinv
    obtain ⟨u98, hinv⟩ := hinv
    obtain ⟨u99, hinv⟩ := hinv
    obtain ⟨u100, hinv⟩ := hinv
    obtain ⟨u101, hinv⟩ := hinv
    obtain ⟨u102, hinv⟩ := hinv
    obtain ⟨u103, hinv⟩ := hinv
    obtain ⟨u104, hinv⟩ := hinv
    obtain ⟨u105, hinv⟩ := hinv
    obtain ⟨u106, hinv⟩ := hinv
    obtain ⟨u107, hinv⟩ := hinv
    obtain ⟨u108, hinv⟩ := hinv
    obtain ⟨u109, hinv⟩ := hinv
    obtain ⟨u110, hinv⟩ := hinv
    obtain ⟨u111, hinv⟩ := hinv
    obtain ⟨u112, hinv⟩ := hinv
    obtain ⟨u113, hinv⟩ := hinv
    obtain ⟨u114, hinv⟩ := hinv
    obtain ⟨u115, hinv⟩ := hinv
    obtain ⟨u116, hinv⟩ := hinv
    obtain ⟨u117, hinv⟩ := hinv
    obtain ⟨u118, hinv⟩ := hinv
    obtain ⟨u119, hinv⟩ := hinv
    obtain ⟨u120, hinv⟩ := hinv
    obtain ⟨u121, hinv⟩ := hinv
    obtain ⟨u122, hinv⟩ := hinv
    obtain ⟨u123, hinv⟩ := hinv
    obtain ⟨u124, hinv⟩ := hinv
    obtain ⟨u125, hinv⟩ := hinv
    obtain ⟨u126, hinv⟩ := hinv
    obtain ⟨hjw, ha⟩ := hinv
    subst ha
    intro J K hJ hK
    have HW := mkHid hjw
    clear hjw
    have c7 := HW.out.m.box.cell
    have f7 := HW.out.m.box.frozen
    have hB7 := HW.out.m.box.lt
    have hgl := HW.out.m.todo.lt
    obtain ⟨hcap, hcap2⟩ := HW.out.m.todo.room
    cases t with
    | nil =>
      simp only [List.length_nil] at c7 hcap
      have HL : Hid (JoinPost w u l (joinL l (7 * l.length + 1) r [(x, y)]) (.returned (.bool true)) (shutAll Ds wr)) := by
        rw [Hid, HW.out.same]
        have e0 : joinL l gk r2 [] = some r2 := by cases gk <;> rfl
        rw [e0]
        have hk : KpN w.heap.size [] wr (shutAll Ds wr) := shutAll_kpn (fun D hD => .inl (HW.out.m.marks D hD).1)
        exact ⟨HW.out.m.shut, rfl, HW.out.ok, U2, d2, (hk.block u hul (by simp)).trans HW.out.m.up, HW.out.m.roots⟩
      go_wp2
      show LeavesInM _ _ _ _ _ _ (marksOf Ds) .returning wr
      refine leaves_marks Ds wr HW.out.m.nodup (fun D hD => (HW.out.m.marks D hD).2) ?_
      refine ⟨_, results_tmp (t := 6) rfl _ _ _, ?_⟩
      exact HL.out
    | cons pq t =>
      obtain ⟨p, q⟩ := pq
      simp only [List.length_cons] at c7 hcap
      obtain ⟨g0, g1⟩ := HW.out.m.todo.read
      dsimp only at g0 g1
      have htl : t.length ≤ 8000 := by have := HW.out.fuel; have := HW.out.le; simp only [List.length_cons] at *; omega
      have hpq := HW.out.ok.todo (p, q) List.mem_cons_self
      obtain ⟨hp, hq⟩ := hpq
      have hp0 : (0 : Int) ≤ (p : Int) := by omega
      have hq0 : (0 : Int) ≤ (q : Int) := by omega
      have HM0 := mkHid (HW.out.m.pop hul)
      have hsz1 : (wr.setCell ⟨w.heap.size + 1, 0, none⟩ (.slice (some ⟨g, 0, none⟩) t.length cap)).heap.size = wr.heap.size := by simp [World.setCell]
      have HS1 := mkHid hsz1
      clear hsz1
      go_wp2_with fail
      generalize wr.setCell ⟨w.heap.size + 1, 0, none⟩ (.slice (some ⟨g, 0, none⟩) t.length cap) = W0 at HM0 HS1 ⊢
      rw [← HS1.out]
      have hul1 : u < W0.heap.size := HM0.out.up.lt
      have HM1 := mkHid (HM0.out.alloc hul (.cells #[.int .i64 p, .int .i64 q] 81))
      have a0 : (W0.alloc (.cells #[.int .i64 p, .int .i64 q] 81)).cell? ⟨W0.heap.size, 0, none⟩ = some (.int .i64 p) := World.cell?_alloc_at _ _ _ 0 rfl
      have a1 : (W0.alloc (.cells #[.int .i64 p, .int .i64 q] 81)).cell? ⟨W0.heap.size, 1, none⟩ = some (.int .i64 q) := World.cell?_alloc_at _ _ _ 1 rfl
      have hsz2 : (W0.alloc (.cells #[.int .i64 p, .int .i64 q] 81)).heap.size = W0.heap.size + 1 := by simp
      have HS2 := mkHid hsz2
      clear hsz2
      generalize (W0.alloc (.cells #[.int .i64 p, .int .i64 q] 81)) = W1 at HM1 a0 a1 HS2 ⊢
      obtain ⟨X, hX⟩ : ∃ X, X = r2.getD p 0 := ⟨_, rfl⟩
      obtain ⟨Y, hY⟩ : ∃ Y, Y = r2.getD q 0 := ⟨_, rfl⟩
      have HX := mkHid hX
      have HY := mkHid hY
      clear hX hY
      have HC1 : Hid (∀ W, Fr [u] w W → Cls (veil [u, s] W) C u s m l (endsL l)) := fun W h => HC.out.keeps ((h.sub (by simp)).keeps)
      generalize hA : Act.mk _ _ = A0
      refine Code.wp_mono (Q := fun e A' W' => e = .normal ∧ ∃ U3, A' = (((((((((A0.put (some 32) (.pointer (some ⟨C, 0, none⟩))).put (some 33) (.pointer (some ⟨W0.heap.size, 0, none⟩))).put (some 34) (.int .i64 p)).put (some 35) (.int .i64 (X : Nat))).put (some 36) (.pointer (some ⟨C, 0, none⟩))).put (some 37) (.pointer (some ⟨W0.heap.size, 1, none⟩))).put (some 38) (.int .i64 q)).put (some 39) (.int .i64 (Y : Nat))).put (some 10) (.int .i64 (X : Nat))).put (some 11) (.int .i64 (Y : Nat)) ∧
        RowU W' u U3 ∧ Roots l.length U3 (fun k => r2.getD k 0) d2 ∧ Fr [u] W1 W' ∧ W'.heap.size = W1.heap.size) ?_ ?_
      · rintro e A' W2 ⟨rfl, U3, rfl, hU3, hR3, hF3, hs3⟩
        subst hA
        simp only [Act.put, List.setIfInBounds_toArray, List.set_cons_zero, List.set_cons_succ]
        have HM2 := mkHid (HM1.out.next hul hF3 hU3 hR3)
        clear hU3 hR3 hF3 hs3 a0 a1 HS2
        obtain ⟨hX, hXX⟩ := HW.out.ok.top p hp
        rw [← HX.out] at hX hXX
        obtain ⟨hY, hYY⟩ := HW.out.ok.top q hq
        rw [← HY.out] at hY hYY
        have HXX := mkHid hXX
        have HYY := mkHid hYY
        clear hXX hYY
        have hX0 : (0 : Int) ≤ (X : Int) := by omega
        have hY0 : (0 : Int) ≤ (Y : Int) := by omega
        have hX1 : (X : Int) < (l.length : Int) := by omega
        have hY1 : (Y : Int) < (l.length : Int) := by omega
        by_cases hXY : X = Y
        · have t1 : ((X : Int) == (Y : Int)) = true := by simp [hXY]
          have HS : Hid (joinStep l r2 p q = some (r2, [])) := by
            rw [Hid]; unfold joinStep; simp only [← HX.out, ← HY.out, List.getElem?_eq_getElem hX, List.getElem?_eq_getElem hY, if_pos hXY]
          have HXY := mkHid hXY
          clear hXY
          go_wp2
          obtain ⟨k', hk', hJW⟩ := JW.next HG.out HW.out HS.out rfl HM2.out
          refine Handed.intro k' hk' (hJ _ _ _ ⟨r2, t, U3, d2, g, cap, Ds, ?_⟩)
          (repeat apply Exists.intro)
          exact ⟨hJW, rfl⟩
        · have t1 : ((X : Int) == (Y : Int)) = false := by simp; omega
          have HXY := mkHid hXY
          have hC2 := HC1.out W2 HM2.out.fr
          obtain ⟨ac, capc, q0, qr⟩ := hC2.cells
          have c0 := (veil_cell q0).2
          have hrow := Row.keeps qr (veil_keeps [u, s] W2)
          obtain ⟨b, off, rfl, hb, hat⟩ := hrow.cases.resolve_left (fun e => by simp [e] at hX)
          obtain ⟨f0, f1, f2, hf⟩ := cel_at hat (Below.refl _ _) hX
          obtain ⟨e0, e1, e2, _⟩ := cel_at hat (Below.refl _ _) hY
          have HKS : Hid (∀ w', Below W2.heap.size W2 w' → w'.cell? ⟨C, 0, none⟩ = some (.slice (some ⟨b, off, none⟩) l.length capc) ∧ w'.cell? ⟨b, off + X * 3, none⟩ = some (.int .i64 l[X].k) ∧ w'.cell? ⟨b, off + X * 3 + 1, none⟩ = some (.string l[X].s) ∧ w'.cell? ⟨b, off + X * 3 + 2, none⟩ = some (.int .i64 l[X].n) ∧ w'.cell? ⟨b, off + Y * 3, none⟩ = some (.int .i64 l[Y].k) ∧ w'.cell? ⟨b, off + Y * 3 + 1, none⟩ = some (.string l[Y].s) ∧ w'.cell? ⟨b, off + Y * 3 + 2, none⟩ = some (.int .i64 l[Y].n)) := fun w' h => ⟨keep c0 h, keep f0 h, keep f1 h, keep f2 h, keep e0 h, keep e1 h, keep e2 h⟩
          have HJS : Hid (joinStep l r2 p q = if yieldsB l[X] l[Y] then some (uniR r2 X Y, []) else if yieldsB l[Y] l[X] then some (uniR r2 Y X, []) else if l[X] = l[Y] then some (uniR r2 X Y, ((argsL l X).zip (argsL l Y)).reverse) else none) := by
            rw [Hid]; unfold joinStep; simp only [← HX.out, ← HY.out, List.getElem?_eq_getElem hX, List.getElem?_eq_getElem hY, if_neg hXY]
          clear hC2 q0 qr hrow hat c0 f0 f1 f2 e0 e1 e2 hXY
          generalize hyb : yieldsB l[X] l[Y] = yb at HJS
          have HYB := mkHid hyb
          clear hyb
          go_wp2
          go_region_held3 (fun w' => w'.cell? ⟨C, 0, none⟩ = some (.slice (some ⟨b, off, none⟩) l.length capc) ∧ w'.cell? ⟨b, off + X * 3, none⟩ = some (.int .i64 l[X].k) ∧ w'.cell? ⟨b, off + X * 3 + 1, none⟩ = some (.string l[X].s) ∧ w'.cell? ⟨b, off + X * 3 + 2, none⟩ = some (.int .i64 l[X].n) ∧ w'.cell? ⟨b, off + Y * 3, none⟩ = some (.int .i64 l[Y].k) ∧ w'.cell? ⟨b, off + Y * 3 + 1, none⟩ = some (.string l[Y].s) ∧ w'.cell? ⟨b, off + Y * 3 + 2, none⟩ = some (.int .i64 l[Y].n)) (first | exact HKS.out _ ((Below.refl _ _).drew) | exact HKS.out _ ((Below.refl _ _).drew.trans hb3))
            ((go_at_call 66; with_reducible refine (yields_any _ l[X] l[Y]).mono ?_; rintro e w3 ⟨rfl, hb3⟩; rw [HYB.out]))
          have HB3 : Hid (Below W2.heap.size W2 w3) := (Below.refl _ _).drew.trans hb3
          have HM3 := mkHid (HM2.out.below hul HB3.out)
          clear hb3
          cases yb with
          | true =>
            have HS : Hid (joinStep l r2 p q = some (uniR r2 X Y, [])) := by rw [Hid, HJS.out, if_pos rfl]
            have hC3 := HC1.out w3 HM3.out.fr
            obtain ⟨cap3, hcap31, hcap32, k3⟩ := hC3.up_at
            have hXU : X < U3.length := by rw [HM3.out.roots.len]; exact hX
            have o3 := HM3.out.up.read hXU
            have z3 := HM3.out.up.free X
            have HUN := mkHid (HM3.out.uni hul (⟨HW.out.ok.len, HW.out.ok.top, fun z hz => HW.out.ok.todo z (List.mem_cons_of_mem _ hz)⟩ : JoinOk l r2 t) hX hY HXX.out HYY.out HXY.out)
            clear hC3
            go_wp2
            obtain ⟨d3, hM4⟩ := HUN.out
            obtain ⟨k', hk', hJW⟩ := JW.next HG.out HW.out HS.out rfl hM4
            refine Handed.intro k' hk' (hJ _ _ _ ⟨uniR r2 X Y, t, U3.set X (Y : Int), d3, g, cap, Ds, ?_⟩)
            (repeat apply Exists.intro)
            exact ⟨hJW, rfl⟩
          | false =>
            generalize hyb : yieldsB l[Y] l[X] = yb at HJS
            have HYB2 := mkHid hyb
            clear hyb
            go_wp2
            go_region_held3 (fun w' => w'.cell? ⟨C, 0, none⟩ = some (.slice (some ⟨b, off, none⟩) l.length capc) ∧ w'.cell? ⟨b, off + X * 3, none⟩ = some (.int .i64 l[X].k) ∧ w'.cell? ⟨b, off + X * 3 + 1, none⟩ = some (.string l[X].s) ∧ w'.cell? ⟨b, off + X * 3 + 2, none⟩ = some (.int .i64 l[X].n) ∧ w'.cell? ⟨b, off + Y * 3, none⟩ = some (.int .i64 l[Y].k) ∧ w'.cell? ⟨b, off + Y * 3 + 1, none⟩ = some (.string l[Y].s) ∧ w'.cell? ⟨b, off + Y * 3 + 2, none⟩ = some (.int .i64 l[Y].n)) (first | exact HKS.out _ HB3.out.drew | exact HKS.out _ (HB3.out.drew.then hb4))
              ((go_at_call 66; with_reducible refine (yields_any _ l[Y] l[X]).mono ?_; rintro e w4 ⟨rfl, hb4⟩; rw [HYB2.out]))
            have HB4 : Hid (Below W2.heap.size W2 w4) := HB3.out.drew.then hb4
            have HM4 := mkHid (HM2.out.below hul HB4.out)
            clear hb4
            cases yb with
            | true =>
              have HS : Hid (joinStep l r2 p q = some (uniR r2 Y X, [])) := by rw [Hid, HJS.out, if_neg (by simp), if_pos rfl]
              have hC3 := HC1.out w4 HM4.out.fr
              obtain ⟨cap3, hcap31, hcap32, k3⟩ := hC3.up_at
              have hYU : Y < U3.length := by rw [HM4.out.roots.len]; exact hY
              have o3 := HM4.out.up.read hYU
              have z3 := HM4.out.up.free Y
              have HUN := mkHid (HM4.out.uni hul (⟨HW.out.ok.len, HW.out.ok.top, fun z hz => HW.out.ok.todo z (List.mem_cons_of_mem _ hz)⟩ : JoinOk l r2 t) hY hX HYY.out HXX.out (Ne.symm HXY.out))
              clear hC3
              go_wp2
              obtain ⟨d3, hM5⟩ := HUN.out
              obtain ⟨k', hk', hJW⟩ := JW.next HG.out HW.out HS.out rfl hM5
              refine Handed.intro k' hk' (hJ _ _ _ ⟨uniR r2 Y X, t, U3.set Y (X : Int), d3, g, cap, Ds, ?_⟩)
              (repeat apply Exists.intro)
              exact ⟨hJW, rfl⟩
            | false =>
              by_cases hcd : l[X] = l[Y]
              · have hdc : decide (l[X] = l[Y]) = true := decide_eq_true hcd
                have hne := fun w => run_neq_cel l[X] l[Y] w
                rw [hdc] at hne
                have HS : Hid (joinStep l r2 p q = some (uniR r2 X Y, ((argsL l X).zip (argsL l Y)).reverse)) := by rw [Hid, HJS.out, if_neg (by simp), if_neg (by simp), if_pos hcd]
                have HCD := mkHid hcd
                clear hdc
                go_wp2
                go_region_held3 (fun w' => w'.cell? ⟨C, 0, none⟩ = some (.slice (some ⟨b, off, none⟩) l.length capc) ∧ w'.cell? ⟨b, off + X * 3, none⟩ = some (.int .i64 l[X].k) ∧ w'.cell? ⟨b, off + X * 3 + 1, none⟩ = some (.string l[X].s) ∧ w'.cell? ⟨b, off + X * 3 + 2, none⟩ = some (.int .i64 l[X].n) ∧ w'.cell? ⟨b, off + Y * 3, none⟩ = some (.int .i64 l[Y].k) ∧ w'.cell? ⟨b, off + Y * 3 + 1, none⟩ = some (.string l[Y].s) ∧ w'.cell? ⟨b, off + Y * 3 + 2, none⟩ = some (.int .i64 l[Y].n)) (exact HKS.out _ HB4.out.drew) (fail)
                clear hne
                have HM4d : Hid (JM w u l r2 t U3 d2 g cap Ds w4.drew) := HM4.out.below hul ((Below.refl _ _).drew)
                have hC3 := HC1.out w4.drew HM4d.out.fr
                obtain ⟨cap3, hcap31, hcap32, k3⟩ := hC3.up_at
                have hXU : X < U3.length := by rw [HM4.out.roots.len]; exact hX
                have o3 := HM4d.out.up.read hXU
                have z3 := HM4d.out.up.free X
                obtain ⟨d3, hM5⟩ := HM4.out.uni hul (⟨HW.out.ok.len, HW.out.ok.top, fun z hz => HW.out.ok.todo z (List.mem_cons_of_mem _ hz)⟩ : JoinOk l r2 t) hX hY HXX.out HYY.out HXY.out
                have HM5 := mkHid hM5
                have hs5 : (w4.setCell ⟨u, X, none⟩ (.int .i64 Y)).heap.size = w4.heap.size := by simp [World.setCell]
                have HS5 := mkHid hs5
                clear hC3 hM5 hs5
                go_wp2
                have hMR := (((HM5.out.alloc hul (.cells #[.pointer (some ⟨C, 0, none⟩)] 55)).alloc hul (.cells #[.int .i64 X] 3)).alloc hul (.cells #[.int .i64 Y] 3)).below hul ((Below.refl _ _).drew)
                have bC := ((Boxed.new (w4.setCell ⟨u, X, none⟩ (.int .i64 Y)) 55 (.pointer (some ⟨C, 0, none⟩))).alloc (.cells #[.int .i64 X] 3)).alloc (.cells #[.int .i64 Y] 3)
                have bX := (Boxed.new ((w4.setCell ⟨u, X, none⟩ (.int .i64 Y)).alloc (.cells #[.pointer (some ⟨C, 0, none⟩)] 55)) 3 (.int .i64 (X : Int))).alloc (.cells #[.int .i64 Y] 3)
                have bY := Boxed.new (((w4.setCell ⟨u, X, none⟩ (.int .i64 Y)).alloc (.cells #[.pointer (some ⟨C, 0, none⟩)] 55)).alloc (.cells #[.int .i64 X] 3)) 3 (.int .i64 (Y : Int))
                simp only [World.size_alloc, HS5.out] at bC bX bY
                have cC := bC.cell
                have cX := bX.cell
                have cY := bY.cell
                have hsR : ((((w4.setCell ⟨u, X, none⟩ (.int .i64 Y)).alloc (.cells #[.pointer (some ⟨C, 0, none⟩)] 55)).alloc (.cells #[.int .i64 X] 3)).alloc (.cells #[.int .i64 Y] 3)).drew.heap.size = w4.heap.size + 3 := by
                  show ((((w4.setCell ⟨u, X, none⟩ (.int .i64 Y)).alloc (.cells #[.pointer (some ⟨C, 0, none⟩)] 55)).alloc (.cells #[.int .i64 X] 3)).alloc (.cells #[.int .i64 Y] 3)).heap.size = _
                  simp only [World.size_alloc, HS5.out]
                have cC' : ((((w4.setCell ⟨u, X, none⟩ (.int .i64 Y)).alloc (.cells #[.pointer (some ⟨C, 0, none⟩)] 55)).alloc (.cells #[.int .i64 X] 3)).alloc (.cells #[.int .i64 Y] 3)).drew.cell? ⟨w4.heap.size, 0, none⟩ = _ := cC
                have cX' : ((((w4.setCell ⟨u, X, none⟩ (.int .i64 Y)).alloc (.cells #[.pointer (some ⟨C, 0, none⟩)] 55)).alloc (.cells #[.int .i64 X] 3)).alloc (.cells #[.int .i64 Y] 3)).drew.cell? ⟨w4.heap.size + 1, 0, none⟩ = _ := cX
                have cY' : ((((w4.setCell ⟨u, X, none⟩ (.int .i64 Y)).alloc (.cells #[.pointer (some ⟨C, 0, none⟩)] 55)).alloc (.cells #[.int .i64 X] 3)).alloc (.cells #[.int .i64 Y] 3)).drew.cell? ⟨w4.heap.size + 1 + 1, 0, none⟩ = _ := cY
                clear bC bX bY cC cX cY
                generalize ((((w4.setCell ⟨u, X, none⟩ (.int .i64 Y)).alloc (.cells #[.pointer (some ⟨C, 0, none⟩)] 55)).alloc (.cells #[.int .i64 X] 3)).alloc (.cells #[.int .i64 Y] 3)).drew = WR at hMR hsR cC' cX' cY' ⊢
                have hbR := hMR.box.lt
                have hgR := hMR.todo.lt
                have hw4 : w.heap.size ≤ w4.heap.size := HM4.out.fr.size
                have hgw4 := HM4.out.todo.lt
                have hbw4 := HM4.out.box.lt
                have hgb := HM4.out.gb
                have hus : ∀ k ∈ [u, s, w.heap.size + 1, g, WR.heap.size + 1], k < WR.heap.size + 2 := by
                  intro k hk
                  simp only [List.mem_cons, List.not_mem_nil, or_false] at hk
                  omega
                have hCR : Cls (veil [u, s, w.heap.size + 1, g, WR.heap.size + 1] WR) C u s m l (endsL l) := HC.out.keeps (veil_more hMR.fr (by simp) (fun k hk => by
                  simp only [List.mem_cons, List.not_mem_nil, or_false] at hk ⊢
                  omega))
                have har : ar l[X] = ar l[Y] := by rw [HCD.out]
                refine (wpIn_wide (n := 9)).1 ?_
                refine range_own (F := Fence.wide) rfl (by omega) (gf := 83) (lb := #[.pointer (some ⟨w4.heap.size + 1 + 1, 0, none⟩), .pointer (some ⟨w4.heap.size, 0, none⟩), .pointer (some ⟨w4.heap.size + 1, 0, none⟩)]) rfl trivial (enters_of Try.func83 (by kernel_rfl) rfl)
                  (pairs1_own Fence.wide 8 trivial trivial trivial trivial rfl (by omega) (w4.heap.size + 1 + 1) w4.heap.size (w4.heap.size + 1) [u, s, w.heap.size + 1, g, WR.heap.size + 1] WR hCR HG.out hl X Y hX hY har WR (Fr.refl _ _) cY' cC' cX' hus (by simp; omega))
                  KpN.trans (fun A o o' _ => ⟨rfl, rfl, rfl, by simp, fun k hk hn => World.putObj_heap_other (by rintro rfl; simp at hn)⟩) (fun _ => rfl)
                  (I := JI w WR g t) (Ix := fun _ _ _ => False) ?hI ?hIx ?h0 ?a1 ?assign ?body ?done ?stop
                case hI => exact JI.own hbR hgR.2
                case hIx => intro _ _ _ _ _ h; exact h.elim
                case h0 => exact JI.start hMR
                case assign =>
                  intro l2 e W' K hK
                  gi_wp2
                  exact hK
                case body =>
                  rintro l2 pre e W hsz2 ⟨g', cap', hI⟩ ⟨W', ⟨hT1, hT2⟩, hTs⟩
                  have hbx := hI.box.cell
                  have hbz := hI.box.lt
                  have hT8 : WR.heap.size + 8 ≤ W.heap.size := by omega
                  have hB0 : w.heap.size ≤ W.heap.size := by omega
                  have hlen : ((ofPre pre).reverse ++ t).length ≤ 1000000 := by
                    have h1 : (ofPre pre).length = pre.length := by simp [ofPre]
                    have h2 := ar_le _ (good_cell HG.out hX).1
                    rw [List.length_append, List.length_reverse, h1]; omega
                  have HI := mkHid hI
                  have HT8 := mkHid hT8
                  clear hT1 hT2 hTs hI hT8
                  generalize htt : (ofPre pre).reverse ++ t = tt at hbx hlen
                  have HTT := mkHid htt
                  clear htt
                  gi_wp2_with (gi_at_builtin; refine wpListIn_push rfl _ _ rfl w.heap.size g' cap' tt (e.1.1, e.2.1) (by rw [← HTT.out]; exact HI.out.todo) rfl rfl hB0 hlen ?_; intro g2 cap2 w' hT3 hgr hw2; have hp4 := JIx.push (us := [u, s, w.heap.size + 1, g, WR.heap.size + 1]) hbR hgR.2 hgb HT8.out HI.out ⟨by simp, by simp⟩ (by rw [HTT.out]; exact hT3) hgr hw2; rw [HTT.out] at hp4; have pbc := hp4.1.cell; have pbf := hp4.1.frozen; have hp4 := mkHid hp4.2; clear hT3 hgr)
                  exact hp4.out
                case done =>
                  rintro D zs W hD ⟨hS1, hS2⟩ hIz hDd
                  obtain ⟨g2, cap2, hM6⟩ := JI.done hMR hul hbR hIz hD hDd hS1 hS2
                  go_wp2
                  obtain ⟨k', hk', hJW⟩ := JW.next HG.out HW.out HS.out rfl hM6
                  refine Handed.intro k' hk' (hJ _ _ _ ⟨uniR r2 X Y, ((argsL l X).zip (argsL l Y)).reverse ++ t, U3.set X (Y : Int), d3, g2, cap2, D :: Ds, ?_⟩)
                  (repeat apply Exists.intro)
                  exact ⟨hJW, rfl⟩
                case stop => intro _ _ _ _ _ _ h; exact h.elim
              · have hdc : decide (l[X] = l[Y]) = false := decide_eq_false hcd
                have hne := fun w => run_neq_cel l[X] l[Y] w
                rw [hdc] at hne
                have HS : Hid (joinStep l r2 p q = none) := by rw [Hid, HJS.out, if_neg (by simp), if_neg (by simp), if_neg hcd]
                clear hcd hdc
                have HM4d : Hid (JM w u l r2 t U3 d2 g cap Ds w4.drew) := HM4.out.below hul ((Below.refl _ _).drew)
                have HL : Hid (JoinPost w u l (joinL l (7 * l.length + 1) r [(x, y)]) (.returned (.bool false)) (shutAll Ds w4.drew)) := by
                  rw [Hid, HW.out.clash HS.out]
                  exact ⟨HM4d.out.shut, rfl⟩
                go_wp2
                go_region_held3 (fun w' => w'.cell? ⟨C, 0, none⟩ = some (.slice (some ⟨b, off, none⟩) l.length capc) ∧ w'.cell? ⟨b, off + X * 3, none⟩ = some (.int .i64 l[X].k) ∧ w'.cell? ⟨b, off + X * 3 + 1, none⟩ = some (.string l[X].s) ∧ w'.cell? ⟨b, off + X * 3 + 2, none⟩ = some (.int .i64 l[X].n) ∧ w'.cell? ⟨b, off + Y * 3, none⟩ = some (.int .i64 l[Y].k) ∧ w'.cell? ⟨b, off + Y * 3 + 1, none⟩ = some (.string l[Y].s) ∧ w'.cell? ⟨b, off + Y * 3 + 2, none⟩ = some (.int .i64 l[Y].n)) (exact HKS.out _ HB4.out.drew) (fail)
                clear hne
                go_wp2
                show LeavesInM _ _ _ _ _ _ (marksOf Ds) .returning w4.drew
                refine leaves_marks Ds _ HM4d.out.nodup (fun D hD => (HM4d.out.marks D hD).2) ?_
                refine ⟨_, results_tmp (t := 6) rfl _ _ _, ?_⟩
                exact HL.out
      · subst hA
        simp only [Act.put, List.setIfInBounds_toArray, List.set_cons_zero, List.set_cons_succ]
        have HKA : Hid (∀ W W' : World, Fr [u] W W' → W0.heap.size < W.heap.size → ∀ o v, W.cell? ⟨W0.heap.size, o, none⟩ = some v → W'.cell? ⟨W0.heap.size, o, none⟩ = some v) := fun W W' h h1 o v h2 => (World.cell?_of_block (a := ⟨W0.heap.size, o, none⟩) (h.block _ h1 (by simp; omega))).trans h2
        have HU2d : RowU W1.drew u U2 := HM1.out.up
        have HF2d : Fr [u] w W1.drew := HM1.out.fr.drew
        have b0 : W1.drew.cell? ⟨W0.heap.size, 0, none⟩ = some (.int .i64 p) := a0
        have b1 : W1.drew.cell? ⟨W0.heap.size, 1, none⟩ = some (.int .i64 q) := a1
        have hs1d : W0.heap.size < W1.drew.heap.size := by show _ < W1.heap.size; rw [HS2.out]; omega
        have HU2e := mkHid HU2d
        have HF2e := mkHid HF2d
        have HS1e := mkHid hs1d
        have HB0 := mkHid b0
        have HB1e := mkHid b1
        clear HU2d HF2d hs1d
        go_region_held3 (fun w' => w'.cell? ⟨W0.heap.size, 0, none⟩ = some (.int .i64 p) ∧ w'.cell? ⟨W0.heap.size, 1, none⟩ = some (.int .i64 q)) (first | exact ⟨b0, b1⟩ | exact ⟨e0, e1⟩ | exact ⟨i0, i1⟩)
          (first
            | (go_at_call 65; with_reducible refine (find_row _ (HC1.out _ (HF2e.out.trans hF3)) hU3 hR3 (by omega) q hq Y HY.out).mono ?_; rintro e w4 ⟨rfl, U4, hU4, hR4, hF4, hs4⟩; have i0 := HKA.out _ _ hF4 (by rw [hs3]; exact HS1e.out) _ _ e0; have i1 := HKA.out _ _ hF4 (by rw [hs3]; exact HS1e.out) _ _ e1)
            | (go_at_call 65; with_reducible refine (find_row W1.drew (HC1.out _ HF2e.out) HU2e.out HW.out.m.roots (by omega) p hp X HX.out).mono ?_; rintro e w3 ⟨rfl, U3, hU3, hR3, hF3, hs3⟩; have e0 := HKA.out _ _ hF3 HS1e.out _ _ HB0.out; have e1 := HKA.out _ _ hF3 HS1e.out _ _ HB1e.out))
        all_goals
          exact ⟨rfl, U4, rfl, hU4, hR4, ((Fr.refl [u] W1).drew.trans hF3).trans hF4, hs4.trans hs3⟩
end Go.Proofs.Ytlddglajdcednaa
namespace Go.Proofs.Ytlddglajdcednaa
open Go.RowKit

set_option maxHeartbeats 400000 in
theorem place2_any (a : Option Addr) (cap : Nat) (n : Int) (w : World) (xs : List Bnd) (hx : Row w a cap xs) :
    Calls Try.prog 58 #[.slice a xs.length cap, .int .i64 n] w fun e w' => e = .returned (.int .i64 (placeB xs n)) ∧ Below w.heap.size w w' := by
  have hm := hx.max
  have hm2 := hx.le
  go_enter Try.func58, Try.ntmps58
  go_wp2
  go_loopw [5] (fun i wr => ∃ k : Nat, k ≤ xs.length ∧ i = .int .i64 k ∧ Below w.heap.size w wr ∧ Hid ((xs.take k).all (fun b => !decide (b.v = n)) = true)) (fun i wr => xs.length - (intOf i).toNat)
  case atStart => exact ⟨0, Nat.zero_le _, rfl, Below.refl _ _, by simp [Hid]⟩
  case round =>
    obtain ⟨k, hk, rfl, hbl, HS⟩ := hrel
    by_cases hlt : k < xs.length
    · obtain ⟨b, off, rfl, hb, hat⟩ := hx.cases.resolve_left (fun e => by simp [e] at hlt)
      obtain ⟨a1, cap1, c0, c1, hr1, hv1, hv2⟩ := bnd_at hat hbl hlt
      by_cases he : xs[k].v = n
      · have HE : Hid ((k : Int) = (placeB xs n)) := (find_at HS.out hlt he).symm
        have ht : (xs[k].v == n) = true := by simp [he]
        clear he HS
        go_wp2
        go_ret
        exact ⟨ret_int HE.out, hbl⟩
      · have ht : (xs[k].v == n) = false := by simp [he]
        have HT := mkHid (scan_next HS.out hlt (by simp [he]))
        clear he HS
        go_wp2
        go_round
        case rel => exact ⟨k + 1, by omega, by go_num, hbl, HT⟩
        case measure => simp [intOf]; omega
    · have HE : Hid (-1 = (placeB xs n)) := (find_none HS.out (by omega)).symm
      clear HS
      go_wp2
      go_ret
      exact ⟨ret_int HE.out, hbl⟩

set_option maxHeartbeats 400000 in
theorem own2_any (a : Option Addr) (cap : Nat) (n : Int) (w : World) (xs : List Cel) (hx : Row w a cap xs) :
    Calls Try.prog 57 #[.int .i64 n, .slice a xs.length cap] w fun e w' => e = .returned (.bool (ownR n xs)) ∧ Below w.heap.size w w' := by
  have hm := hx.max
  have hm2 := hx.le
  match xs, hx with
  | [], hx =>
    go_enter Try.func57, Try.ntmps57
    go_wp2
    go_ret
    exact ⟨rfl, Below.refl _ _⟩
  | [c], hx =>
    obtain ⟨b, off, rfl, hb, hat⟩ := hx.cases.resolve_left (fun e => by cases e)
    obtain ⟨c0, c1, c2, hf⟩ := cel_at hat (Below.refl _ _) (k := 0) (by simp)
    simp only [List.getElem_cons_zero, Nat.zero_mul, Nat.add_zero] at c0 c1 c2
    go_enter Try.func57, Try.ntmps57
    go_wp2
    all_goals
      go_ret
      refine ⟨ret_bool ?_, Below.refl _ _⟩
      simp_all [ownR]
  | c :: d :: l, hx =>
    have hne : (((c :: d :: l).length : Int) == 1) = false := by simp; omega
    go_enter Try.func57, Try.ntmps57
    go_wp2
    go_ret
    exact ⟨rfl, Below.refl _ _⟩
end Go.Proofs.Ytlddglajdcednaa
namespace Go.Proofs.Ytlddglajdcednaa
open Go.RowKit

theorem fit_int {n : Int} {s : ByteArray} {k : Int} (h0 : -9223372036854775808 ≤ k) (h1 : k ≤ 9223372036854775807) (h2 : -9223372036854775808 ≤ n) (h3 : n ≤ 9223372036854775807) (hs : s.size ≤ 9223372036854775807) : (⟨k, s, n⟩ : Cel).fit := ⟨h0, h1, h2, h3, hs⟩
theorem varC_fit {n : Int} (h2 : -9223372036854775808 ≤ n) (h3 : n ≤ 9223372036854775807) : (varC n).fit := ⟨by show _ ≤ (1 : Int); omega, by show (1 : Int) ≤ _; omega, h2, h3, by show 0 ≤ _; omega⟩

end Go.Proofs.Ytlddglajdcednaa
namespace Go.Proofs.Ytlddglajdcednaa
open Go.RowKit

end Go.Proofs.Ytlddglajdcednaa
namespace Go.Proofs.Ytlddglajdcednaa
open Go.RowKit

theorem bnd_ne {xs ys : List Bnd} {k : Nat} (hx : k < xs.length) (hy : k < ys.length) (h : ¬ xs[k] = ys[k]) : ¬ xs = ys := fun e => by subst e; exact h rfl
theorem Bnd.eq_iff (x y : Bnd) : x = y ↔ x.v = y.v ∧ x.t = y.t := by cases x; cases y; simp

end Go.Proofs.Ytlddglajdcednaa
namespace Go.Proofs.Ytlddglajdcednaa
open Go.RowKit

set_option maxHeartbeats 1600000 in
theorem refright2_any (a : Option Addr) (cap : Nat) (w : World) (xs : List Bnd) (hx : Row w a cap xs) :
    Calls Try.prog 22 #[.slice a xs.length cap] w fun e w' => e = .returned (.bool (rightS xs)) ∧ Below w.heap.size w w' := by
  have hm := hx.max
  have hm2 := hx.le
  go_enter Try.func22, Try.ntmps22
  go_wp2
  go_loopw [3] (fun i wr => ∃ (k : Nat), k ≤ xs.length ∧ i = .int .i64 k ∧ 0 ≤ mOf xs k ∧ mOf xs k ≤ 1000 ∧ Below w.heap.size w wr ∧ Hid (rightS xs = rightG (mOf xs k) (xs.drop k))) (fun i wr => xs.length - (intOf i).toNat)
  case atStart => exact ⟨0, Nat.zero_le _, rfl, by simp [mOf], by simp [mOf], Below.refl _ _, rfl⟩
  case round =>
    obtain ⟨k, hk, rfl, hd0, hd1, hbl, HS⟩ := hrel
    by_cases hlt : k < xs.length
    · obtain ⟨b, off, rfl, hb, hat⟩ := hx.cases.resolve_left (fun e => by simp [e] at hlt)
      obtain ⟨a1, cap1, c0, c1, hr1, hv1, hv2⟩ := bnd_at hat hbl hlt
      have e0 : ∀ x : Later wr, x.w'.cell? ⟨b, off + k * 2, none⟩ = some (.int .i64 xs[k].v) := keepL c0
      have e1 : ∀ x : Later wr, x.w'.cell? ⟨b, off + k * 2 + 1, none⟩ = some (.slice a1 xs[k].t.length cap1) := keepL c1
      have hown : ∀ x : Later wr, Calls Try.prog 57 #[.int .i64 xs[k].v, .slice a1 xs[k].t.length cap1] x.w' fun e w'' => e = .returned (.bool (ownR xs[k].v xs[k].t)) ∧ Below x.w'.heap.size x.w' w'' := fun x =>
        own2_any a1 cap1 _ _ xs[k].t (hr1.below x.ok)
      have hright : ∀ x : Later wr, Calls Try.prog 32 #[.slice a1 xs[k].t.length cap1] x.w' fun e w'' => e = .returned (.bool (rightB xs[k].t)) ∧ Below x.w'.heap.size x.w' w'' := fun x =>
        refright_any a1 cap1 _ xs[k].t (hr1.below x.ok)
      by_cases h1 : xs[k].v < 0
      · have HE : Hid (false = rightS xs) := (right_l1 hlt HS.out (.inl (by omega))).symm
        have t1 : decide (xs[k].v < 0) = true := by simp [h1]
        clear HS
        go_wp2
        refine wp_region_calm (by kernel_rfl) (by kernel_rfl) ?_
        repeat (go_big_quiet_step (fail))
        refine wpQuiet_nil ?_
        rintro _ ⟨x, rfl⟩
        go_wp2
        go_ret
        exact ⟨ret_bool HE.out, hbl.then x.ok⟩
      · have t1 : decide (xs[k].v < 0) = false := by simp; omega
        by_cases h2 : 999 < xs[k].v
        · have HE : Hid (false = rightS xs) := (right_l1 hlt HS.out (.inr (.inl (by omega)))).symm
          have t2 : decide (999 < xs[k].v) = true := by simp [h2]
          clear HS
          go_wp2
          refine wp_region_calm (by kernel_rfl) (by kernel_rfl) ?_
          repeat (go_big_quiet_step (fail))
          refine wpQuiet_nil ?_
          rintro _ ⟨x, rfl⟩
          go_wp2
          go_ret
          exact ⟨ret_bool HE.out, hbl.then x.ok⟩
        · have t2 : decide (999 < xs[k].v) = false := by simp; omega
          cases k with
          | zero =>
            simp only [Nat.zero_mul, Nat.add_zero] at e0 e1
            cases h3 : rightB xs[0].t with
            | false =>
              have HE : Hid (false = rightS xs) := (right_l1 hlt HS.out (.inr (.inr (.inl h3)))).symm
              have H3 := mkHid h3
              clear HS h3
              go_wp2
              refine wp_region_calm (by kernel_rfl) (by kernel_rfl) ?_
              repeat (go_big_quiet_step (exact Calls.calm_of ((hright _).mono fun e w' ⟨he, hb⟩ => ⟨by rw [he, H3.out], hb⟩)))
              refine wpQuiet_nil ?_
              rintro _ ⟨x, rfl⟩
              go_wp2
              go_ret
              exact ⟨ret_bool HE.out, hbl.then x.ok⟩
            | true =>
              cases h4 : ownB xs[0] with
              | true =>
                have HE : Hid (false = rightS xs) := (right_l1 hlt HS.out (.inr (.inr (.inr h4)))).symm
                have H3 := mkHid h3
                have H4 := mkHid ((ownR_own h3).trans h4)
                clear HS h3 h4
                go_wp2
                refine wp_region_calm (by kernel_rfl) (by kernel_rfl) ?_
                repeat (go_big_quiet_step (first | exact Calls.calm_of ((hright _).mono fun e w' ⟨he, hb⟩ => ⟨by rw [he, H3.out], hb⟩) | exact Calls.calm_of ((hown _).mono fun e w' ⟨he, hb⟩ => ⟨by rw [he, H4.out], hb⟩)))
                refine wpQuiet_nil ?_
                rintro _ ⟨x, rfl⟩
                go_wp2
                go_ret
                exact ⟨ret_bool HE.out, hbl.then x.ok⟩
              | false =>
                have HT := mkHid (right_l2 hlt HS.out (by first | exact hord | (simp [mOf]; omega)) (by omega) h3 h4)
                have HM := mOf_succ hlt
                have H3 := mkHid h3
                have H4 := mkHid ((ownR_own h3).trans h4)
                have HMv : 0 ≤ mOf xs (0 + 1) ∧ mOf xs (0 + 1) ≤ 1000 := by rw [HM]; omega
                clear HS h3 h4 HM
                go_wp2
                refine wp_region_calm (by kernel_rfl) (by kernel_rfl) ?_
                repeat (go_big_quiet_step (first | exact Calls.calm_of ((hright _).mono fun e w' ⟨he, hb⟩ => ⟨by rw [he, H3.out], hb⟩) | exact Calls.calm_of ((hown _).mono fun e w' ⟨he, hb⟩ => ⟨by rw [he, H4.out], hb⟩)))
                refine wpQuiet_nil ?_
                rintro _ ⟨x, rfl⟩
                go_wp2
                go_round
                case rel => exact ⟨0 + 1, by omega, by go_num, HMv.1, HMv.2, hbl.then x.ok, HT⟩
                case measure => simp [intOf]; omega
          | succ j =>
            have hj : j < xs.length := by omega
            obtain ⟨a2, cap2, d0, d1, hr2, _, _⟩ := bnd_at hat hbl hj
            have f0 : ∀ x : Later wr, x.w'.cell? ⟨b, off + j * 2, none⟩ = some (.int .i64 xs[j].v) := keepL d0
            have hM := mOf_succ hj
            have hs1 : IntKind.i64.wrap ((j : Int) + 1 - 1) = j := by rw [IntWalk.i64_in _ (by omega)]; omega
            have hs2 : ((j : Int) + 1 - 1).toNat = j := by omega
            by_cases h5 : xs[j].v < xs[j + 1].v
            · have hord : mOf xs (j + 1) ≤ xs[j + 1].v := by rw [hM]; omega
              have t5 : decide (xs[j + 1].v ≤ xs[j].v) = false := by simp; omega
              clear hM
              cases h3 : rightB xs[j + 1].t with
              | false =>
                have HE : Hid (false = rightS xs) := (right_l1 hlt HS.out (.inr (.inr (.inl h3)))).symm
                have H3 := mkHid h3
                clear HS h3
                go_wp2
                refine wp_region_calm (by kernel_rfl) (by kernel_rfl) ?_
                repeat (go_big_quiet_step (exact Calls.calm_of ((hright _).mono fun e w' ⟨he, hb⟩ => ⟨by rw [he, H3.out], hb⟩)))
                refine wpQuiet_nil ?_
                rintro _ ⟨x, rfl⟩
                go_wp2
                go_ret
                exact ⟨ret_bool HE.out, hbl.then x.ok⟩
              | true =>
                cases h4 : ownB xs[j + 1] with
                | true =>
                  have HE : Hid (false = rightS xs) := (right_l1 hlt HS.out (.inr (.inr (.inr h4)))).symm
                  have H3 := mkHid h3
                  have H4 := mkHid ((ownR_own h3).trans h4)
                  clear HS h3 h4
                  go_wp2
                  refine wp_region_calm (by kernel_rfl) (by kernel_rfl) ?_
                  repeat (go_big_quiet_step (first | exact Calls.calm_of ((hright _).mono fun e w' ⟨he, hb⟩ => ⟨by rw [he, H3.out], hb⟩) | exact Calls.calm_of ((hown _).mono fun e w' ⟨he, hb⟩ => ⟨by rw [he, H4.out], hb⟩)))
                  refine wpQuiet_nil ?_
                  rintro _ ⟨x, rfl⟩
                  go_wp2
                  go_ret
                  exact ⟨ret_bool HE.out, hbl.then x.ok⟩
                | false =>
                  have HT := mkHid (right_l2 hlt HS.out (by first | exact hord | (simp [mOf]; omega)) (by omega) h3 h4)
                  have HM := mOf_succ hlt
                  have H3 := mkHid h3
                  have H4 := mkHid ((ownR_own h3).trans h4)
                  have HMv : 0 ≤ mOf xs (j + 1 + 1) ∧ mOf xs (j + 1 + 1) ≤ 1000 := by rw [HM]; omega
                  clear HS h3 h4 HM
                  go_wp2
                  refine wp_region_calm (by kernel_rfl) (by kernel_rfl) ?_
                  repeat (go_big_quiet_step (first | exact Calls.calm_of ((hright _).mono fun e w' ⟨he, hb⟩ => ⟨by rw [he, H3.out], hb⟩) | exact Calls.calm_of ((hown _).mono fun e w' ⟨he, hb⟩ => ⟨by rw [he, H4.out], hb⟩)))
                  refine wpQuiet_nil ?_
                  rintro _ ⟨x, rfl⟩
                  go_wp2
                  go_round
                  case rel => exact ⟨j + 1 + 1, by omega, by go_num, HMv.1, HMv.2, hbl.then x.ok, HT⟩
                  case measure => simp [intOf]; omega
            · have HE : Hid (false = rightS xs) := (right_l1 hlt HS.out (.inl (by rw [hM]; omega))).symm
              have t5 : decide (xs[j + 1].v ≤ xs[j].v) = true := by simp; omega
              clear HS hM
              go_wp2
              refine wp_region_calm (by kernel_rfl) (by kernel_rfl) ?_
              repeat (go_big_quiet_step (fail))
              refine wpQuiet_nil ?_
              rintro _ ⟨x, rfl⟩
              go_wp2
              go_ret
              exact ⟨ret_bool HE.out, hbl.then x.ok⟩
    · have HE : Hid (true = rightS xs) := (right_l3 (by omega) HS.out).symm
      clear HS
      go_wp2
      go_ret
      exact ⟨ret_bool HE.out, hbl⟩
end Go.Proofs.Ytlddglajdcednaa
namespace Go.Proofs.Ytlddglajdcednaa
open Go.RowKit

def mayB (s : List Bnd) (t : List Cel) : Bool := decide (t.length ≤ 300) && fewB s && rightS s && rightB t

/-- of one term: no variable of it is bound -/
def freeB (s : List Bnd) (t : List Cel) : Bool := t.all fun c => !(c.k == 1 && (look s c.n).isSome)
theorem idem_eq (s : List Bnd) : idemB s = s.all fun b => freeB s b.t := rfl
theorem place_nonneg {s : List Bnd} {n : Int} : (0 ≤ placeB s n) ↔ (look s n).isSome = true := by
  rcases place_look s n with ⟨h1, h2, _⟩ | ⟨i, h, h1, _, h2⟩
  · rw [h1, h2]; simp
  · rw [h1, h2]; simp

set_option maxHeartbeats 1600000 in
theorem refidem_any (a : Option Addr) (cap : Nat) (w : World) (xs : List Bnd) (hx : Row w a cap xs) :
    Calls Try.prog 23 #[.slice a xs.length cap] w fun e w' => e = .returned (.bool (idemB xs)) ∧ Below w.heap.size w w' := by
  have hm := hx.max
  have hm2 := hx.le
  go_enter Try.func23, Try.ntmps23
  go_wp2
  go_loopw [3, 4] (fun i j wr => ∃ k : Nat, k ≤ xs.length ∧ i = .int .i64 k ∧ Below w.heap.size w wr ∧ Hid ((xs.take k).all (fun b => freeB xs b.t) = true)) (fun i j wr => xs.length - (intOf i).toNat)
  case atStart => exact ⟨0, Nat.zero_le _, rfl, Below.refl _ _, by simp [Hid]⟩
  case round =>
    obtain ⟨k, hk, rfl, hbl, HS⟩ := hrel
    obtain ⟨wo, rfl⟩ : ∃ wo : World, wo = wr := ⟨_, rfl⟩
    by_cases hlt : k < xs.length
    · obtain ⟨b, off, rfl, hb, hat⟩ := hx.cases.resolve_left (fun e => by simp [e] at hlt)
      go_wp2
      go_loopw [4] (fun j wr => ∃ m : Nat, m ≤ xs[k].t.length ∧ j = .int .i64 m ∧ Below w.heap.size w wr ∧ Hid ((xs[k].t.take m).all (fun c => !(c.k == 1 && (look xs c.n).isSome)) = true)) (fun j wr => xs[k].t.length - (intOf j).toNat)
      case atStart => exact ⟨0, Nat.zero_le _, rfl, hbl, by simp [Hid]⟩
      case round =>
        obtain ⟨m, hm', rfl, hbr, HC⟩ := hrel
        obtain ⟨a1, cap1, c0, c1, hr1, _, _⟩ := bnd_at hat hbr hlt
        have hle1 := hr1.le
        have hmax1 := hr1.max
        by_cases hlm : m < xs[k].t.length
        · obtain ⟨b2, off2, rfl, hb2, hat2⟩ := hr1.cases.resolve_left (fun e => by rw [e] at hlm; simp at hlm)
          obtain ⟨d0, d1, d2, hf⟩ := cel_at hat2 (Below.refl _ _) hlm
          have hba := hbr.new (.cells #[.int .i64 xs[k].t[m].k, .string xs[k].t[m].s, .int .i64 xs[k].t[m].n] 42)
          by_cases h1 : xs[k].t[m].k = 1
          · have t1 : (xs[k].t[m].k == 1) = true := by simp [h1]
            by_cases hp : 0 ≤ placeB xs xs[k].t[m].n
            · have HP := mkHid hp
              have HE : Hid (false = idemB xs) := by
                rw [Hid, idem_eq]; symm
                refine scan_bad hlt ?_
                exact scan_bad hlm (by simp [t1, place_nonneg.1 hp])
              clear h1 HS HC
              go_wp2_with (go_at_call 58; refine (place2_any _ cap _ _ xs (hx.below hba)).mono ?_; rintro e w2 ⟨rfl, hb2⟩)
              go_ret
              exact ⟨ret_bool HE.out, hba.then hb2⟩
            · have HP := mkHid hp
              have hns : (look xs xs[k].t[m].n).isSome = false := by
                cases hh : (look xs xs[k].t[m].n).isSome with
                | false => rfl
                | true => exact absurd (place_nonneg.2 hh) hp
              have HT := mkHid (scan_next HC.out hlm (by show (!(xs[k].t[m].k == 1 && (look xs xs[k].t[m].n).isSome)) = true; rw [t1, hns]; rfl))
              clear h1 HC hns
              go_wp2_with (go_at_call 58; refine (place2_any _ cap _ _ xs (hx.below hba)).mono ?_; rintro e w2 ⟨rfl, hb2⟩)
              go_round
              case rel => exact ⟨m + 1, by omega, by go_num, hba.then hb2, HT⟩
              case measure => simp [intOf]; omega
          · have t1 : (xs[k].t[m].k == 1) = false := by simp [h1]
            have HT := mkHid (scan_next HC.out hlm (by rw [t1]; simp))
            clear h1 HC
            go_wp2
            go_round
            case rel => exact ⟨m + 1, by omega, by go_num, hba, HT⟩
            case measure => simp [intOf]; omega
        · have HT := mkHid (scan_next (p := fun b => freeB xs b.t) HS.out hlt (scan_end HC.out (by omega)))
          clear HS HC
          go_wp2
          go_round
          case rel => exact ⟨k + 1, by omega, by go_num, hbr, HT⟩
          case measure => simp [intOf]; omega
    · have HE : Hid (true = idemB xs) := by rw [Hid, idem_eq, scan_end HS.out (by omega)]
      clear HS
      go_wp2
      go_ret
      exact ⟨ret_bool HE.out, hbl⟩
end Go.Proofs.Ytlddglajdcednaa
namespace Go.Proofs.Ytlddglajdcednaa
open Go.RowKit

def putC (f : Int → Option (List Cel)) (c : Cel) : List Cel := if c.k = 1 then (f c.n).getD [c] else [c]
def putL (f : Int → Option (List Cel)) (t : List Cel) : List Cel := t.flatMap (putC f)
theorem putL_snoc (f : Int → Option (List Cel)) (t : List Cel) (k : Nat) (hk : k < t.length) : putL f (t.take (k + 1)) = putL f (t.take k) ++ putC f t[k] := by
  unfold putL; rw [List.take_succ_eq_append_getElem hk, List.flatMap_append]; simp
theorem putL_append (f : Int → Option (List Cel)) (t u : List Cel) : putL f (t ++ u) = putL f t ++ putL f u := by
  unfold putL; rw [List.flatMap_append]
theorem look_mem {s : List Bnd} {n : Int} {t : List Cel} (h : look s n = some t) : ∃ b ∈ s, b.v = n ∧ b.t = t := by
  unfold look at h
  cases hf : s.find? (fun b => decide (b.v = n)) with
  | none => rw [hf] at h; simp at h
  | some b =>
    rw [hf] at h
    simp at h
    exact ⟨b, List.mem_of_find?_eq_some hf, by simpa using List.find?_some hf, h⟩
theorem putC_le {s : List Bnd} (h : ∀ b ∈ s, b.t.length ≤ 1000) (c : Cel) : (putC (look s) c).length ≤ 1000 := by
  unfold putC
  split
  · cases hl : look s c.n with
    | none => simp
    | some t =>
      obtain ⟨b, hb, _, rfl⟩ := look_mem hl
      simpa using h b hb
  · simp
theorem putL_le {s : List Bnd} (h : ∀ b ∈ s, b.t.length ≤ 1000) (t : List Cel) : (putL (look s) t).length ≤ 1000 * t.length := by
  induction t with
  | nil => simp [putL]
  | cons c t ih =>
    have := putC_le h c
    unfold putL at ih ⊢
    simp only [List.flatMap_cons, List.length_append, List.length_cons]; omega

set_option maxHeartbeats 1600000 in
theorem refput_any (a : Option Addr) (cap : Nat) (a' : Option Addr) (cap' : Nat) (w : World) (xs : List Bnd) (ys : List Cel) (hx : Row w a cap xs) (hy : Row w a' cap' ys) (hT : ∀ b ∈ xs, b.t.length ≤ 1000) (hl : ys.length ≤ 10000) :
    Calls Try.prog 56 #[.slice a xs.length cap, .slice a' ys.length cap'] w fun e w' => ∃ a2 cap2, e = .returned (.slice a2 (putL (look xs) ys).length cap2) ∧ NewRow w.heap.size w' a2 cap2 (putL (look xs) ys) ∧ Below w.heap.size w w' := by
  have hm := hy.max
  have hm2 := hy.le
  have hm0 := World.ownsRow_made (base := w.heap.size) (e := 42) (size := 3) w #[] 0 (Nat.le_refl _) (by unfold maxLen; omega) rfl
  have hb0 := (Below.refl w.heap.size w).new (.cells #[] 42)
  have HT := mkHid hT
  clear hT
  go_enter Try.func56, Try.ntmps56
  go_wp2_with fail
  go_loopw [5, 6, 7] (fun v i at_ wr => ∃ k : Nat, k ≤ ys.length ∧ i = .int .i64 k ∧ wr.ownsRow w.heap.size 42 3 v (putL (look xs) (ys.take k)).length (flat (putL (look xs) (ys.take k))) ∧ (∀ c ∈ putL (look xs) (ys.take k), c.fit) ∧ Below w.heap.size w wr) (fun v i at_ wr => ys.length - (intOf i).toNat)
  case atStart => exact ⟨0, Nat.zero_le _, rfl, by simpa [putL, flat] using hm0, by simp [putL], hb0⟩
  case round =>
    obtain ⟨k, hk, rfl, hown, hfit, hbl⟩ := hrel
    have HF := mkHid hfit
    clear hfit
    by_cases hlt : k < ys.length
    · obtain ⟨b, off, rfl, hb, hat⟩ := hy.cases.resolve_left (fun e => by simp [e] at hlt)
      obtain ⟨c0, c1, c2, hf⟩ := cel_at hat hbl hlt
      have HS := mkHid (putL_snoc (look xs) ys k hlt)
      have hle := putL_le HT.out (ys.take k)
      have hlk : (ys.take k).length ≤ k := List.length_take_le _ _
      by_cases h1 : ys[k].k = 1
      · have t1 : (ys[k].k == 1) = true := by simp [h1]
        rcases place_look xs ys[k].n with ⟨hp, hlk2, _⟩ | ⟨i, hi, hp, _, hlk2⟩
        · have HP := mkHid hp
          have HC : Hid (putC (look xs) ys[k] = [ys[k]]) := by rw [Hid]; unfold putC; rw [if_pos h1, hlk2]; rfl
          clear h1 hp hlk2
          go_wp2_with (first
            | (go_at_call 58; refine (place2_any _ cap _ _ xs (hx.below hbl)).mono ?_; rintro e w2 ⟨rfl, hb2⟩; rw [HP.out]; have d0 := keep c0 hb2; have d1 := keep c1 hb2; have d2 := keep c2 hb2; have hown1 := own_below hown hb2; have hbl1 := hbl.then hb2; clear c0 c1 c2)
            | (at_builtin; refine wpList_app rfl _ _ 22 rfl w.heap.size 42 3 32 _ Try.underlying22 Try.infoCell rfl (by decide) (by decide) _ (putL (look xs) (ys.take k)).length _ rfl (hown1.alloc _) (some ⟨_, 0, none⟩) 1 1 [.int .i64 ys[k].k, .string ys[k].s, .int .i64 ys[k].n] rfl (src_new _ #[.int .i64 ys[k].k, .string ys[k].s, .int .i64 ys[k].n] _ 3 rfl (by simp [Value.oneCell'])) (by omega) (Nat.le_trans hbl1.size (by simp)) ?_; intro v' w3 hown3 _ hb3))
          go_round
          case rel => exact ⟨k + 1, by omega, by go_num, by rw [HS.out, HC.out, flat_append, List.length_append]; exact hown3, by rw [HS.out, HC.out]; intro c hc; rcases List.mem_append.1 hc with hc | hc; exact HF.out c hc; (simp at hc; subst hc; exact hf), (hbl1.new _).trans hb3⟩
          case measure => simp [intOf]; omega
        · have HP := mkHid hp
          have HC : Hid (putC (look xs) ys[k] = xs[i].t) := by rw [Hid]; unfold putC; rw [if_pos h1, hlk2]; rfl
          obtain ⟨b', off', rfl, hb', hat'⟩ := hx.cases.resolve_left (fun e => by simp [e] at hi)
          have hTi := HT.out xs[i] (List.getElem_mem hi)
          clear h1 hp hlk2
          go_wp2_with (first
            | (go_at_call 58; refine (place2_any _ cap _ _ xs (hx.below hbl)).mono ?_; rintro e w2 ⟨rfl, hb2⟩; rw [HP.out]; obtain ⟨a1, cap1, d0, d1, hr1, _, _⟩ := bnd_at hat' (hbl.then hb2) hi; have hown1 := own_below hown hb2; have hbl1 := hbl.then hb2; clear c0 c1 c2)
            | (at_builtin; refine wpList_app rfl _ _ 22 rfl w.heap.size 42 3 32 _ Try.underlying22 Try.infoCell rfl (by decide) (by decide) _ (putL (look xs) (ys.take k)).length _ rfl hown1 a1 xs[i].t.length cap1 (flat xs[i].t) rfl hr1.src (by omega) hbl1.size ?_; intro v' w3 hown3 _ hb3))
          go_round
          case rel => exact ⟨k + 1, by omega, by go_num, by rw [HS.out, HC.out, flat_append, List.length_append]; exact hown3, by rw [HS.out, HC.out]; intro c hc; rcases List.mem_append.1 hc with hc | hc; exact HF.out c hc; exact hr1.fit c hc, hbl1.trans hb3⟩
          case measure => simp [intOf]; omega
      · have t1 : (ys[k].k == 1) = false := by simp [h1]
        have HC : Hid (putC (look xs) ys[k] = [ys[k]]) := by rw [Hid]; unfold putC; rw [if_neg h1]
        clear h1
        go_wp2_with (at_builtin; refine wpList_app rfl _ _ 22 rfl w.heap.size 42 3 32 _ Try.underlying22 Try.infoCell rfl (by decide) (by decide) _ (putL (look xs) (ys.take k)).length _ rfl (hown.alloc _) (some ⟨_, 0, none⟩) 1 1 [.int .i64 ys[k].k, .string ys[k].s, .int .i64 ys[k].n] rfl (src_new _ #[.int .i64 ys[k].k, .string ys[k].s, .int .i64 ys[k].n] _ 3 rfl (by simp [Value.oneCell'])) (by omega) (Nat.le_trans hbl.size (by simp)) ?_; intro v' w3 hown3 _ hb3)
        go_round
        case rel => exact ⟨k + 1, by omega, by go_num, by rw [HS.out, HC.out, flat_append, List.length_append]; exact hown3, by rw [HS.out, HC.out]; intro c hc; rcases List.mem_append.1 hc with hc | hc; exact HF.out c hc; (simp at hc; subst hc; exact hf), (hbl.new _).trans hb3⟩
        case measure => simp [intOf]; omega
    · have HL : Hid (ys.take k = ys) := List.take_of_length_le (by omega)
      obtain ⟨a2, cap2, rfl, hrow⟩ := own_new hown HF.out
      rw [HL.out] at hrow ⊢
      clear hown HF
      go_wp2
      go_ret
      exact ⟨a2, cap2, rfl, hrow, hbl⟩
end Go.Proofs.Ytlddglajdcednaa
namespace Go.Proofs.Ytlddglajdcednaa
open Go.RowKit

/-! ### the variables of what is put in -/
theorem varsGo_src (xs : List Cel) : ∀ (acc : List Int) (n : Int), n ∈ varsGo acc xs → n ∈ acc ∨ ∃ c ∈ xs, c.k = 1 ∧ c.n = n := by
  induction xs with
  | nil => intro acc n h; exact .inl h
  | cons c l ih =>
    intro acc n h
    rcases ih _ n h with h | ⟨d, hd, h1, h2⟩
    · split at h
      · rename_i hc
        rcases List.mem_append.1 h with h | h
        · exact .inl h
        · simp at h; exact .inr ⟨c, by simp, hc.1, h.symm⟩
      · exact .inl h
    · exact .inr ⟨d, by simp [hd], h1, h2⟩
theorem varsL_iff {xs : List Cel} {n : Int} : n ∈ varsL xs ↔ ∃ c ∈ xs, c.k = 1 ∧ c.n = n :=
  ⟨fun h => (varsGo_src xs [] n h).resolve_left (by simp), fun ⟨_, hc, h1, h2⟩ => h2 ▸ mem_varsL hc h1⟩
theorem varsL_le (xs : List Cel) : (varsL xs).length ≤ xs.length := by
  have := varsGo_length xs []
  simpa [varsL] using this
end Go.Proofs.Ytlddglajdcednaa

namespace Go.Proofs.Ytlddglajdcednaa

/-! ### what joining keeps: plain words alone -/
theorem good_ok {l : List Cel} (hG : Good l) {i : Nat} (hi : i < l.length) : cellOk l[i] = true := (good_cell hG hi).1
theorem yields_var {c d : Cel} (h : yieldsB c d = true) : c.k = 1 := by
  unfold yieldsB at h; simp at h; exact h.1
theorem var_eq {c d : Cel} (hc : cellOk c = true) (hd : cellOk d = true) (h1 : c.k = 1) (h2 : d.k = 1) (h3 : c.n = d.n) : c = d := by
  have e1 : c.s.toList = [] := by unfold cellOk at hc; simp [h1] at hc; exact hc.1.1
  have e2 : d.s.toList = [] := by unfold cellOk at hd; simp [h2] at hd; exact hd.1.1
  rw [ByteArray.toList_eq] at e1 e2
  cases c with
  | mk k s n =>
    cases d with
    | mk k' s' n' =>
      cases s; cases s'
      simp at e1 e2 h1 h2 h3
      simp [e1, e2, h1, h2, h3]
/-- neither yields and they are not the same: neither is a variable -/
theorem yields_none {c d : Cel} (hc : cellOk c = true) (hd : cellOk d = true) (h1 : yieldsB c d = false) (h2 : yieldsB d c = false) (hne : c ≠ d) : c.k ≠ 1 ∧ d.k ≠ 1 := by
  unfold yieldsB at h1 h2
  by_cases e1 : c.k = 1
  · by_cases e2 : d.k = 1
    · simp [e1, e2] at h1 h2
      exact absurd (var_eq hc hd e1 e2 (by omega)) hne
    · simp [e1, e2] at h1
  · by_cases e2 : d.k = 1
    · simp [e1, e2] at h2
    · exact ⟨e1, e2⟩
theorem mem_zip_of {α : Type} (V : Nat → α) : ∀ (xs ys : List Nat), xs.map V = ys.map V → ∀ p ∈ xs.zip ys, V p.1 = V p.2
  | [], _, _, p, hp => by simp at hp
  | _ :: _, [], h, _, _ => by simp at h
  | x :: xs, y :: ys, h, p, hp => by
    simp only [List.map_cons, List.cons.injEq] at h
    rw [List.zip_cons_cons] at hp
    rcases List.mem_cons.1 hp with rfl | hp
    · exact h.1
    · exact mem_zip_of V xs ys h.2 p hp
theorem zip_map_of {α : Type} (V : Nat → α) : ∀ (xs ys : List Nat), xs.length = ys.length → (∀ p ∈ xs.zip ys, V p.1 = V p.2) → xs.map V = ys.map V
  | [], [], _, _ => rfl
  | [], _ :: _, h, _ => by simp at h
  | _ :: _, [], h, _ => by simp at h
  | x :: xs, y :: ys, h, hp => by
    simp only [List.map_cons, List.cons.injEq]
    refine ⟨hp (x, y) (by simp), zip_map_of V xs ys (by simpa using h) fun p h' => hp p ?_⟩
    rw [List.zip_cons_cons]; exact List.mem_cons_of_mem _ h'
theorem args_length (l : List Cel) {x : Nat} (hx : x < l.length) : (argsL l x).length = ar l[x] := by
  unfold argsL; rw [List.getElem?_eq_getElem hx]; simp

/-! ### most general: whatever values fit the terms, and make the pairs alike, the classes keep them -/
structure ValOk {α : Type} (l : List Cel) (V : Nat → α) : Prop where
  cong : ∀ x y (hx : x < l.length) (hy : y < l.length), V x = V y → l[x].k ≠ 1 → l[y].k ≠ 1 → l[x] = l[y] ∧ (argsL l x).map V = (argsL l y).map V
theorem uni_val {α : Type} {l : List Cel} {V : Nat → α} {r : List Nat} (hr : ∀ z, z < l.length → V (r.getD z 0) = V z) (hl : r.length = l.length) {x y : Nat} (hxy : V x = V y) :
    ∀ z, z < l.length → V ((uniR r x y).getD z 0) = V z := by
  intro z hz
  rw [uniR_get r x y (by rw [hl]; exact hz)]
  split
  · next e => rw [← hxy, ← e]; exact hr z hz
  · exact hr z hz
theorem step_val {α : Type} {l : List Cel} (hG : Good l) {V : Nat → α} (hV : ValOk l V) {r : List Nat} {p q : Nat} {t : List (Nat × Nat)} (h : JoinOk l r ((p, q) :: t))
    (hr : ∀ z, z < l.length → V (r.getD z 0) = V z) (hpq : V p = V q) :
    ∃ r' u, joinStep l r p q = some (r', u) ∧ (∀ z, z < l.length → V (r'.getD z 0) = V z) ∧ ∀ ab ∈ u, V ab.1 = V ab.2 := by
  obtain ⟨hp, hq⟩ := h.todo (p, q) List.mem_cons_self
  obtain ⟨x1, x2⟩ := h.top p hp
  obtain ⟨y1, y2⟩ := h.top q hq
  have hxy : V (r.getD p 0) = V (r.getD q 0) := by rw [hr p hp, hr q hq]; exact hpq
  unfold joinStep
  simp only [List.getElem?_eq_getElem x1, List.getElem?_eq_getElem y1]
  split
  · exact ⟨r, [], rfl, hr, fun _ h => by cases h⟩
  · split
    · exact ⟨_, [], rfl, uni_val hr h.len hxy, fun _ h => by cases h⟩
    · next n1 =>
      split
      · exact ⟨_, [], rfl, uni_val hr h.len hxy.symm, fun _ h => by cases h⟩
      · next n2 =>
        split
        · next e =>
          refine ⟨_, _, rfl, uni_val hr h.len hxy, fun ab hab => ?_⟩
          have hab := List.mem_reverse.1 hab
          by_cases hk : l[r.getD p 0].k = 1
          · have h0 : argsL l (r.getD p 0) = [] := by
              apply List.eq_nil_of_length_eq_zero
              rw [args_length l x1]; unfold ar; rw [if_neg (by omega)]
            rw [h0] at hab; simp at hab
          · exact mem_zip_of V _ _ (hV.cong _ _ x1 y1 hxy hk (by rw [← e]; exact hk)).2 ab hab
        · next e =>
          exfalso
          obtain ⟨k1, k2⟩ := yields_none (good_ok hG x1) (good_ok hG y1) (by simpa using n1) (by simpa using n2) e
          exact e (hV.cong _ _ x1 y1 hxy k1 k2).1
/-- values that fit and that make all pairs alike: joining ends well, and the classes keep them -/
theorem join_val {α : Type} {l : List Cel} (hG : Good l) {V : Nat → α} (hV : ValOk l V) : ∀ (f : Nat) (r : List Nat) (t : List (Nat × Nat)), JoinOk l r t → 7 * tops r + t.length ≤ f →
    (∀ z, z < l.length → V (r.getD z 0) = V z) → (∀ ab ∈ t, V ab.1 = V ab.2) →
    ∃ r', joinL l f r t = some r' ∧ (∀ z, z < l.length → V (r'.getD z 0) = V z) := by
  intro f
  induction f with
  | zero =>
    intro r t h hf hr ht
    obtain rfl : t = [] := List.eq_nil_of_length_eq_zero (by omega)
    exact ⟨r, by simp [joinL], hr⟩
  | succ f ih =>
    intro r t h hf hr ht
    cases t with
    | nil => exact ⟨r, by simp [joinL], hr⟩
    | cons pq t =>
      obtain ⟨p, q⟩ := pq
      obtain ⟨r1, u, e, k1, k2⟩ := step_val hG hV h hr (ht (p, q) List.mem_cons_self)
      obtain ⟨j1, j2⟩ := join_step hG h e
      rw [List.length_cons] at hf
      obtain ⟨r', e', k'⟩ := ih r1 (u ++ t) j1 (by rw [List.length_append]; omega) k1 (fun ab hab => by
        rcases List.mem_append.1 hab with h' | h'
        · exact k2 ab h'
        · exact ht ab (List.mem_cons_of_mem _ h'))
      exact ⟨r', by unfold joinL; rw [e]; exact e', k'⟩

/-! ### alike: the classes that joining ends with -/
/-- a class that a variable stands for holds variables alone -/
def VarIn (l : List Cel) (r : List Nat) : Prop := ∀ z (hz : z < l.length) (h : r.getD z 0 < l.length), l[r.getD z 0].k = 1 → l[z].k = 1
/-- what is in one class of r and no variable is the same, and its parts are, by r' -/
def ClosedBy (l : List Cel) (r r' : List Nat) : Prop := ∀ x y (hx : x < l.length) (hy : y < l.length), r.getD x 0 = r.getD y 0 → l[x].k ≠ 1 → l[y].k ≠ 1 →
  l[x] = l[y] ∧ (argsL l x).map (fun z => r'.getD z 0) = (argsL l y).map (fun z => r'.getD z 0)
theorem VarIn.uni {l : List Cel} {r : List Nat} {t : List (Nat × Nat)} (h : VarIn l r) (hj : JoinOk l r t) {x y : Nat} (hx : x < l.length) (hv : ∀ (hy : y < l.length), l[y].k = 1 → l[x].k = 1) : VarIn l (uniR r x y) := by
  intro z hz hlt hk
  have hzl : z < r.length := by rw [hj.len]; exact hz
  have e := uniR_get r x y hzl
  by_cases hzx : r.getD z 0 = x
  · rw [if_pos hzx] at e
    have hy : y < l.length := by rw [← e]; exact hlt
    have : l[y].k = 1 := by simpa only [e] using hk
    have hxk := hv hy this
    exact h z hz (by rw [hzx]; exact hx) (by simpa only [hzx] using hxk)
  · rw [if_neg hzx] at e
    exact h z hz (by rw [← e]; exact hlt) (by simpa only [e] using hk)
theorem uni_same {l : List Cel} {r : List Nat} {t : List (Nat × Nat)} (hj : JoinOk l r t) {x y a b : Nat} (ha : a < l.length) (hb : b < l.length) (h : (uniR r x y).getD a 0 = (uniR r x y).getD b 0) :
    r.getD a 0 = r.getD b 0 ∨ (r.getD a 0 = x ∧ r.getD b 0 = y) ∨ (r.getD a 0 = y ∧ r.getD b 0 = x) := by
  rw [uniR_get r x y (by rw [hj.len]; exact ha), uniR_get r x y (by rw [hj.len]; exact hb)] at h
  split at h <;> split at h <;> omega
theorem uni_mono {l : List Cel} {r : List Nat} {t : List (Nat × Nat)} (hj : JoinOk l r t) (x y : Nat) {a b : Nat} (ha : a < l.length) (hb : b < l.length) (h : r.getD a 0 = r.getD b 0) : (uniR r x y).getD a 0 = (uniR r x y).getD b 0 := by
  rw [uniR_get r x y (by rw [hj.len]; exact ha), uniR_get r x y (by rw [hj.len]; exact hb), h]
/-- the class of a variable goes to another one: nothing else is asked -/
theorem ClosedBy.var {l : List Cel} {r r' : List Nat} {t : List (Nat × Nat)} (h : ClosedBy l r r') (hv : VarIn l r) (hj : JoinOk l r t) {x y : Nat} (hx : x < l.length) (hk : l[x].k = 1) : ClosedBy l (uniR r x y) r' := by
  intro a b ha hb e k1 k2
  rcases uni_same hj ha hb e with e | ⟨e1, _⟩ | ⟨_, e2⟩
  · exact h a b ha hb e k1 k2
  · exact absurd (hv a ha (by rw [e1]; exact hx) (by simpa only [e1] using hk)) k1
  · exact absurd (hv b hb (by rw [e2]; exact hx) (by simpa only [e2] using hk)) k2
/-- two classes of the same cell become one: their parts are to be joined -/
theorem ClosedBy.same {l : List Cel} {r r' : List Nat} {t : List (Nat × Nat)} (h : ClosedBy l r r') (hv : VarIn l r) (hj : JoinOk l r t) {x y : Nat} (hx : x < l.length) (hy : y < l.length) (hrx : r.getD x 0 = x) (hry : r.getD y 0 = y)
    (he : l[x] = l[y]) (hp : ∀ p ∈ (argsL l x).zip (argsL l y), r'.getD p.1 0 = r'.getD p.2 0) : ClosedBy l (uniR r x y) r' := by
  have hargs : (argsL l x).map (fun z => r'.getD z 0) = (argsL l y).map (fun z => r'.getD z 0) :=
    zip_map_of (fun z => r'.getD z 0) _ _ (by rw [args_length l hx, args_length l hy, he]) hp
  have key : ∀ a b (ha : a < l.length) (hb : b < l.length), r.getD a 0 = x → r.getD b 0 = y → l[a].k ≠ 1 → l[b].k ≠ 1 →
      l[a] = l[b] ∧ (argsL l a).map (fun z => r'.getD z 0) = (argsL l b).map (fun z => r'.getD z 0) := by
    intro a b ha hb e1 e2 k1 k2
    have kx : l[x].k ≠ 1 := fun e => k1 (hv a ha (by rw [e1]; exact hx) (by simpa only [e1] using e))
    have ky : l[y].k ≠ 1 := by rw [← he]; exact kx
    obtain ⟨a1, a2⟩ := h a x ha hx (by rw [e1, hrx]) k1 kx
    obtain ⟨b1, b2⟩ := h b y hb hy (by rw [e2, hry]) k2 ky
    exact ⟨by rw [a1, b1, he], by rw [a2, b2, hargs]⟩
  intro a b ha hb e k1 k2
  rcases uni_same hj ha hb e with e | ⟨e1, e2⟩ | ⟨e1, e2⟩
  · exact h a b ha hb e k1 k2
  · exact key a b ha hb e1 e2 k1 k2
  · obtain ⟨c1, c2⟩ := key b a hb ha e2 e1 k2 k1
    exact ⟨c1.symm, c2.symm⟩
/-- what joining ends with -/
structure Joined (l : List Cel) (r r' : List Nat) (t : List (Nat × Nat)) : Prop where
  ok : JoinOk l r' []
  var : VarIn l r'
  closed : ClosedBy l r' r'
  mono : ∀ a b, a < l.length → b < l.length → r.getD a 0 = r.getD b 0 → r'.getD a 0 = r'.getD b 0
  done : ∀ p ∈ t, r'.getD p.1 0 = r'.getD p.2 0
/-- joining's own words, without the parts: the classes grow, and what is to do is done -/
theorem join_grows {l : List Cel} (hG : Good l) : ∀ (f : Nat) (r : List Nat) (t : List (Nat × Nat)) (r' : List Nat), JoinOk l r t → joinL l f r t = some r' →
    (∀ a b, a < l.length → b < l.length → r.getD a 0 = r.getD b 0 → r'.getD a 0 = r'.getD b 0) ∧ ∀ p ∈ t, r'.getD p.1 0 = r'.getD p.2 0 := by
  intro f
  induction f with
  | zero =>
    intro r t r' h e
    cases t with
    | nil => simp only [joinL, Option.some.injEq] at e; subst e; exact ⟨fun _ _ _ _ e => e, fun _ h => by cases h⟩
    | cons pq t => simp [joinL] at e
  | succ f ih =>
    intro r t r' h e
    cases t with
    | nil => simp only [joinL, Option.some.injEq] at e; subst e; exact ⟨fun _ _ _ _ e => e, fun _ h => by cases h⟩
    | cons pq t =>
      obtain ⟨p, q⟩ := pq
      unfold joinL at e
      cases hs : joinStep l r p q with
      | none => rw [hs] at e; cases e
      | some o =>
        obtain ⟨r1, u⟩ := o
        rw [hs] at e
        obtain ⟨j1, _⟩ := join_step hG h hs
        obtain ⟨m1, d1⟩ := ih r1 (u ++ t) r' j1 e
        obtain ⟨hp, hq⟩ := h.todo (p, q) List.mem_cons_self
        obtain ⟨x1, x2⟩ := h.top p hp
        obtain ⟨y1, y2⟩ := h.top q hq
        have step : (∀ a b, a < l.length → b < l.length → r.getD a 0 = r.getD b 0 → r1.getD a 0 = r1.getD b 0) ∧ r1.getD p 0 = r1.getD q 0 := by
          unfold joinStep at hs
          simp only [List.getElem?_eq_getElem x1, List.getElem?_eq_getElem y1] at hs
          have one : ∀ x y : Nat, ((r.getD p 0 = x ∧ r.getD q 0 = y) ∨ (r.getD p 0 = y ∧ r.getD q 0 = x)) → (uniR r x y).getD p 0 = (uniR r x y).getD q 0 := by
            intro x y h'
            rw [uniR_get r x y (by rw [h.len]; exact hp), uniR_get r x y (by rw [h.len]; exact hq)]
            split <;> split <;> omega
          split at hs
          · next e' => cases hs; exact ⟨fun _ _ _ _ e => e, e'⟩
          · split at hs
            · cases hs; exact ⟨fun _ _ ha hb e => uni_mono h _ _ ha hb e, one _ _ (.inl ⟨rfl, rfl⟩)⟩
            · split at hs
              · cases hs; exact ⟨fun _ _ ha hb e => uni_mono h _ _ ha hb e, one _ _ (.inr ⟨rfl, rfl⟩)⟩
              · split at hs
                · cases hs; exact ⟨fun _ _ ha hb e => uni_mono h _ _ ha hb e, one _ _ (.inl ⟨rfl, rfl⟩)⟩
                · cases hs
        refine ⟨fun a b ha hb e => m1 a b ha hb (step.1 a b ha hb e), fun pq hpq => ?_⟩
        rcases List.mem_cons.1 hpq with rfl | hpq
        · exact m1 p q hp hq step.2
        · exact d1 pq (List.mem_append.2 (.inr hpq))
theorem join_closed {l : List Cel} (hG : Good l) : ∀ (f : Nat) (r : List Nat) (t : List (Nat × Nat)) (r' : List Nat), JoinOk l r t → VarIn l r → ClosedBy l r r' → joinL l f r t = some r' → JoinOk l r' [] ∧ VarIn l r' ∧ ClosedBy l r' r' := by
  intro f
  induction f with
  | zero =>
    intro r t r' h hv hc e
    cases t with
    | nil => simp only [joinL, Option.some.injEq] at e; subst e; exact ⟨h, hv, hc⟩
    | cons pq t => simp [joinL] at e
  | succ f ih =>
    intro r t r' h hv hc e
    cases t with
    | nil => simp only [joinL, Option.some.injEq] at e; subst e; exact ⟨h, hv, hc⟩
    | cons pq t =>
      obtain ⟨p, q⟩ := pq
      unfold joinL at e
      cases hs : joinStep l r p q with
      | none => rw [hs] at e; cases e
      | some o =>
        obtain ⟨r1, u⟩ := o
        rw [hs] at e
        obtain ⟨j1, _⟩ := join_step hG h hs
        obtain ⟨_, d1⟩ := join_grows hG f r1 (u ++ t) r' j1 e
        obtain ⟨hp, hq⟩ := h.todo (p, q) List.mem_cons_self
        obtain ⟨x1, x2⟩ := h.top p hp
        obtain ⟨y1, y2⟩ := h.top q hq
        have step : VarIn l r1 ∧ ClosedBy l r1 r' := by
          unfold joinStep at hs
          simp only [List.getElem?_eq_getElem x1, List.getElem?_eq_getElem y1] at hs
          split at hs
          · cases hs; exact ⟨hv, hc⟩
          · split at hs
            · next hy =>
              cases hs
              have hk := yields_var hy
              exact ⟨hv.uni h x1 (fun _ _ => hk), hc.var hv h x1 hk⟩
            · split at hs
              · next hy =>
                cases hs
                have hk := yields_var hy
                exact ⟨hv.uni h y1 (fun _ _ => hk), hc.var hv h y1 hk⟩
              · split at hs
                · next he =>
                  cases hs
                  exact ⟨hv.uni h x1 (fun _ hk => by rw [he]; exact hk), hc.same hv h x1 y1 x2 y2 he fun pq hpq => d1 pq (List.mem_append.2 (.inl (List.mem_reverse.2 hpq)))⟩
                · cases hs
        exact ih r1 (u ++ t) r' j1 step.1 step.2 e
theorem joined {l : List Cel} (hG : Good l) {f : Nat} {r r' : List Nat} {t : List (Nat × Nat)} (h : JoinOk l r t) (hv : VarIn l r) (hc : ∀ r', (∀ a b, a < l.length → b < l.length → r.getD a 0 = r.getD b 0 → r'.getD a 0 = r'.getD b 0) → ClosedBy l r r') (e : joinL l f r t = some r') : Joined l r r' t := by
  obtain ⟨m, d⟩ := join_grows hG f r t r' h e
  obtain ⟨a, b, c⟩ := join_closed hG f r t r' h hv (hc r' m) e
  exact ⟨a, b, c, m, d⟩
/-! ### the least variable stands for a class -/
def VarMin (l : List Cel) (r : List Nat) : Prop := ∀ z (hz : z < l.length) (h : r.getD z 0 < l.length), l[r.getD z 0].k = 1 → l[r.getD z 0].n ≤ l[z].n
theorem VarMin.uni {l : List Cel} {r : List Nat} {t : List (Nat × Nat)} (h : VarMin l r) (hj : JoinOk l r t) {x y : Nat} (hx : x < l.length) (hv : ∀ (hy : y < l.length), l[y].k = 1 → l[x].k = 1 ∧ l[y].n ≤ l[x].n) : VarMin l (uniR r x y) := by
  intro z hz hlt hk
  have e := uniR_get r x y (k := z) (by rw [hj.len]; exact hz)
  by_cases hzx : r.getD z 0 = x
  · rw [if_pos hzx] at e
    have hy : y < l.length := by rw [← e]; exact hlt
    have hky : l[y].k = 1 := by simpa only [e] using hk
    obtain ⟨k1, k2⟩ := hv hy hky
    have h1 := h z hz (by rw [hzx]; exact hx) (by simpa only [hzx] using k1)
    simp only [hzx] at h1
    simp only [e]
    omega
  · rw [if_neg hzx] at e
    have := h z hz (by rw [← e]; exact hlt) (by simpa only [e] using hk)
    simpa only [e] using this
theorem yields_least {c d : Cel} (h : yieldsB c d = true) (hd : d.k = 1) : d.n ≤ c.n := by
  unfold yieldsB at h; simp [hd] at h; omega
theorem join_least {l : List Cel} (hG : Good l) : ∀ (f : Nat) (r : List Nat) (t : List (Nat × Nat)) (r' : List Nat), JoinOk l r t → VarMin l r → joinL l f r t = some r' → VarMin l r' := by
  intro f
  induction f with
  | zero =>
    intro r t r' h hv e
    cases t with
    | nil => simp only [joinL, Option.some.injEq] at e; subst e; exact hv
    | cons pq t => simp [joinL] at e
  | succ f ih =>
    intro r t r' h hv e
    cases t with
    | nil => simp only [joinL, Option.some.injEq] at e; subst e; exact hv
    | cons pq t =>
      obtain ⟨p, q⟩ := pq
      unfold joinL at e
      cases hs : joinStep l r p q with
      | none => rw [hs] at e; cases e
      | some o =>
        obtain ⟨r1, u⟩ := o
        rw [hs] at e
        obtain ⟨j1, _⟩ := join_step hG h hs
        obtain ⟨hp, hq⟩ := h.todo (p, q) List.mem_cons_self
        obtain ⟨x1, x2⟩ := h.top p hp
        obtain ⟨y1, y2⟩ := h.top q hq
        refine ih r1 (u ++ t) r' j1 ?_ e
        unfold joinStep at hs
        simp only [List.getElem?_eq_getElem x1, List.getElem?_eq_getElem y1] at hs
        split at hs
        · cases hs; exact hv
        · split at hs
          · next hy => cases hs; exact hv.uni h x1 fun _ hk => ⟨yields_var hy, yields_least hy hk⟩
          · split at hs
            · next hy => cases hs; exact hv.uni h y1 fun _ hk => ⟨yields_var hy, yields_least hy hk⟩
            · split at hs
              · next he => cases hs; exact hv.uni h x1 fun _ hk => ⟨by rw [he]; exact hk, by rw [he]; exact Int.le_refl _⟩
              · cases hs
end Go.Proofs.Ytlddglajdcednaa

namespace Go.Proofs.Ytlddglajdcednaa

/-! ### measuring: what ends, and how long it is -/
/-- what a class is laid out to ends within so many steps -/
def EndsIn (l : List Cel) (r : List Nat) : Nat → Nat → Prop
  | 0, _ => False
  | h + 1, x => ∀ q ∈ argsL l x, EndsIn l r h (r.getD q 0)
theorem EndsIn.succ {l : List Cel} {r : List Nat} : ∀ {h x : Nat}, EndsIn l r h x → EndsIn l r (h + 1) x
  | 0, _, h => h.elim
  | _ + 1, _, h => fun q hq => EndsIn.succ (h q hq)
theorem EndsIn.mono {l : List Cel} {r : List Nat} {h k x : Nat} (e : EndsIn l r h x) (hk : h ≤ k) : EndsIn l r k x := by
  induction hk with
  | refl => exact e
  | step _ ih => exact ih.succ
theorem flat_congr {f g : Nat → List Cel} : ∀ {qs : List Nat}, (∀ q ∈ qs, f q = g q) → qs.flatMap f = qs.flatMap g
  | [], _ => rfl
  | q :: qs, h => by
    rw [List.flatMap_cons, List.flatMap_cons, h q List.mem_cons_self, flat_congr fun q' h' => h q' (List.mem_cons_of_mem _ h')]
theorem lay_class {l : List Cel} {r : List Nat} {p q : Nat} (e : r.getD p 0 = r.getD q 0) : ∀ f, layL l r f p = layL l r f q
  | 0 => rfl
  | f + 1 => by simp only [layL, e]
theorem lay_stable {l : List Cel} {r : List Nat} : ∀ (h p : Nat), EndsIn l r h (r.getD p 0) → ∀ f, h ≤ f → layL l r f p = layL l r h p := by
  intro h
  induction h with
  | zero => intro p e; exact e.elim
  | succ h ih =>
    intro p e f hf
    obtain ⟨f, rfl⟩ : ∃ g, f = g + 1 := ⟨f - 1, by omega⟩
    simp only [layL]
    cases l[r.getD p 0]? with
    | none => rfl
    | some c =>
      simp only [List.cons.injEq, true_and]
      exact flat_congr fun q hq => ih q (e q hq) f (by omega)
/-- the term of a place's class -/
def termL (l : List Cel) (r : List Nat) (p : Nat) : List Cel := layL l r (l.length + 1) p
theorem term_class {l : List Cel} {r : List Nat} {p q : Nat} (e : r.getD p 0 = r.getD q 0) : termL l r p = termL l r q := lay_class e _
theorem term_eq {l : List Cel} {r : List Nat} {h p : Nat} (e : EndsIn l r h (r.getD p 0)) (hh : h ≤ l.length) (hp : r.getD p 0 < l.length) :
    termL l r p = l[r.getD p 0] :: (argsL l (r.getD p 0)).flatMap (termL l r) := by
  have e1 := lay_stable h p e
  unfold termL
  conv => lhs; simp only [layL]
  rw [List.getElem?_eq_getElem hp]
  simp only [List.cons.injEq, true_and]
  refine flat_congr fun q hq => ?_
  cases h with
  | zero => exact e.elim
  | succ h =>
    have := lay_stable h q (e q hq)
    rw [this l.length (by omega), this (l.length + 1) (by omega)]
def doneN (s : List Int) : Nat := s.countP (fun v => decide (0 < v))
/-- what is measured -/
structure MOk (l : List Cel) (r : List Nat) (s : List Int) : Prop where
  len : s.length = l.length
  low : ∀ x, -1 ≤ s.getD x 0
  ends : ∀ x, x < l.length → 0 < s.getD x 0 → EndsIn l r (doneN s) x ∧ s.getD x 0 = min ((termL l r x).length : Int) 201
  parts : ∀ x, x < l.length → 0 < s.getD x 0 → ∀ q ∈ argsL l x, 0 < s.getD (r.getD q 0) 0
theorem getD_set {s : List Int} {x : Nat} (hx : x < s.length) (v : Int) (y : Nat) : (s.set x v).getD y 0 = if y = x then v else s.getD y 0 := by
  simp only [List.getD_eq_getElem?_getD, List.getElem?_set]
  by_cases e : x = y
  · subst e; simp [hx]
  · rw [if_neg e, if_neg (fun h => e h.symm)]
theorem done_set {s : List Int} {x : Nat} (hx : x < s.length) (h : s.getD x 0 ≤ 0) (v : Int) : doneN (s.set x v) = doneN s + if 0 < v then 1 else 0 := by
  have h' : s[x] ≤ 0 := by simpa [List.getD_eq_getElem?_getD, List.getElem?_eq_getElem hx] using h
  unfold doneN
  rw [List.countP_set hx]
  have : decide (0 < s[x]) = false := by simp; omega
  simp [this]
theorem MOk.begin {l : List Cel} {r : List Nat} {s : List Int} (hs : MOk l r s) {x : Nat} (hx : x < l.length) (h0 : s.getD x 0 = 0) : MOk l r (s.set x (-1)) := by
  have hxs : x < s.length := by rw [hs.len]; exact hx
  have hn : ∀ y, 0 < (s.set x (-1)).getD y 0 ↔ 0 < s.getD y 0 := by
    intro y
    rw [getD_set hxs]
    split
    · next e => rw [e, h0]; omega
    · exact Iff.rfl
  refine ⟨by rw [List.length_set]; exact hs.len, fun y => ?_, fun y hy hpos => ?_, fun y hy hpos q hq => ?_⟩
  · rw [getD_set hxs]; split
    · omega
    · exact hs.low y
  · have hpos' := (hn y).1 hpos
    have hne : y ≠ x := fun e => by rw [e, h0] at hpos'; omega
    rw [done_set hxs (by omega), getD_set hxs, if_neg hne]
    simpa using hs.ends y hy hpos'
  · exact (hn _).2 (hs.parts y hy ((hn y).1 hpos) q hq)
theorem done_le (s : List Int) : doneN s ≤ s.length := List.countP_le_length
theorem sum_nonneg (a : Nat → Int) (ha : ∀ q, 0 ≤ a q) : ∀ qs : List Nat, 0 ≤ (qs.map a).sum
  | [] => by simp
  | q :: qs => by have := ha q; have := sum_nonneg a ha qs; simp only [List.map_cons, List.sum_cons]; omega
theorem sum_min (a : Nat → Int) (ha : ∀ q, 0 ≤ a q) : ∀ (qs : List Nat) (k : Int), 0 ≤ k → min (k + (qs.map fun q => min (a q) 201).sum) 201 = min (k + (qs.map a).sum) 201
  | [], _, _ => by simp
  | q :: qs, k, hk => by
    have h1 := ha q
    have h2 := sum_nonneg a ha qs
    have h3 := sum_min a ha qs (k + min (a q) 201) (by omega)
    simp only [List.map_cons, List.sum_cons]
    rw [← Int.add_assoc, h3]
    omega
theorem length_flat (T : Nat → List Cel) : ∀ qs : List Nat, ((qs.flatMap T).length : Int) = (qs.map fun q => ((T q).length : Int)).sum
  | [] => by simp
  | q :: qs => by rw [List.flatMap_cons, List.length_append, List.map_cons, List.sum_cons, ← length_flat T qs]; omega
/-- what one measuring keeps -/
structure Msd (l : List Cel) (r : List Nat) (s s2 : List Int) : Prop where
  ok : MOk l r s2
  keep : ∀ x, s.getD x 0 ≠ 0 → s2.getD x 0 = s.getD x 0
  prog : ∀ x, s2.getD x 0 = -1 → s.getD x 0 = -1
theorem Msd.refl {l : List Cel} {r : List Nat} {s : List Int} (h : MOk l r s) : Msd l r s s := ⟨h, fun _ _ => rfl, fun _ e => e⟩
theorem Msd.trans {l : List Cel} {r : List Nat} {a b c : List Int} (h : Msd l r a b) (k : Msd l r b c) : Msd l r a c :=
  ⟨k.ok, fun x hx => by have := h.keep x hx; rw [k.keep x (by rw [this]; exact hx), this], fun x hx => h.prog x (k.prog x hx)⟩
abbrev foldM (l : List Cel) (r : List Nat) (f : Nat) (qs : List Nat) (o : Option (List Int × Int)) : Option (List Int × Int) :=
  qs.foldl (fun (o : Option (List Int × Int)) q => o.bind fun (s', n) => (measureL l r f s' q).map fun s2 => (s2, n + s2.getD (r.getD q 0) 0)) o
theorem foldM_none (l : List Cel) (r : List Nat) (f : Nat) : ∀ qs : List Nat, foldM l r f qs none = none
  | [] => rfl
  | _ :: qs => foldM_none l r f qs
theorem measure_ok {l : List Cel} (hG : Good l) {r : List Nat} (hj : JoinOk l r []) : ∀ (f : Nat) (s : List Int) (p : Nat) (s2 : List Int), p < l.length → MOk l r s → measureL l r f s p = some s2 →
    Msd l r s s2 ∧ 0 < s2.getD (r.getD p 0) 0 := by
  intro f
  induction f with
  | zero => intro s p s2 _ _ e; simp [measureL] at e
  | succ f ih =>
    intro s p s2 hp hs e
    obtain ⟨x1, x2⟩ := hj.top p hp
    have hxs : r.getD p 0 < s.length := by rw [hs.len]; exact x1
    -- all parts, one after the other
    have fold : ∀ (qs : List Nat), (∀ q ∈ qs, q < l.length) → ∀ (s0 : List Int) (n0 : Int) (s' : List Int) (n : Int), MOk l r s0 → foldM l r f qs (some (s0, n0)) = some (s', n) →
        Msd l r s0 s' ∧ (∀ q ∈ qs, 0 < s'.getD (r.getD q 0) 0) ∧ n = n0 + (qs.map fun q => s'.getD (r.getD q 0) 0).sum := by
      intro qs
      induction qs with
      | nil =>
        intro _ s0 n0 s' n h0 e
        simp only [foldM, List.foldl_nil, Option.some.injEq, Prod.mk.injEq] at e
        obtain ⟨rfl, rfl⟩ := e
        exact ⟨Msd.refl h0, fun _ h => absurd h (by simp), by simp⟩
      | cons q qs ihq =>
        intro hqs s0 n0 s' n h0 e
        rw [foldM, List.foldl_cons] at e
        simp only [Option.bind_some] at e
        cases e1 : measureL l r f s0 q with
        | none => rw [e1] at e; simp only [Option.map_none] at e; exact absurd ((foldM_none l r f qs).symm.trans e) (by simp)
        | some s1 =>
          rw [e1] at e
          simp only [Option.map_some] at e
          obtain ⟨m1, m2⟩ := ih s0 q s1 (hqs q List.mem_cons_self) h0 e1
          obtain ⟨k1, k2, k3⟩ := ihq (fun q' h => hqs q' (List.mem_cons_of_mem _ h)) s1 _ s' n m1.ok e
          have kq := k1.keep (r.getD q 0) (by omega)
          refine ⟨m1.trans k1, fun q' hq' => ?_, ?_⟩
          · rcases List.mem_cons.1 hq' with rfl | hq'
            · rw [kq]; exact m2
            · exact k2 q' hq'
          · rw [k3, List.map_cons, List.sum_cons, kq]; omega
    unfold measureL at e
    simp only at e
    split at e
    · next h0 =>
      have hs0 : MOk l r (s.set (r.getD p 0) (-1)) := hs.begin x1 h0
      split at e
      · cases e
      · next s' n e1 =>
        simp only [Option.some.injEq] at e
        subst e
        obtain ⟨k1, k2, k3⟩ := fold _ (fun q hq => args_lt hG hq) _ _ _ _ hs0 e1
        have hxs' : r.getD p 0 < s'.length := by rw [k1.ok.len]; exact x1
        have hx' : s'.getD (r.getD p 0) 0 = -1 := by
          rw [k1.keep _ (by rw [getD_set hxs, if_pos rfl]; omega), getD_set hxs, if_pos rfl]
        have hend : EndsIn l r (doneN s' + 1) (r.getD p 0) := fun q hq => (k1.ok.ends _ (hj.top q (args_lt hG hq)).1 (k2 q hq)).1
        have hsum : ((argsL l (r.getD p 0)).map fun q => s'.getD (r.getD q 0) 0).sum = ((argsL l (r.getD p 0)).map fun q => min ((termL l r q).length : Int) 201).sum := by
          congr 1
          refine List.map_congr_left fun q hq => ?_
          rw [(k1.ok.ends _ (hj.top q (args_lt hG hq)).1 (k2 q hq)).2, term_class (hj.top q (args_lt hG hq)).2]
        have hn : min n 201 = min ((termL l r (r.getD p 0)).length : Int) 201 := by
          have hlen : doneN s' + 1 ≤ l.length := by
            have h1 := done_set hxs' (by omega) 1
            have h2 := done_le (s'.set (r.getD p 0) 1)
            rw [List.length_set, k1.ok.len] at h2
            rw [if_pos (by omega)] at h1
            omega
          rw [term_class x2, term_eq hend hlen x1, k3, hsum, List.length_cons]
          have := sum_min (fun q => ((termL l r q).length : Int)) (fun q => by omega) (argsL l (r.getD p 0)) 1 (by omega)
          rw [this, ← length_flat]
          omega
        have hn1 : 1 ≤ n := by
          have := sum_nonneg (fun q => min ((termL l r q).length : Int) 201) (fun q => by omega) (argsL l (r.getD p 0))
          rw [k3, hsum]; omega
        have hd := done_set hxs' (by omega) (min n 201)
        rw [if_pos (by omega)] at hd
        refine ⟨⟨⟨by rw [List.length_set]; exact k1.ok.len, fun y => ?_, fun y hy hpos => ?_, fun y hy hpos q hq => ?_⟩, fun y hy => ?_, fun y hy => ?_⟩, ?_⟩
        · rw [getD_set hxs']; split
          · omega
          · exact k1.ok.low y
        · rw [getD_set hxs'] at hpos ⊢
          rw [hd]
          by_cases hyx : y = r.getD p 0
          · subst hyx
            rw [if_pos rfl]
            exact ⟨hend, hn⟩
          · rw [if_neg hyx] at hpos ⊢
            obtain ⟨a, b⟩ := k1.ok.ends y hy hpos
            exact ⟨a.succ, b⟩
        · rw [getD_set hxs'] at hpos ⊢
          split
          · omega
          · by_cases hyx : y = r.getD p 0
            · exact k2 q (by rw [← hyx]; exact hq)
            · rw [if_neg hyx] at hpos
              exact k1.ok.parts y hy hpos q hq
        · have hyx : y ≠ r.getD p 0 := fun e => hy (by rw [e]; exact h0)
          rw [getD_set hxs', if_neg hyx, k1.keep y (by rw [getD_set hxs, if_neg hyx]; exact hy), getD_set hxs, if_neg hyx]
        · rw [getD_set hxs'] at hy
          split at hy
          · omega
          · next hyx =>
            have := k1.prog y hy
            rwa [getD_set hxs, if_neg hyx] at this
        · rw [getD_set hxs', if_pos rfl]; omega
    · next h0 =>
      split at e
      · cases e
      · next h1 =>
        simp only [Option.some.injEq] at e
        subst e
        have := hs.low (r.getD p 0)
        exact ⟨Msd.refl hs, by omega⟩
/-- what is measured from nothing -/
theorem measured {l : List Cel} (hG : Good l) {r : List Nat} (hj : JoinOk l r []) {f : Nat} {p : Nat} {s : List Int} (hp : p < l.length) (e : measureL l r f (List.replicate l.length 0) p = some s) :
    MOk l r s ∧ 0 < s.getD (r.getD p 0) 0 := by
  have h0 : ∀ x, (List.replicate l.length (0 : Int)).getD x 0 = 0 := fun x => by
    simp only [List.getD_eq_getElem?_getD, List.getElem?_replicate]; split <;> rfl
  obtain ⟨a, b⟩ := measure_ok hG hj f _ p s hp ⟨by simp, fun x => by rw [h0]; omega, fun x _ h => by rw [h0] at h; omega, fun x _ h => by rw [h0] at h; omega⟩ e
  exact ⟨a.ok, b⟩
end Go.Proofs.Ytlddglajdcednaa

namespace Go.Proofs.Ytlddglajdcednaa
open Go.RowKit
attribute [local go_sem] Oper.semAt_some

theorem Cls.size_at {w : World} {C u s m : Nat} {l : List Cel} {E : List Int} {us : List Nat} (h : Cls (veil us w) C u s m l E) :
    ∃ cap, l.length ≤ cap ∧ cap ≤ 9223372036854775807 ∧ w.cell? ⟨C, 4, none⟩ = some (.slice (some ⟨s, 0, none⟩) l.length cap) :=
  let ⟨cap, h1, h2, h3⟩ := h.size; ⟨cap, h1, h2, (veil_cell h3).2⟩
def zeroN (s : List Int) : Nat := s.countP (fun v => decide (v = 0))
theorem zero_set {s : List Int} {x : Nat} (hx : x < s.length) (h : s.getD x 0 = 0) : zeroN (s.set x (-1)) + 1 = zeroN s := by
  have h0 : s[x] = 0 := by simpa [List.getD_eq_getElem?_getD, List.getElem?_eq_getElem hx] using h
  have h1 : 0 < zeroN s := List.countP_pos_iff.2 ⟨s[x], List.getElem_mem hx, by simp [h0]⟩
  unfold zeroN at h1 ⊢
  rw [List.countP_set hx]
  simp [h0]
  omega
theorem zero_le : ∀ {s s2 : List Int}, s2.length = s.length → (∀ x : Nat, s.getD x 0 ≠ 0 → s2.getD x 0 = s.getD x 0) → zeroN s2 ≤ zeroN s
  | [], [], _, _ => Nat.le_refl _
  | a :: s, b :: s2, hl, h => by
    have ih := zero_le (s := s) (s2 := s2) (by simpa using hl) (fun x hx => h (x + 1) hx)
    have h0 := h 0
    simp only [List.getD_cons_zero] at h0
    unfold zeroN at ih ⊢
    rw [List.countP_cons, List.countP_cons]
    by_cases ha : a = 0
    · simp only [ha]; split <;> simp <;> omega
    · rw [h0 ha]; omega
/-- no size is too great -/
theorem MOk.up {l : List Cel} {r : List Nat} {s : List Int} (h : MOk l r s) {x : Nat} (hx : x < l.length) : s.getD x 0 ≤ 201 := by
  by_cases h0 : 0 < s.getD x 0
  · rw [(h.ends x hx h0).2]; omega
  · omega
/-- what measuring tells -/
def MPost (w : World) (u s : Nat) (l : List Cel) (r : List Nat) (d : Nat → Nat) (o : Option (List Int)) (e : Ending) (w' : World) : Prop :=
  Fr [u, s] w w' ∧ (∃ U', RowU w' u U' ∧ Roots l.length U' (fun k => r.getD k 0) d) ∧ match o with
  | none => e = .returned (.bool false)
  | some S' => e = .returned (.bool true) ∧ RowU w' s S'
theorem getD_row {S : List Int} {x : Nat} (hx : x < S.length) : S[x] = S.getD x 0 := by simp [List.getD_eq_getElem?_getD, List.getElem?_eq_getElem hx]
end Go.Proofs.Ytlddglajdcednaa

namespace Go.Proofs.Ytlddglajdcednaa
open Go.RowKit
attribute [local go_sem] Oper.semAt_some

theorem veil_more2 {us vs : List Nat} {w W : World} (hf : Fr us w W) (h : ∀ k ∈ vs, k ∈ us ∨ w.heap.size ≤ k) : Keeps (veil us w) (veil vs W) := by
  intro b o v hc
  obtain ⟨hb, hc'⟩ := veil_cell hc
  have hl := cell_lt hc'
  exact veil_of (fun e => (h b e).elim hb (fun q => by omega)) ((World.cell?_of_block (a := ⟨b, o, none⟩) (hf.block b hl hb)).trans hc')
theorem OwnX.low {β : Type} {B N : Nat} {I : β → World → Prop} (hN : N ≤ B) (hsz : ∀ s W, I s W → N ≤ W.heap.size) (h : ∀ s W W', I s W → KpN N [] W W' → I s W') : OwnX B none I := fun s A C row hs hg hr =>
  h s A C hs ⟨hg.os, hg.tape, hg.output, hg.size, fun k hk _ => hg.block k (Nat.lt_of_lt_of_le hk (hsz s A hs)) (fun e => (hr k e.symm).elim (fun q => by cases q) (fun q => by have := q.1; omega))⟩
theorem KpN.wide {N : Nat} {us vs : List Nat} {W W' : World} (k : KpN N us W W') (h : ∀ j ∈ us, j ∈ vs ∨ N ≤ j) : KpN N vs W W' := ⟨k.os, k.tape, k.output, k.size, fun i hi hn => k.block i hi (fun e => (h i e).elim hn (fun q => by omega))⟩
theorem Fr.kpn {N : Nat} {us : List Nat} {W W' : World} (h : Fr us W W') (hN : N ≤ W.heap.size) : KpN N us W W' := ⟨h.os, h.tape, h.output, h.size, fun k hk hn => h.block k (by omega) hn⟩
theorem KpN.set {N : Nat} {us : List Nat} (W : World) {g k : Nat} (hg : g ∈ us ∨ N ≤ g) (v : Value) : KpN N us W (W.setCell ⟨g, k, none⟩ v) :=
  ⟨rfl, rfl, rfl, by simp [World.setCell], fun i hi hn => Below.heap_setCell _ ⟨g, k, none⟩ _ i (fun e => hg.elim (fun q => hn (by rw [show i = g from e]; exact q)) (fun q => by have : i = g := e; omega))⟩
/-- the memory in the loop over the parts; WR: at its begin -/
structure MJ (WR : World) (u s B5 : Nat) (l : List Cel) (r : List Nat) (d : Nat → Nat) (S : List Int) (nn : Int) (W : World) : Prop where
  up : ∃ U', RowU W u U' ∧ Roots l.length U' (fun k => r.getD k 0) d
  size : RowU W s S
  box : Boxed W B5 3 (.int .i64 nn)
  kp : KpN WR.heap.size [u, s, B5] WR W
theorem MJ.keep {WR W W' : World} {u s B5 : Nat} {l : List Cel} {r : List Nat} {d : Nat → Nat} {S : List Int} {nn : Int} (h : MJ WR u s B5 l r d S nn W) (hu : u < WR.heap.size) (hs : s < WR.heap.size) (hb : B5 < WR.heap.size) (k : KpN WR.heap.size [] W W') : MJ WR u s B5 l r d S nn W' := by
  obtain ⟨⟨U', h1, h2⟩, h3, h4, h5⟩ := h
  exact ⟨⟨U', (k.block u hu (by simp)).trans h1, h2⟩, (k.block s hs (by simp)).trans h3, (k.block B5 hb (by simp)).trans h4, h5.trans (k.wide (by simp))⟩
def MI (WR : World) (u s B5 : Nat) (l : List Cel) (r : List Nat) (d : Nat → Nat) (f : Nat) (S0 : List Int) (pre : List (Place l.length)) (W : World) : Prop :=
  ∃ S nn, foldM l r (f + 1) (valsP pre) (some (S0, 1)) = some (S, nn) ∧ 1 - 201 * pre.length ≤ nn ∧ nn ≤ 1 + 201 * pre.length ∧ MOk l r S ∧ zeroN S ≤ f ∧ MJ WR u s B5 l r d S nn W
def MX (WR : World) (u s B5 B4 : Nat) (l : List Cel) (r : List Nat) (d : Nat → Nat) (f : Nat) (S0 : List Int) (x : Nat) (c : Code) (pre : List (Place l.length)) (W : World) : Prop :=
  c = .ret ∧ foldM l r (f + 1) (valsP pre) (some (S0, 1)) = none ∧ valsP pre <+: argsL l x ∧ Boxed W B4 4 (.bool false) ∧ (∃ U', RowU W u U' ∧ Roots l.length U' (fun k => r.getD k 0) d) ∧ KpN WR.heap.size [u, s, B5, B4] WR W
theorem MI.own {WR : World} {u s B5 : Nat} {l : List Cel} {r : List Nat} {d : Nat → Nat} {f : Nat} {S0 : List Int} (hu : u < WR.heap.size) (hs : s < WR.heap.size) (hb : B5 < WR.heap.size) : OwnX WR.heap.size none (MI WR u s B5 l r d f S0) :=
  OwnX.low (Nat.le_refl _) (fun _ _ ⟨_, _, _, _, _, _, _, h⟩ => h.kp.size) (fun _ _ _ ⟨S, nn, h1, h2, h3, h4, h5, h⟩ k => ⟨S, nn, h1, h2, h3, h4, h5, h.keep hu hs hb k⟩)
theorem MX.own {WR : World} {u s B5 B4 : Nat} {l : List Cel} {r : List Nat} {d : Nat → Nat} {f : Nat} {S0 : List Int} {x : Nat} (hu : u < WR.heap.size) (hb : B4 < WR.heap.size) (c : Code) : OwnX WR.heap.size none (MX WR u s B5 B4 l r d f S0 x c) :=
  OwnX.low (Nat.le_refl _) (fun _ _ ⟨_, _, _, _, _, h⟩ => h.size) (fun _ _ _ ⟨h0, h1, h2, h3, ⟨U', h4, h5⟩, h6⟩ k => ⟨h0, h1, h2, (k.block B4 hb (by simp)).trans h3, ⟨U', (k.block u hu (by simp)).trans h4, h5⟩, h6.trans (k.wide (by simp))⟩)
theorem foldM_snoc (l : List Cel) (r : List Nat) (f : Nat) (qs : List Nat) (q : Nat) (o : Option (List Int × Int)) : foldM l r f (qs ++ [q]) o = (foldM l r f qs o).bind fun (s', n) => (measureL l r f s' q).map fun s2 => (s2, n + s2.getD (r.getD q 0) 0) := by
  simp [foldM, List.foldl_append]
/-- a result of truth that lies in a cell -/
theorem results_bool {fn : Func} {p : Tmp} (h : fn.results = #[.cell p 4]) (tmps : Array Value) {W : World} {B : Nat} {b : Bool} (hp : tmps.getD p undef = .pointer (some ⟨B, 0, none⟩)) (hb : Boxed W B 4 (.bool b)) : (results fn tmps).run Try.prog W = .ok (.bool b) W := by
  have hc := hb.cell
  have hp' : tmps[p]?.getD undef = .pointer (some ⟨B, 0, none⟩) := by simpa using hp
  have hu := Try.underlying4
  simp [results, h, hp', asAddr, loadVar, go_sem, hc, hu]
/-- one part more -/
theorem MI.next {WR W W2 W3 : World} {u s B5 : Nat} {l : List Cel} {r : List Nat} {d : Nat → Nat} {f : Nat} {S0 : List Int} {pre : List (Place l.length)} {x : Place l.length} {S S2 : List Int} {nn : Int} {U3 : List Int} (hG : Good l) (hj : JoinOk l r []) (hus : u ≠ s) (hb : B5 < WR.heap.size) (hub : u ≠ B5) (hsb : s ≠ B5) (hsl : s < WR.heap.size)
    (h1 : foldM l r (f + 1) (valsP pre) (some (S0, 1)) = some (S, nn)) (h2 : 1 - 201 * pre.length ≤ nn) (h3 : nn ≤ 1 + 201 * pre.length) (h4 : MOk l r S) (h5 : zeroN S ≤ f) (h : MJ WR u s B5 l r d S nn W)
    (hm : measureL l r (f + 1) S x.1 = some S2) (hF : Fr [u, s] W W2) (hS2 : RowU W2 s S2) (hF3 : Fr [u] W2 W3) (hU3 : RowU W3 u U3) (hR3 : Roots l.length U3 (fun k => r.getD k 0) d) :
    MI WR u s B5 l r d f S0 (pre ++ [x]) (W3.setCell ⟨B5, 0, none⟩ (.int .i64 (nn + S2.getD (r.getD x.1 0) 0))) := by
  obtain ⟨m1, m2⟩ := measure_ok hG hj _ _ _ _ x.2 h4 hm
  have hup := m1.ok.up (hj.top x.1 x.2).1
  have hsz := h.kp.size
  have hl : (pre ++ [x]).length = pre.length + 1 := by simp
  refine ⟨S2, nn + S2.getD (r.getD x.1 0) 0, ?_, ?_, ?_, m1.ok, Nat.le_trans (zero_le (m1.ok.len.trans h4.len.symm) m1.keep) h5, ⟨⟨U3, hU3.setOther (Ne.symm hub) _, hR3⟩, ?_, ?_, ?_⟩⟩
  · rw [valsP_append, show valsP [x] = [x.1] from rfl, foldM_snoc, h1, Option.bind_some]
    simp only [hm, Option.map_some]
  · rw [hl]; omega
  · rw [hl]; omega
  · have hS3 : RowU W3 s S2 := (hF3.block s (by have := hF.size; omega) (by simp; exact fun e => hus e.symm)).trans hS2
    exact hS3.setOther (Ne.symm hsb) _
  · have hb3 : Boxed W3 B5 3 (.int .i64 nn) := (hF3.block B5 (by have := hF.size; omega) (by simp; exact fun e => hub e.symm)).trans ((hF.block B5 (by omega) (by simp; exact ⟨fun e => hub e.symm, fun e => hsb e.symm⟩)).trans h.box)
    exact hb3.set _
  · exact ((h.kp.trans ((hF.kpn hsz).wide (by simp))).trans ((hF3.kpn (by have := hF.size; omega)).wide (by simp))).trans (KpN.set _ (.inl (by simp)) _)
end Go.Proofs.Ytlddglajdcednaa

namespace Go.Proofs.Ytlddglajdcednaa

/-! ### a region that draws its order, in a round of a loop over an iterator, at the wide fence: as outside -/
section
variable {l n : Nat} {P : Program} {ops : Array Oper} {Q : Exit → Act → World → Prop} {md : Region.Mode}
theorem wpIn_of_wp_round {o : Oper} (hd : ∀ c, o.op ≠ .defer c) {a : Act} {w : World} {K K' : Act → World → Prop} (hK : ∀ a w, K a w → K' a w) (h : o.wp P a w K Q) : o.wpIn (Fence.wide.inRound l) n P a w K' Q := by
  refine ⟨fun _ _ => trivial, ?_⟩
  rw [Oper.semAt_plain _ _ o hd]
  unfold Oper.wp at h
  generalize (execOp a.eval o).run P w = r at h ⊢
  cases r with
  | ok x w' =>
    cases x with
    | enter f args => exact ⟨fun hh => by simp [Fence.wide] at hh, CallsIn.inRound l (callsIn_wide.2 (Calls.mono h fun e w'' he => by cases e <;> first | exact hK _ _ he | exact he))⟩
    | row row args => exact ⟨fun hh => by simp [Fence.wide] at hh, fun c cs _ => let ⟨v, w'', r, s⟩ := h c cs; ⟨v, w'', hK _ _ r, stepsIn_wide.2 s⟩⟩
    | _ => first | exact hK _ _ h | exact h.elim
  | halt x w' => cases x <;> first | exact h | exact h.elim
theorem any_round (hnd : ∀ (i : Nat) (o : Oper), ops[i]? = some o → ∀ c, o.op ≠ .defer c) (hno : ¬ LetsOut Q) : ∀ (fuel : Nat) (listed : Array Bool) (a : Act) (w : World), wpAny P md ops Q fuel listed a w → wpAnyIn (Fence.wide.inRound l) n P md ops Q fuel listed a w
  | 0, _, _, _, h => h
  | fuel + 1, listed, a, w, h => ⟨h.1, fun i hi => by
    have h2 := h.2 i hi
    unfold wpOp at h2
    unfold wpOpIn
    cases ho : ops[i]? with
    | none => rw [ho] at h2; exact any_round hnd hno fuel _ a w h2
    | some o =>
      rw [ho] at h2
      dsimp only at h2 ⊢
      split at h2
      · rename_i hw
        rw [if_pos hw]
        exact wpIn_of_wp_round (hnd i o ho) (fun a' w' h' => any_round hnd hno fuel _ a' w' h') (h2.resolve_right fun h3 => hno h3.2)
      · rename_i hw
        rw [if_neg hw]
        exact ⟨fun _ _ => trivial, any_round hnd hno fuel _ _ w h2⟩⟩
theorem wpIn_region_round {id : Nat} {a : Act} {w : World} (S : World → Prop) (hm : P.follows .mixedOrders = true) (hnd : ∀ (i : Nat) (o : Oper), ops[i]? = some o → ∀ c, o.op ≠ .defer c) (hno : ¬ LetsOut Q) (hS : S w.drew)
    (h : S w.drew → wpAnyH P .any ops Q S ops.size (Array.replicate ops.size false) a w.drew) : (Code.region id ops true).wpIn (Fence.wide.inRound l) n P Q a w :=
  wpIn_region_any hm (any_round hnd hno _ _ _ _ (wpAny_of_held _ _ _ _ (h hS)))
end
end Go.Proofs.Ytlddglajdcednaa
