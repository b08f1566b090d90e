import Derived.Test.YtlddglajdcednaaZr7
import Derived.OrdersHeld
import Derived.Deep.RegionHeld3
import Derived.Laws.Bits64b
namespace Go.Proofs.Ytlddglajdcednaa
open Go.RowKit

/-- the two names in memory -/
def SB (n : Nat) (w' : World) : Prop := w'.cell? ⟨n, 0, none⟩ = some (.int .i64 3) ∧ w'.cell? ⟨n, 1, none⟩ = some (.string ⟨#[98]⟩) ∧ w'.cell? ⟨n, 2, none⟩ = some (.int .i64 0) ∧ w'.cell? ⟨n + 1, 0, none⟩ = some (.int .i64 3) ∧ w'.cell? ⟨n + 1, 1, none⟩ = some (.string ⟨#[99]⟩) ∧ w'.cell? ⟨n + 1, 2, none⟩ = some (.int .i64 0)
theorem sb_of (w W' : World) (h : Below ((w.alloc (.cells #[.int .i64 3, .string ⟨#[98]⟩, .int .i64 0] 42)).alloc (.cells #[.int .i64 3, .string ⟨#[99]⟩, .int .i64 0] 42)).heap.size ((w.alloc (.cells #[.int .i64 3, .string ⟨#[98]⟩, .int .i64 0] 42)).alloc (.cells #[.int .i64 3, .string ⟨#[99]⟩, .int .i64 0] 42)) W') : SB w.heap.size W' := by
  have k1 : ∀ i v, (#[Value.int .i64 3, .string ⟨#[98]⟩, .int .i64 0])[i]? = some v → W'.cell? ⟨w.heap.size, i, none⟩ = some v := fun i v e => keep (keep ((World.cell?_alloc_at _ _ _ i rfl).trans e) ((Below.refl _ _).new _)) h
  have k2 : ∀ i v, (#[Value.int .i64 3, .string ⟨#[99]⟩, .int .i64 0])[i]? = some v → W'.cell? ⟨w.heap.size + 1, i, none⟩ = some v := fun i v e => by
    refine keep ((World.cell?_alloc_at _ _ _ i (by rw [World.size_alloc])).trans e) h
  exact ⟨k1 0 _ rfl, k1 1 _ rfl, k1 2 _ rfl, k2 0 _ rfl, k2 1 _ rfl, k2 2 _ rfl⟩
theorem Below.from_drew {n : Nat} {w w' : World} (h : Below n w w') : Below n w.drew w' := ⟨h.os, h.tape, h.output, h.size, h.block⟩
theorem bindsN (w : World) (cs : Array Value) (xs : List Bnd) (h : CRows w cs.toList xs) (hl : xs.length ≤ 1000) : Row (w.alloc (.cells cs 39)) (some ⟨w.heap.size, 0, none⟩) xs.length xs :=
  row_new w cs (39, 0) (h.keeps (Keeps.of ((Below.refl _ _).new _))) (by omega)
theorem match_lit (a : Option Addr) (cap : Nat) (a' : Option Addr) (cap' : Nat) (w : World) (p t : List Cel) (hp : Row w a cap p) (ht : Row w a' cap' t) (rp : rightB p = true) (rt : rightB t = true) (L : List Bnd) (b : Bool) (h : matchL p t = L ∧ matchB p t = b) :
    Calls Try.prog 15 #[.slice a p.length cap, .slice a' t.length cap'] w fun e w' => ∃ a2 cap2, e = .returned (.tuple #[.slice a2 L.length cap2, .bool b]) ∧ Row w' a2 cap2 L ∧ Below w.heap.size w w' := by
  obtain ⟨rfl, rfl⟩ := h
  exact match_any a cap a' cap' w p t hp ht rp rt
theorem same_yes (a : Option Addr) (cap : Nat) (a' : Option Addr) (cap' : Nat) (w : World) (xs ys : List Bnd) (hx : Row w a cap xs) (hy : Row w a' cap' ys) (h : xs = ys) :
    Calls Try.prog 17 #[.slice a xs.length cap, .slice a' ys.length cap'] w fun e w' => e = .returned (.bool true) ∧ Below w.heap.size w w' :=
  (same3_any a cap a' cap' w xs ys hx hy).mono fun _ _ ⟨h1, h2⟩ => ⟨by rw [h1, decide_eq_true h], h2⟩
theorem var_lit (a : Option Addr) (cap : Nat) (a' : Option Addr) (cap' : Nat) (w : World) (xs ys : List Cel) (hx : Row w a cap xs) (hy : Row w a' cap' ys) (h1 : 0 < xs.length) (h2 : 0 < ys.length) (hl : xs.length ≤ 1000000) (hl2 : ys.length ≤ 1000000) (b : Bool) (h : decide (numL xs = numL ys) = b) :
    Calls Try.prog 18 #[.slice a xs.length cap, .slice a' ys.length cap'] w fun e w' => e = .returned (.bool b) ∧ Below w.heap.size w w' := by
  subst h
  exact variant_any a cap a' cap' w xs ys hx hy h1 h2 hl hl2
set_option maxRecDepth 100000 in
set_option maxHeartbeats 16000000 in
theorem head_any (w : World) : Calls Try.prog 11 #[] w fun e w' => e = .returned (.bool true) ∧ Below w.heap.size w w' := by
  go_enter Try.func11, Try.ntmps11
  go_wp2_with fail
  obtain ⟨W0, hW0⟩ : ∃ W, ((w.alloc (.cells #[.int .i64 3, .string ⟨#[98]⟩, .int .i64 0] 42)).alloc (.cells #[.int .i64 3, .string ⟨#[99]⟩, .int .i64 0] 42)) = W := ⟨_, rfl⟩
  have hS0 : ∀ W', Below W0.heap.size W0 W' → SB w.heap.size W' := by
    subst hW0
    exact fun W' h => sb_of w W' h
  have hb0 : Below w.heap.size w W0 := by subst hW0; exact ((Below.refl _ _).new _).new _
  have HS := mkHid hS0
  clear hS0
  rw [hW0]
  clear hW0
  have HB0 := mkHid hb0
  clear hb0
  have hc0 := (Below.refl W0.heap.size W0).drew
  refine wp_region_noPanic ?_
  refine wp_region_held_drew (S := SB w.heap.size) (by kernel_rfl) (HS.out _ hc0) (fun hSd => ?_)
  refine wpAnyH_take (i := 1) (oi := _) (v := ?_) rfl (by kernel_rfl) (by kernel_rfl) (by kernel_rfl) (fun _ _ _ h => h) (Or.inl ⟨by rfl, ?_⟩) (by assumption) ?_
  rotate_left
  · (intro w' hSw; obtain ⟨q0, q1, q2, q3, q4, q5⟩ := hSw; go_simp; try with_reducible rfl)
  (try simp only [Act.put, List.setIfInBounds_toArray, List.set_cons_zero, List.set_cons_succ])
  refine wpAnyH_take (i := 4) (oi := _) (v := ?_) rfl (by kernel_rfl) (by kernel_rfl) (by kernel_rfl) (fun _ _ _ h => h) (Or.inl ⟨by rfl, ?_⟩) (by assumption) ?_
  rotate_left
  · (intro w' hSw; obtain ⟨q0, q1, q2, q3, q4, q5⟩ := hSw; go_simp; try with_reducible rfl)
  (try simp only [Act.put, List.setIfInBounds_toArray, List.set_cons_zero, List.set_cons_succ])
  refine wpAnyH_ready (rs := [0]) (by kernel_rfl) (by simp) ?_
  refine AllReadyH.cons (o := _) rfl (fun K hK => ?_) AllReadyH.nil
  go_simp
  refine (v3_any 0 _).mono ?_
  rintro e W1 ⟨rfl, hb1⟩
  have hc1 := hc0.then hb1
  try dsimp only
  refine hK.out _ _ (HS.out _ hc1) (fun hS1 => ?_)
  clear hK K hSd
  (try simp only [Act.put, List.setIfInBounds_toArray, List.set_cons_zero, List.set_cons_succ])
  have q_p : Row (W1.alloc (.cells #[.int .i64 1, .string ⟨#[]⟩, .int .i64 0, .int .i64 3, .string ⟨#[98]⟩, .int .i64 0] 42)) (some ⟨W1.heap.size, 0, none⟩) 2 [vC 0, bC] := by
    have h := cellsN W1 [vC 0, bC] (fits2 (vC_fit 0 (by omega)) bC_fit) (by simp)
    exact h
  have hb2 : Below W1.heap.size W1 (W1.alloc (.cells #[.int .i64 1, .string ⟨#[]⟩, .int .i64 0, .int .i64 3, .string ⟨#[98]⟩, .int .i64 0] 42)) := (Below.refl _ _).new _
  have hc2 := hc1.then hb2
  have r_p := q_p
  clear q_p
  refine wpAnyH_ready (rs := [2]) (by kernel_rfl) (by simp) ?_
  refine AllReadyH.cons (o := _) rfl (fun K hK => ?_) AllReadyH.nil
  go_simp
  try dsimp only
  refine hK.out _ _ (HS.out _ hc2) (fun hS2 => ?_)
  clear hK K hS1
  (try simp only [Act.put, List.setIfInBounds_toArray, List.set_cons_zero, List.set_cons_succ])
  refine wpAnyH_ready (rs := [3]) (by kernel_rfl) (by simp) ?_
  refine AllReadyH.cons (o := _) rfl (fun K hK => ?_) AllReadyH.nil
  go_simp
  refine (f_two _ _ _ (vC 0) (bC) r_p).mono ?_
  rintro e W3 ⟨a_A, c_A, rfl, r_A, hb3⟩
  clear r_p
  have hc3 := hc2.then hb3
  try dsimp only
  refine hK.out _ _ (HS.out _ hc3) (fun hS3 => ?_)
  clear hK K hS2
  (try simp only [Act.put, List.setIfInBounds_toArray, List.set_cons_zero, List.set_cons_succ])
  refine wpAnyH_ready (rs := [5]) (by kernel_rfl) (by simp) ?_
  refine AllReadyH.cons (o := _) rfl (fun K hK => ?_) AllReadyH.nil
  go_simp
  refine (v3_any 1 _).mono ?_
  rintro e W4 ⟨rfl, hb4⟩
  replace r_A := r_A.below hb4
  have hc4 := hc3.then hb4
  try dsimp only
  refine hK.out _ _ (HS.out _ hc4) (fun hS4 => ?_)
  clear hK K hS3
  (try simp only [Act.put, List.setIfInBounds_toArray, List.set_cons_zero, List.set_cons_succ])
  have q_q : Row (W4.alloc (.cells #[.int .i64 3, .string ⟨#[99]⟩, .int .i64 0, .int .i64 1, .string ⟨#[]⟩, .int .i64 1] 42)) (some ⟨W4.heap.size, 0, none⟩) 2 [cC, vC 1] := by
    have h := cellsN W4 [cC, vC 1] (fits2 cC_fit (vC_fit 1 (by omega))) (by simp)
    exact h
  have hb5 : Below W4.heap.size W4 (W4.alloc (.cells #[.int .i64 3, .string ⟨#[99]⟩, .int .i64 0, .int .i64 1, .string ⟨#[]⟩, .int .i64 1] 42)) := (Below.refl _ _).new _
  replace r_A := r_A.below hb5
  have hc5 := hc4.then hb5
  have r_q := q_q
  clear q_q
  refine wpAnyH_ready (rs := [6]) (by kernel_rfl) (by simp) ?_
  refine AllReadyH.cons (o := _) rfl (fun K hK => ?_) AllReadyH.nil
  go_simp
  try dsimp only
  refine hK.out _ _ (HS.out _ hc5) (fun hS5 => ?_)
  clear hK K hS4
  (try simp only [Act.put, List.setIfInBounds_toArray, List.set_cons_zero, List.set_cons_succ])
  refine wpAnyH_ready (rs := [7]) (by kernel_rfl) (by simp) ?_
  refine AllReadyH.cons (o := _) rfl (fun K hK => ?_) AllReadyH.nil
  go_simp
  refine (f_two _ _ _ (cC) (vC 1) r_q).mono ?_
  rintro e W6 ⟨a_B, c_B, rfl, r_B, hb6⟩
  clear r_q
  replace r_A := r_A.below hb6
  have hc6 := hc5.then hb6
  try dsimp only
  refine hK.out _ _ (HS.out _ hc6) (fun hS6 => ?_)
  clear hK K hS5
  (try simp only [Act.put, List.setIfInBounds_toArray, List.set_cons_zero, List.set_cons_succ])
  refine wpAnyH_ready (rs := [8]) (by kernel_rfl) (by simp) ?_
  refine AllReadyH.cons (o := _) rfl (fun K hK => ?_) AllReadyH.nil
  go_simp
  refine (mgu_some _ _ _ _ _ [fnC 2, vC 0, bC] [fnC 2, cC, vC 1] r_A r_B (by decide +kernel) (by decide +kernel) _ hd_m1).mono ?_
  rintro e W7 ⟨ax, cx, rfl, rx, hb7⟩
  clear r_A
  clear r_B
  have hc7 := hc6.then hb7
  have r_x := rx
  clear rx
  try dsimp only
  refine hK.out _ _ (HS.out _ hc7) (fun hS7 => ?_)
  clear hK K hS6
  (try simp only [Act.put, List.setIfInBounds_toArray, List.set_cons_zero, List.set_cons_succ])
  refine wpAnyH_take (i := 9) (oi := _) (v := ?_) rfl (by kernel_rfl) (by kernel_rfl) (by kernel_rfl) (fun _ _ _ h => h) (Or.inl ⟨by rfl, ?_⟩) (by assumption) ?_
  rotate_left
  · (intro w' hSw; obtain ⟨q0, q1, q2, q3, q4, q5⟩ := hSw; go_simp; try with_reducible rfl)
  (try simp only [Act.put, List.setIfInBounds_toArray, List.set_cons_zero, List.set_cons_succ])
  refine wpAnyH_take (i := 10) (oi := _) (v := ?_) rfl (by kernel_rfl) (by kernel_rfl) (by kernel_rfl) (fun _ _ _ h => h) (Or.inl ⟨by rfl, ?_⟩) (by assumption) ?_
  rotate_left
  · (intro w' hSw; obtain ⟨q0, q1, q2, q3, q4, q5⟩ := hSw; go_simp; try with_reducible rfl)
  (try simp only [Act.put, List.setIfInBounds_toArray, List.set_cons_zero, List.set_cons_succ])
  refine wpAnyH_take (i := 11) (oi := _) (v := ?_) rfl (by kernel_rfl) (by kernel_rfl) (by kernel_rfl) (fun _ _ _ h => h) (Or.inl ⟨by rfl, ?_⟩) (by assumption) ?_
  rotate_left
  · (intro w' hSw; obtain ⟨q0, q1, q2, q3, q4, q5⟩ := hSw; go_simp; try with_reducible rfl)
  (try simp only [Act.put, List.setIfInBounds_toArray, List.set_cons_zero, List.set_cons_succ])
  refine wpAnyH_take (i := 12) (oi := _) (v := ?_) rfl (by kernel_rfl) (by kernel_rfl) (by kernel_rfl) (fun _ _ _ h => h) (Or.inl ⟨by rfl, ?_⟩) (by assumption) ?_
  rotate_left
  · (intro w' hSw; obtain ⟨q0, q1, q2, q3, q4, q5⟩ := hSw; go_simp; try with_reducible rfl)
  (try simp only [Act.put, List.setIfInBounds_toArray, List.set_cons_zero, List.set_cons_succ])
  refine wpAnyH_take (i := 13) (oi := _) (v := ?_) rfl (by kernel_rfl) (by kernel_rfl) (by kernel_rfl) (fun _ _ _ h => h) (Or.inl ⟨by rfl, ?_⟩) (by assumption) ?_
  rotate_left
  · (intro w' hSw; obtain ⟨q0, q1, q2, q3, q4, q5⟩ := hSw; go_simp; try with_reducible rfl)
  (try simp only [Act.put, List.setIfInBounds_toArray, List.set_cons_zero, List.set_cons_succ])
  refine wpAnyH_done (by kernel_rfl) (NoPanic.normal ?_) _
  clear hS7
  go_wp2_with fail
  refine (v3_any 1 _).mono ?_
  rintro e W8 ⟨rfl, hb8⟩
  replace r_x := r_x.below hb8
  have hc8 := hc7.then hb8
  go_wp2_with fail
  refine (v3_any 0 _).mono ?_
  rintro e W9 ⟨rfl, hb9⟩
  replace r_x := r_x.below hb9
  have hc9 := hc8.then hb9
  have q_p : Row (W9.alloc (.cells #[.int .i64 1, .string ⟨#[]⟩, .int .i64 1, .int .i64 1, .string ⟨#[]⟩, .int .i64 0] 42)) (some ⟨W9.heap.size, 0, none⟩) 2 [vC 1, vC 0] := by
    have h := cellsN W9 [vC 1, vC 0] (fits2 (vC_fit 1 (by omega)) (vC_fit 0 (by omega))) (by simp)
    exact h
  have hb10 : Below W9.heap.size W9 (W9.alloc (.cells #[.int .i64 1, .string ⟨#[]⟩, .int .i64 1, .int .i64 1, .string ⟨#[]⟩, .int .i64 0] 42)) := (Below.refl _ _).new _
  replace r_x := r_x.below hb10
  have hc10 := hc9.then hb10
  have r_p := q_p
  clear q_p
  go_wp2_with fail
  refine (f_two _ _ _ (vC 1) (vC 0) r_p).mono ?_
  rintro e W11 ⟨a_A, c_A, rfl, r_A, hb11⟩
  clear r_p
  replace r_x := r_x.below hb11
  have hc11 := hc10.then hb11
  go_wp2_with fail
  refine (v3_any 0 _).mono ?_
  rintro e W12 ⟨rfl, hb12⟩
  replace r_x := r_x.below hb12
  replace r_A := r_A.below hb12
  have hc12 := hc11.then hb12
  go_wp2_with fail
  refine (v3_any 1 _).mono ?_
  rintro e W13 ⟨rfl, hb13⟩
  replace r_x := r_x.below hb13
  replace r_A := r_A.below hb13
  have hc13 := hc12.then hb13
  have q_q : Row (W13.alloc (.cells #[.int .i64 1, .string ⟨#[]⟩, .int .i64 0, .int .i64 1, .string ⟨#[]⟩, .int .i64 1] 42)) (some ⟨W13.heap.size, 0, none⟩) 2 [vC 0, vC 1] := by
    have h := cellsN W13 [vC 0, vC 1] (fits2 (vC_fit 0 (by omega)) (vC_fit 1 (by omega))) (by simp)
    exact h
  have hb14 : Below W13.heap.size W13 (W13.alloc (.cells #[.int .i64 1, .string ⟨#[]⟩, .int .i64 0, .int .i64 1, .string ⟨#[]⟩, .int .i64 1] 42)) := (Below.refl _ _).new _
  replace r_x := r_x.below hb14
  replace r_A := r_A.below hb14
  have hc14 := hc13.then hb14
  have r_q := q_q
  clear q_q
  go_wp2_with fail
  refine (f_two _ _ _ (vC 0) (vC 1) r_q).mono ?_
  rintro e W15 ⟨a_B, c_B, rfl, r_B, hb15⟩
  clear r_q
  replace r_x := r_x.below hb15
  replace r_A := r_A.below hb15
  have hc15 := hc14.then hb15
  go_wp2_with fail
  refine (mgu_some _ _ _ _ _ [fnC 2, vC 1, vC 0] [fnC 2, vC 0, vC 1] r_A r_B (by decide +kernel) (by decide +kernel) _ hd_m2).mono ?_
  rintro e W16 ⟨ay, cy, rfl, r_y, hb16⟩
  clear r_A
  clear r_B
  replace r_x := r_x.below hb16
  have hc16 := hc15.then hb16
  go_wp2_with fail
  refine (v3_any 0 _).mono ?_
  rintro e W17 ⟨rfl, hb17⟩
  replace r_x := r_x.below hb17
  replace r_y := r_y.below hb17
  have hc17 := hc16.then hb17
  have q_p : Row (W17.alloc (.cells #[.int .i64 1, .string ⟨#[]⟩, .int .i64 0] 42)) (some ⟨W17.heap.size, 0, none⟩) 1 [vC 0] := by
    have h := cellsN W17 [vC 0] (fits1 (vC_fit 0 (by omega))) (by simp)
    exact h
  have hb18 : Below W17.heap.size W17 (W17.alloc (.cells #[.int .i64 1, .string ⟨#[]⟩, .int .i64 0] 42)) := (Below.refl _ _).new _
  replace r_x := r_x.below hb18
  replace r_y := r_y.below hb18
  have hc18 := hc17.then hb18
  have r_p := q_p
  clear q_p
  go_wp2_with fail
  refine (v3_any 0 _).mono ?_
  rintro e W19 ⟨rfl, hb19⟩
  replace r_x := r_x.below hb19
  replace r_y := r_y.below hb19
  replace r_p := r_p.below hb19
  have hc19 := hc18.then hb19
  have q_q : Row (W19.alloc (.cells #[.int .i64 1, .string ⟨#[]⟩, .int .i64 0] 42)) (some ⟨W19.heap.size, 0, none⟩) 1 [vC 0] := by
    have h := cellsN W19 [vC 0] (fits1 (vC_fit 0 (by omega))) (by simp)
    exact h
  have hb20 : Below W19.heap.size W19 (W19.alloc (.cells #[.int .i64 1, .string ⟨#[]⟩, .int .i64 0] 42)) := (Below.refl _ _).new _
  replace r_x := r_x.below hb20
  replace r_y := r_y.below hb20
  replace r_p := r_p.below hb20
  have hc20 := hc19.then hb20
  have r_q := q_q
  clear q_q
  go_wp2_with fail
  refine (f_one _ _ _ (vC 0) r_q).mono ?_
  rintro e W21 ⟨a_B, c_B, rfl, r_B, hb21⟩
  clear r_q
  replace r_x := r_x.below hb21
  replace r_y := r_y.below hb21
  replace r_p := r_p.below hb21
  have hc21 := hc20.then hb21
  go_wp2_with fail
  refine (mgu_none _ _ _ _ _ [vC 0] [fnC 1, vC 0] r_p r_B (by decide +kernel) (by decide +kernel) hd_m3).mono ?_
  rintro e W22 ⟨rfl, hb22⟩
  clear r_p
  clear r_B
  replace r_x := r_x.below hb22
  replace r_y := r_y.below hb22
  have hc22 := hc21.then hb22
  go_wp2_with fail
  generalize hA : Act.mk _ _ = A0
  refine Code.wp_mono (Q := fun ev A' W' => ev = .normal ∧ ∃ (e55 e56 e57 e58 e59 e60 e61 e54 e62 e63 e9 : Value), A' = (((((((((((A0.put (some 55) e55).put (some 56) e56).put (some 57) e57).put (some 58) e58).put (some 59) e59).put (some 60) e60).put (some 61) e61).put (some 54) e54).put (some 62) e62).put (some 63) e63).put (some 9) e9).put (some 10) (.int .i64 3) ∧ Below W22.heap.size W22 W') ?_ ?_
  rotate_left
  · subst hA
    have hcr := (Below.refl W22.heap.size W22).drew
    refine wp_region_noPanic ?_
    refine wp_region_held_drew (S := SB w.heap.size) (by kernel_rfl) (HS.out _ (hc22.then hcr)) (fun hSd => ?_)
    refine wpAnyH_take (i := 0) (oi := _) (v := ?_) rfl (by kernel_rfl) (by kernel_rfl) (by kernel_rfl) (fun _ _ _ h => h) (Or.inl ⟨by rfl, ?_⟩) (by assumption) ?_
    rotate_left
    · (intro w' hSw; obtain ⟨q0, q1, q2, q3, q4, q5⟩ := hSw; go_simp; try with_reducible rfl)
    (try simp only [Act.put, List.setIfInBounds_toArray, List.set_cons_zero, List.set_cons_succ])
    refine wpAnyH_take (i := 3) (oi := _) (v := ?_) rfl (by kernel_rfl) (by kernel_rfl) (by kernel_rfl) (fun _ _ _ h => h) (Or.inl ⟨by rfl, ?_⟩) (by assumption) ?_
    rotate_left
    · (intro w' hSw; obtain ⟨q0, q1, q2, q3, q4, q5⟩ := hSw; go_simp; try with_reducible rfl)
    (try simp only [Act.put, List.setIfInBounds_toArray, List.set_cons_zero, List.set_cons_succ])
    refine wpAnyH_ready (rs := [1, 4]) (by kernel_rfl) (by simp) ?_
    refine AllReadyH.cons (o := _) rfl (fun K hK => ?_) ?_
    · skip
      have q_b5 : Row (W22.alloc (.cells #[.int .i64 3, .string ⟨#[98]⟩, .int .i64 0] 42)).drew (some ⟨W22.heap.size, 0, none⟩) 1 [bC] := by
        have h := (cellsN W22 [bC] (fits1 bC_fit) (by simp)).below ((Below.refl _ _).drew)
        exact h
      have hb23 : Below W22.drew.heap.size W22.drew (W22.alloc (.cells #[.int .i64 3, .string ⟨#[98]⟩, .int .i64 0] 42)).drew := Below.from_drew (((Below.refl W22.heap.size W22).new (.cells #[.int .i64 3, .string ⟨#[98]⟩, .int .i64 0] 42)).drew)
      have hc23 := hcr.then hb23
      have r_b5 := q_b5
      clear q_b5
      go_simp
      try dsimp only
      refine hK.out _ _ (HS.out _ (hc22.then hc23)) (fun hS23 => ?_)
      clear hK K
      (try simp only [Act.put, List.setIfInBounds_toArray, List.set_cons_zero, List.set_cons_succ])
      refine wpAnyH_ready (rs := [2, 4]) (by kernel_rfl) (by simp) ?_
      refine AllReadyH.cons (o := _) rfl (fun K hK => ?_) ?_
      · skip
        go_simp
        refine (f_one _ _ _ (bC) r_b5).mono ?_
        rintro e W24 ⟨a_F, c_F, rfl, r_F, hb24⟩
        clear r_b5
        have hc24 := hc23.then hb24
        try dsimp only
        refine hK.out _ _ (HS.out _ (hc22.then hc24)) (fun hS24 => ?_)
        clear hK K
        (try simp only [Act.put, List.setIfInBounds_toArray, List.set_cons_zero, List.set_cons_succ])
        refine wpAnyH_ready (rs := [4]) (by kernel_rfl) (by simp) ?_
        refine AllReadyH.cons (o := _) rfl (fun K hK => ?_) AllReadyH.nil
        have q_c5 : Row (W24.alloc (.cells #[.int .i64 3, .string ⟨#[99]⟩, .int .i64 0] 42)) (some ⟨W24.heap.size, 0, none⟩) 1 [cC] := by
          have h := cellsN W24 [cC] (fits1 cC_fit) (by simp)
          exact h
        have hb25 : Below W24.heap.size W24 (W24.alloc (.cells #[.int .i64 3, .string ⟨#[99]⟩, .int .i64 0] 42)) := (Below.refl _ _).new _
        replace r_F := r_F.below hb25
        have hc25 := hc24.then hb25
        have r_c5 := q_c5
        clear q_c5
        go_simp
        try dsimp only
        refine hK.out _ _ (HS.out _ (hc22.then hc25)) (fun hS25 => ?_)
        clear hK K
        (try simp only [Act.put, List.setIfInBounds_toArray, List.set_cons_zero, List.set_cons_succ])
        refine wpAnyH_ready (rs := [5]) (by kernel_rfl) (by simp) ?_
        refine AllReadyH.cons (o := _) rfl (fun K hK => ?_) AllReadyH.nil
        go_simp
        refine (f_one _ _ _ (cC) r_c5).mono ?_
        rintro e W26 ⟨a_H, c_H, rfl, r_H, hb26⟩
        clear r_c5
        replace r_F := r_F.below hb26
        have hc26 := hc25.then hb26
        try dsimp only
        refine hK.out _ _ (HS.out _ (hc22.then hc26)) (fun hS26 => ?_)
        clear hK K
        (try simp only [Act.put, List.setIfInBounds_toArray, List.set_cons_zero, List.set_cons_succ])
        refine wpAnyH_ready (rs := [6]) (by kernel_rfl) (by simp) ?_
        refine AllReadyH.cons (o := _) rfl (fun K hK => ?_) AllReadyH.nil
        go_simp
        refine (mgu_none _ _ _ _ _ [fnC 1, bC] [fnC 1, cC] r_F r_H (by decide +kernel) (by decide +kernel) hd_m4).mono ?_
        rintro e W27 ⟨rfl, hb27⟩
        clear r_F
        clear r_H
        have hc27 := hc26.then hb27
        try dsimp only
        refine hK.out _ _ (HS.out _ (hc22.then hc27)) (fun hS27 => ?_)
        clear hK K
        (try simp only [Act.put, List.setIfInBounds_toArray, List.set_cons_zero, List.set_cons_succ])
        refine wpAnyH_take (i := 7) (oi := _) (v := ?_) rfl (by kernel_rfl) (by kernel_rfl) (by kernel_rfl) (fun _ _ _ h => h) (Or.inl ⟨by rfl, ?_⟩) (by assumption) ?_
        rotate_left
        · (intro w' hSw; obtain ⟨q0, q1, q2, q3, q4, q5⟩ := hSw; go_simp; try with_reducible rfl)
        (try simp only [Act.put, List.setIfInBounds_toArray, List.set_cons_zero, List.set_cons_succ])
        refine wpAnyH_take (i := 8) (oi := _) (v := ?_) rfl (by kernel_rfl) (by kernel_rfl) (by kernel_rfl) (fun _ _ _ h => h) (Or.inl ⟨by rfl, ?_⟩) (by assumption) ?_
        rotate_left
        · (intro w' hSw; obtain ⟨q0, q1, q2, q3, q4, q5⟩ := hSw; go_simp; try with_reducible rfl)
        (try simp only [Act.put, List.setIfInBounds_toArray, List.set_cons_zero, List.set_cons_succ])
        refine wpAnyH_take (i := 9) (oi := _) (v := ?_) rfl (by kernel_rfl) (by kernel_rfl) (by kernel_rfl) (fun _ _ _ h => h) (Or.inl ⟨by rfl, ?_⟩) (by assumption) ?_
        rotate_left
        · (intro w' hSw; obtain ⟨q0, q1, q2, q3, q4, q5⟩ := hSw; go_simp; try with_reducible rfl)
        (try simp only [Act.put, List.setIfInBounds_toArray, List.set_cons_zero, List.set_cons_succ])
        refine wpAnyH_take (i := 10) (oi := _) (v := ?_) rfl (by kernel_rfl) (by kernel_rfl) (by kernel_rfl) (fun _ _ _ h => h) (Or.inl ⟨by rfl, ?_⟩) (by assumption) ?_
        rotate_left
        · (intro w' hSw; obtain ⟨q0, q1, q2, q3, q4, q5⟩ := hSw; go_simp; try with_reducible rfl)
        (try simp only [Act.put, List.setIfInBounds_toArray, List.set_cons_zero, List.set_cons_succ])
        refine wpAnyH_take (i := 11) (oi := _) (v := ?_) rfl (by kernel_rfl) (by kernel_rfl) (by kernel_rfl) (fun _ _ _ h => h) (Or.inl ⟨by rfl, ?_⟩) (by assumption) ?_
        rotate_left
        · (intro w' hSw; obtain ⟨q0, q1, q2, q3, q4, q5⟩ := hSw; go_simp; try with_reducible rfl)
        (try simp only [Act.put, List.setIfInBounds_toArray, List.set_cons_zero, List.set_cons_succ])
        refine wpAnyH_done (by kernel_rfl) (NoPanic.normal ?_) _
        refine ⟨rfl, ?_⟩
        (repeat apply Exists.intro)
        exact ⟨rfl, hc27⟩
      · refine AllReadyH.cons (o := _) rfl (fun K hK => ?_) AllReadyH.nil
        have q_c5 : Row ((W22.alloc (.cells #[.int .i64 3, .string ⟨#[98]⟩, .int .i64 0] 42)).alloc (.cells #[.int .i64 3, .string ⟨#[99]⟩, .int .i64 0] 42)).drew (some ⟨W22.heap.size + 1, 0, none⟩) 1 [cC] := by
          have h := (cellsN (W22.alloc (.cells #[.int .i64 3, .string ⟨#[98]⟩, .int .i64 0] 42)) [cC] (fits1 cC_fit) (by simp)).below ((Below.refl _ _).drew)
          simp only [World.size_alloc] at h
          exact h
        have hb28 : Below (W22.alloc (.cells #[.int .i64 3, .string ⟨#[98]⟩, .int .i64 0] 42)).drew.heap.size (W22.alloc (.cells #[.int .i64 3, .string ⟨#[98]⟩, .int .i64 0] 42)).drew ((W22.alloc (.cells #[.int .i64 3, .string ⟨#[98]⟩, .int .i64 0] 42)).alloc (.cells #[.int .i64 3, .string ⟨#[99]⟩, .int .i64 0] 42)).drew := Below.from_drew (((Below.refl (W22.alloc (.cells #[.int .i64 3, .string ⟨#[98]⟩, .int .i64 0] 42)).heap.size (W22.alloc (.cells #[.int .i64 3, .string ⟨#[98]⟩, .int .i64 0] 42))).new (.cells #[.int .i64 3, .string ⟨#[99]⟩, .int .i64 0] 42)).drew)
        replace r_b5 := r_b5.below hb28
        have hc28 := hc23.then hb28
        have r_c5 := q_c5
        clear q_c5
        go_simp
        try dsimp only
        refine hK.out _ _ (HS.out _ (hc22.then hc28)) (fun hS28 => ?_)
        clear hK K
        (try simp only [Act.put, List.setIfInBounds_toArray, List.set_cons_zero, List.set_cons_succ])
        refine wpAnyH_ready (rs := [2]) (by kernel_rfl) (by simp) ?_
        refine AllReadyH.cons (o := _) rfl (fun K hK => ?_) AllReadyH.nil
        go_simp
        refine (f_one _ _ _ (bC) r_b5).mono ?_
        rintro e W29 ⟨a_F, c_F, rfl, r_F, hb29⟩
        clear r_b5
        replace r_c5 := r_c5.below hb29
        have hc29 := hc28.then hb29
        try dsimp only
        refine hK.out _ _ (HS.out _ (hc22.then hc29)) (fun hS29 => ?_)
        clear hK K
        (try simp only [Act.put, List.setIfInBounds_toArray, List.set_cons_zero, List.set_cons_succ])
        refine wpAnyH_ready (rs := [5]) (by kernel_rfl) (by simp) ?_
        refine AllReadyH.cons (o := _) rfl (fun K hK => ?_) AllReadyH.nil
        go_simp
        refine (f_one _ _ _ (cC) r_c5).mono ?_
        rintro e W30 ⟨a_H, c_H, rfl, r_H, hb30⟩
        clear r_c5
        replace r_F := r_F.below hb30
        have hc30 := hc29.then hb30
        try dsimp only
        refine hK.out _ _ (HS.out _ (hc22.then hc30)) (fun hS30 => ?_)
        clear hK K
        (try simp only [Act.put, List.setIfInBounds_toArray, List.set_cons_zero, List.set_cons_succ])
        refine wpAnyH_ready (rs := [6]) (by kernel_rfl) (by simp) ?_
        refine AllReadyH.cons (o := _) rfl (fun K hK => ?_) AllReadyH.nil
        go_simp
        refine (mgu_none _ _ _ _ _ [fnC 1, bC] [fnC 1, cC] r_F r_H (by decide +kernel) (by decide +kernel) hd_m4).mono ?_
        rintro e W31 ⟨rfl, hb31⟩
        clear r_F
        clear r_H
        have hc31 := hc30.then hb31
        try dsimp only
        refine hK.out _ _ (HS.out _ (hc22.then hc31)) (fun hS31 => ?_)
        clear hK K
        (try simp only [Act.put, List.setIfInBounds_toArray, List.set_cons_zero, List.set_cons_succ])
        refine wpAnyH_take (i := 7) (oi := _) (v := ?_) rfl (by kernel_rfl) (by kernel_rfl) (by kernel_rfl) (fun _ _ _ h => h) (Or.inl ⟨by rfl, ?_⟩) (by assumption) ?_
        rotate_left
        · (intro w' hSw; obtain ⟨q0, q1, q2, q3, q4, q5⟩ := hSw; go_simp; try with_reducible rfl)
        (try simp only [Act.put, List.setIfInBounds_toArray, List.set_cons_zero, List.set_cons_succ])
        refine wpAnyH_take (i := 8) (oi := _) (v := ?_) rfl (by kernel_rfl) (by kernel_rfl) (by kernel_rfl) (fun _ _ _ h => h) (Or.inl ⟨by rfl, ?_⟩) (by assumption) ?_
        rotate_left
        · (intro w' hSw; obtain ⟨q0, q1, q2, q3, q4, q5⟩ := hSw; go_simp; try with_reducible rfl)
        (try simp only [Act.put, List.setIfInBounds_toArray, List.set_cons_zero, List.set_cons_succ])
        refine wpAnyH_take (i := 9) (oi := _) (v := ?_) rfl (by kernel_rfl) (by kernel_rfl) (by kernel_rfl) (fun _ _ _ h => h) (Or.inl ⟨by rfl, ?_⟩) (by assumption) ?_
        rotate_left
        · (intro w' hSw; obtain ⟨q0, q1, q2, q3, q4, q5⟩ := hSw; go_simp; try with_reducible rfl)
        (try simp only [Act.put, List.setIfInBounds_toArray, List.set_cons_zero, List.set_cons_succ])
        refine wpAnyH_take (i := 10) (oi := _) (v := ?_) rfl (by kernel_rfl) (by kernel_rfl) (by kernel_rfl) (fun _ _ _ h => h) (Or.inl ⟨by rfl, ?_⟩) (by assumption) ?_
        rotate_left
        · (intro w' hSw; obtain ⟨q0, q1, q2, q3, q4, q5⟩ := hSw; go_simp; try with_reducible rfl)
        (try simp only [Act.put, List.setIfInBounds_toArray, List.set_cons_zero, List.set_cons_succ])
        refine wpAnyH_take (i := 11) (oi := _) (v := ?_) rfl (by kernel_rfl) (by kernel_rfl) (by kernel_rfl) (fun _ _ _ h => h) (Or.inl ⟨by rfl, ?_⟩) (by assumption) ?_
        rotate_left
        · (intro w' hSw; obtain ⟨q0, q1, q2, q3, q4, q5⟩ := hSw; go_simp; try with_reducible rfl)
        (try simp only [Act.put, List.setIfInBounds_toArray, List.set_cons_zero, List.set_cons_succ])
        refine wpAnyH_done (by kernel_rfl) (NoPanic.normal ?_) _
        refine ⟨rfl, ?_⟩
        (repeat apply Exists.intro)
        exact ⟨rfl, hc31⟩
    · refine AllReadyH.cons (o := _) rfl (fun K hK => ?_) AllReadyH.nil
      have q_c5 : Row (W22.alloc (.cells #[.int .i64 3, .string ⟨#[99]⟩, .int .i64 0] 42)).drew (some ⟨W22.heap.size, 0, none⟩) 1 [cC] := by
        have h := (cellsN W22 [cC] (fits1 cC_fit) (by simp)).below ((Below.refl _ _).drew)
        exact h
      have hb32 : Below W22.drew.heap.size W22.drew (W22.alloc (.cells #[.int .i64 3, .string ⟨#[99]⟩, .int .i64 0] 42)).drew := Below.from_drew (((Below.refl W22.heap.size W22).new (.cells #[.int .i64 3, .string ⟨#[99]⟩, .int .i64 0] 42)).drew)
      have hc32 := hcr.then hb32
      have r_c5 := q_c5
      clear q_c5
      go_simp
      try dsimp only
      refine hK.out _ _ (HS.out _ (hc22.then hc32)) (fun hS32 => ?_)
      clear hK K
      (try simp only [Act.put, List.setIfInBounds_toArray, List.set_cons_zero, List.set_cons_succ])
      refine wpAnyH_ready (rs := [1]) (by kernel_rfl) (by simp) ?_
      refine AllReadyH.cons (o := _) rfl (fun K hK => ?_) AllReadyH.nil
      have q_b5 : Row ((W22.alloc (.cells #[.int .i64 3, .string ⟨#[99]⟩, .int .i64 0] 42)).alloc (.cells #[.int .i64 3, .string ⟨#[98]⟩, .int .i64 0] 42)).drew (some ⟨W22.heap.size + 1, 0, none⟩) 1 [bC] := by
        have h := (cellsN (W22.alloc (.cells #[.int .i64 3, .string ⟨#[99]⟩, .int .i64 0] 42)) [bC] (fits1 bC_fit) (by simp)).below ((Below.refl _ _).drew)
        simp only [World.size_alloc] at h
        exact h
      have hb33 : Below (W22.alloc (.cells #[.int .i64 3, .string ⟨#[99]⟩, .int .i64 0] 42)).drew.heap.size (W22.alloc (.cells #[.int .i64 3, .string ⟨#[99]⟩, .int .i64 0] 42)).drew ((W22.alloc (.cells #[.int .i64 3, .string ⟨#[99]⟩, .int .i64 0] 42)).alloc (.cells #[.int .i64 3, .string ⟨#[98]⟩, .int .i64 0] 42)).drew := Below.from_drew (((Below.refl (W22.alloc (.cells #[.int .i64 3, .string ⟨#[99]⟩, .int .i64 0] 42)).heap.size (W22.alloc (.cells #[.int .i64 3, .string ⟨#[99]⟩, .int .i64 0] 42))).new (.cells #[.int .i64 3, .string ⟨#[98]⟩, .int .i64 0] 42)).drew)
      replace r_c5 := r_c5.below hb33
      have hc33 := hc32.then hb33
      have r_b5 := q_b5
      clear q_b5
      go_simp
      try dsimp only
      refine hK.out _ _ (HS.out _ (hc22.then hc33)) (fun hS33 => ?_)
      clear hK K
      (try simp only [Act.put, List.setIfInBounds_toArray, List.set_cons_zero, List.set_cons_succ])
      refine wpAnyH_ready (rs := [2]) (by kernel_rfl) (by simp) ?_
      refine AllReadyH.cons (o := _) rfl (fun K hK => ?_) AllReadyH.nil
      go_simp
      refine (f_one _ _ _ (bC) r_b5).mono ?_
      rintro e W34 ⟨a_F, c_F, rfl, r_F, hb34⟩
      clear r_b5
      replace r_c5 := r_c5.below hb34
      have hc34 := hc33.then hb34
      try dsimp only
      refine hK.out _ _ (HS.out _ (hc22.then hc34)) (fun hS34 => ?_)
      clear hK K
      (try simp only [Act.put, List.setIfInBounds_toArray, List.set_cons_zero, List.set_cons_succ])
      refine wpAnyH_ready (rs := [5]) (by kernel_rfl) (by simp) ?_
      refine AllReadyH.cons (o := _) rfl (fun K hK => ?_) AllReadyH.nil
      go_simp
      refine (f_one _ _ _ (cC) r_c5).mono ?_
      rintro e W35 ⟨a_H, c_H, rfl, r_H, hb35⟩
      clear r_c5
      replace r_F := r_F.below hb35
      have hc35 := hc34.then hb35
      try dsimp only
      refine hK.out _ _ (HS.out _ (hc22.then hc35)) (fun hS35 => ?_)
      clear hK K
      (try simp only [Act.put, List.setIfInBounds_toArray, List.set_cons_zero, List.set_cons_succ])
      refine wpAnyH_ready (rs := [6]) (by kernel_rfl) (by simp) ?_
      refine AllReadyH.cons (o := _) rfl (fun K hK => ?_) AllReadyH.nil
      go_simp
      refine (mgu_none _ _ _ _ _ [fnC 1, bC] [fnC 1, cC] r_F r_H (by decide +kernel) (by decide +kernel) hd_m4).mono ?_
      rintro e W36 ⟨rfl, hb36⟩
      clear r_F
      clear r_H
      have hc36 := hc35.then hb36
      try dsimp only
      refine hK.out _ _ (HS.out _ (hc22.then hc36)) (fun hS36 => ?_)
      clear hK K
      (try simp only [Act.put, List.setIfInBounds_toArray, List.set_cons_zero, List.set_cons_succ])
      refine wpAnyH_take (i := 7) (oi := _) (v := ?_) rfl (by kernel_rfl) (by kernel_rfl) (by kernel_rfl) (fun _ _ _ h => h) (Or.inl ⟨by rfl, ?_⟩) (by assumption) ?_
      rotate_left
      · (intro w' hSw; obtain ⟨q0, q1, q2, q3, q4, q5⟩ := hSw; go_simp; try with_reducible rfl)
      (try simp only [Act.put, List.setIfInBounds_toArray, List.set_cons_zero, List.set_cons_succ])
      refine wpAnyH_take (i := 8) (oi := _) (v := ?_) rfl (by kernel_rfl) (by kernel_rfl) (by kernel_rfl) (fun _ _ _ h => h) (Or.inl ⟨by rfl, ?_⟩) (by assumption) ?_
      rotate_left
      · (intro w' hSw; obtain ⟨q0, q1, q2, q3, q4, q5⟩ := hSw; go_simp; try with_reducible rfl)
      (try simp only [Act.put, List.setIfInBounds_toArray, List.set_cons_zero, List.set_cons_succ])
      refine wpAnyH_take (i := 9) (oi := _) (v := ?_) rfl (by kernel_rfl) (by kernel_rfl) (by kernel_rfl) (fun _ _ _ h => h) (Or.inl ⟨by rfl, ?_⟩) (by assumption) ?_
      rotate_left
      · (intro w' hSw; obtain ⟨q0, q1, q2, q3, q4, q5⟩ := hSw; go_simp; try with_reducible rfl)
      (try simp only [Act.put, List.setIfInBounds_toArray, List.set_cons_zero, List.set_cons_succ])
      refine wpAnyH_take (i := 10) (oi := _) (v := ?_) rfl (by kernel_rfl) (by kernel_rfl) (by kernel_rfl) (fun _ _ _ h => h) (Or.inl ⟨by rfl, ?_⟩) (by assumption) ?_
      rotate_left
      · (intro w' hSw; obtain ⟨q0, q1, q2, q3, q4, q5⟩ := hSw; go_simp; try with_reducible rfl)
      (try simp only [Act.put, List.setIfInBounds_toArray, List.set_cons_zero, List.set_cons_succ])
      refine wpAnyH_take (i := 11) (oi := _) (v := ?_) rfl (by kernel_rfl) (by kernel_rfl) (by kernel_rfl) (fun _ _ _ h => h) (Or.inl ⟨by rfl, ?_⟩) (by assumption) ?_
      rotate_left
      · (intro w' hSw; obtain ⟨q0, q1, q2, q3, q4, q5⟩ := hSw; go_simp; try with_reducible rfl)
      (try simp only [Act.put, List.setIfInBounds_toArray, List.set_cons_zero, List.set_cons_succ])
      refine wpAnyH_done (by kernel_rfl) (NoPanic.normal ?_) _
      refine ⟨rfl, ?_⟩
      (repeat apply Exists.intro)
      exact ⟨rfl, hc36⟩
  rintro ev A' W37 ⟨rfl, e55, e56, e57, e58, e59, e60, e61, e54, e62, e63, e9, rfl, hb37⟩
  subst hA
  simp only [Act.put, List.setIfInBounds_toArray, List.set_cons_zero, List.set_cons_succ]
  replace r_x := r_x.below hb37
  replace r_y := r_y.below hb37
  have hc37 := hc22.then hb37
  have q_p : Row (W37.alloc (.cells #[.int .i64 2, .string ⟨#[]⟩, .int .i64 1] 42)) (some ⟨W37.heap.size, 0, none⟩) 1 [nC 1] := by
    have h := cellsN W37 [nC 1] (fits1 (nC_fit 1 (by omega))) (by simp)
    exact h
  have hb38 : Below W37.heap.size W37 (W37.alloc (.cells #[.int .i64 2, .string ⟨#[]⟩, .int .i64 1] 42)) := (Below.refl _ _).new _
  replace r_x := r_x.below hb38
  replace r_y := r_y.below hb38
  have hc38 := hc37.then hb38
  have r_p := q_p
  clear q_p
  go_wp2_with fail
  refine (f_one _ _ _ (nC 1) r_p).mono ?_
  rintro e W39 ⟨a_A, c_A, rfl, r_A, hb39⟩
  clear r_p
  replace r_x := r_x.below hb39
  replace r_y := r_y.below hb39
  have hc39 := hc38.then hb39
  have q_q : Row (W39.alloc (.cells #[.int .i64 2, .string ⟨#[]⟩, .int .i64 2] 42)) (some ⟨W39.heap.size, 0, none⟩) 1 [nC 2] := by
    have h := cellsN W39 [nC 2] (fits1 (nC_fit 2 (by omega))) (by simp)
    exact h
  have hb40 : Below W39.heap.size W39 (W39.alloc (.cells #[.int .i64 2, .string ⟨#[]⟩, .int .i64 2] 42)) := (Below.refl _ _).new _
  replace r_x := r_x.below hb40
  replace r_y := r_y.below hb40
  replace r_A := r_A.below hb40
  have hc40 := hc39.then hb40
  have r_q := q_q
  clear q_q
  go_wp2_with fail
  refine (f_one _ _ _ (nC 2) r_q).mono ?_
  rintro e W41 ⟨a_B, c_B, rfl, r_B, hb41⟩
  clear r_q
  replace r_x := r_x.below hb41
  replace r_y := r_y.below hb41
  replace r_A := r_A.below hb41
  have hc41 := hc40.then hb41
  go_wp2_with fail
  refine (mgu_none _ _ _ _ _ [fnC 1, nC 1] [fnC 1, nC 2] r_A r_B (by decide +kernel) (by decide +kernel) hd_m5).mono ?_
  rintro e W42 ⟨rfl, hb42⟩
  clear r_A
  clear r_B
  replace r_x := r_x.below hb42
  replace r_y := r_y.below hb42
  have hc42 := hc41.then hb42
  go_wp2_with fail
  refine (v3_any 0 _).mono ?_
  rintro e W43 ⟨rfl, hb43⟩
  replace r_x := r_x.below hb43
  replace r_y := r_y.below hb43
  have hc43 := hc42.then hb43
  go_wp2_with fail
  refine (v3_any 1 _).mono ?_
  rintro e W44 ⟨rfl, hb44⟩
  replace r_x := r_x.below hb44
  replace r_y := r_y.below hb44
  have hc44 := hc43.then hb44
  have q_p : Row (W44.alloc (.cells #[.int .i64 1, .string ⟨#[]⟩, .int .i64 0, .int .i64 1, .string ⟨#[]⟩, .int .i64 1] 42)) (some ⟨W44.heap.size, 0, none⟩) 2 [vC 0, vC 1] := by
    have h := cellsN W44 [vC 0, vC 1] (fits2 (vC_fit 0 (by omega)) (vC_fit 1 (by omega))) (by simp)
    exact h
  have hb45 : Below W44.heap.size W44 (W44.alloc (.cells #[.int .i64 1, .string ⟨#[]⟩, .int .i64 0, .int .i64 1, .string ⟨#[]⟩, .int .i64 1] 42)) := (Below.refl _ _).new _
  replace r_x := r_x.below hb45
  replace r_y := r_y.below hb45
  have hc45 := hc44.then hb45
  have r_p := q_p
  clear q_p
  go_wp2_with fail
  refine (f_two _ _ _ (vC 0) (vC 1) r_p).mono ?_
  rintro e W46 ⟨a_A, c_A, rfl, r_A, hb46⟩
  clear r_p
  replace r_x := r_x.below hb46
  replace r_y := r_y.below hb46
  have hc46 := hc45.then hb46
  go_wp2_with fail
  refine (v3_any 1 _).mono ?_
  rintro e W47 ⟨rfl, hb47⟩
  replace r_x := r_x.below hb47
  replace r_y := r_y.below hb47
  replace r_A := r_A.below hb47
  have hc47 := hc46.then hb47
  go_wp2_with fail
  refine (v3_any 0 _).mono ?_
  rintro e W48 ⟨rfl, hb48⟩
  replace r_x := r_x.below hb48
  replace r_y := r_y.below hb48
  replace r_A := r_A.below hb48
  have hc48 := hc47.then hb48
  have q_q : Row (W48.alloc (.cells #[.int .i64 1, .string ⟨#[]⟩, .int .i64 1, .int .i64 1, .string ⟨#[]⟩, .int .i64 0] 42)) (some ⟨W48.heap.size, 0, none⟩) 2 [vC 1, vC 0] := by
    have h := cellsN W48 [vC 1, vC 0] (fits2 (vC_fit 1 (by omega)) (vC_fit 0 (by omega))) (by simp)
    exact h
  have hb49 : Below W48.heap.size W48 (W48.alloc (.cells #[.int .i64 1, .string ⟨#[]⟩, .int .i64 1, .int .i64 1, .string ⟨#[]⟩, .int .i64 0] 42)) := (Below.refl _ _).new _
  replace r_x := r_x.below hb49
  replace r_y := r_y.below hb49
  replace r_A := r_A.below hb49
  have hc49 := hc48.then hb49
  have r_q := q_q
  clear q_q
  go_wp2_with fail
  refine (f_two _ _ _ (vC 1) (vC 0) r_q).mono ?_
  rintro e W50 ⟨a_B, c_B, rfl, r_B, hb50⟩
  clear r_q
  replace r_x := r_x.below hb50
  replace r_y := r_y.below hb50
  replace r_A := r_A.below hb50
  have hc50 := hc49.then hb50
  go_wp2_with fail
  refine (match_lit _ _ _ _ _ [fnC 2, vC 0, vC 1] [fnC 2, vC 1, vC 0] r_A r_B (by decide +kernel) (by decide +kernel) [⟨0, [vC 1]⟩, ⟨1, [vC 0]⟩] true hd_k1).mono ?_
  rintro e W51 ⟨az, cz, rfl, r_z, hb51⟩
  clear r_A
  clear r_B
  replace r_x := r_x.below hb51
  replace r_y := r_y.below hb51
  have hc51 := hc50.then hb51
  obtain ⟨s0, s1, s2, s3, s4, s5⟩ := HS.out _ hc51
  have s6 := cell_lt s0
  have s7 := cell_lt s3
  go_wp2_with fail
  clear s0 s1 s2 s3 s4 s5 s6 s7
  have q_p : Row (W51.alloc (.cells #[.int .i64 3, .string ⟨#[98]⟩, .int .i64 0] 42)) (some ⟨W51.heap.size, 0, none⟩) 1 [bC] := by
    have h := cellsN W51 [bC] (fits1 bC_fit) (by simp)
    exact h
  have hb52 : Below W51.heap.size W51 (W51.alloc (.cells #[.int .i64 3, .string ⟨#[98]⟩, .int .i64 0] 42)) := (Below.refl _ _).new _
  replace r_x := r_x.below hb52
  replace r_y := r_y.below hb52
  replace r_z := r_z.below hb52
  have hc52 := hc51.then hb52
  have r_p := q_p
  clear q_p
  refine (f_one _ _ _ (bC) r_p).mono ?_
  rintro e W53 ⟨a_A, c_A, rfl, r_A, hb53⟩
  clear r_p
  replace r_x := r_x.below hb53
  replace r_y := r_y.below hb53
  replace r_z := r_z.below hb53
  have hc53 := hc52.then hb53
  go_wp2_with fail
  refine (v3_any 0 _).mono ?_
  rintro e W54 ⟨rfl, hb54⟩
  replace r_x := r_x.below hb54
  replace r_y := r_y.below hb54
  replace r_z := r_z.below hb54
  replace r_A := r_A.below hb54
  have hc54 := hc53.then hb54
  have q_q : Row (W54.alloc (.cells #[.int .i64 1, .string ⟨#[]⟩, .int .i64 0] 42)) (some ⟨W54.heap.size, 0, none⟩) 1 [vC 0] := by
    have h := cellsN W54 [vC 0] (fits1 (vC_fit 0 (by omega))) (by simp)
    exact h
  have hb55 : Below W54.heap.size W54 (W54.alloc (.cells #[.int .i64 1, .string ⟨#[]⟩, .int .i64 0] 42)) := (Below.refl _ _).new _
  replace r_x := r_x.below hb55
  replace r_y := r_y.below hb55
  replace r_z := r_z.below hb55
  replace r_A := r_A.below hb55
  have hc55 := hc54.then hb55
  have r_q := q_q
  clear q_q
  go_wp2_with fail
  refine (f_one _ _ _ (vC 0) r_q).mono ?_
  rintro e W56 ⟨a_B, c_B, rfl, r_B, hb56⟩
  clear r_q
  replace r_x := r_x.below hb56
  replace r_y := r_y.below hb56
  replace r_z := r_z.below hb56
  replace r_A := r_A.below hb56
  have hc56 := hc55.then hb56
  go_wp2_with fail
  refine (match_lit _ _ _ _ _ [fnC 1, bC] [fnC 1, vC 0] r_A r_B (by decide +kernel) (by decide +kernel) [] false hd_k2).mono ?_
  rintro e W57 ⟨ano, cno, rfl, r_no, hb57⟩
  clear r_A
  clear r_B
  replace r_x := r_x.below hb57
  replace r_y := r_y.below hb57
  replace r_z := r_z.below hb57
  have hc57 := hc56.then hb57
  go_wp2_with fail
  refine (v3_any 0 _).mono ?_
  rintro e W58 ⟨rfl, hb58⟩
  replace r_x := r_x.below hb58
  replace r_y := r_y.below hb58
  replace r_z := r_z.below hb58
  replace r_no := r_no.below hb58
  have hc58 := hc57.then hb58
  go_wp2_with fail
  refine (v3_any 0 _).mono ?_
  rintro e W59 ⟨rfl, hb59⟩
  replace r_x := r_x.below hb59
  replace r_y := r_y.below hb59
  replace r_z := r_z.below hb59
  replace r_no := r_no.below hb59
  have hc59 := hc58.then hb59
  have q_p : Row (W59.alloc (.cells #[.int .i64 1, .string ⟨#[]⟩, .int .i64 0, .int .i64 1, .string ⟨#[]⟩, .int .i64 0] 42)) (some ⟨W59.heap.size, 0, none⟩) 2 [vC 0, vC 0] := by
    have h := cellsN W59 [vC 0, vC 0] (fits2 (vC_fit 0 (by omega)) (vC_fit 0 (by omega))) (by simp)
    exact h
  have hb60 : Below W59.heap.size W59 (W59.alloc (.cells #[.int .i64 1, .string ⟨#[]⟩, .int .i64 0, .int .i64 1, .string ⟨#[]⟩, .int .i64 0] 42)) := (Below.refl _ _).new _
  replace r_x := r_x.below hb60
  replace r_y := r_y.below hb60
  replace r_z := r_z.below hb60
  replace r_no := r_no.below hb60
  have hc60 := hc59.then hb60
  have r_p := q_p
  clear q_p
  go_wp2_with fail
  refine (f_two _ _ _ (vC 0) (vC 0) r_p).mono ?_
  rintro e W61 ⟨a_A, c_A, rfl, r_A, hb61⟩
  clear r_p
  replace r_x := r_x.below hb61
  replace r_y := r_y.below hb61
  replace r_z := r_z.below hb61
  replace r_no := r_no.below hb61
  have hc61 := hc60.then hb61
  go_wp2_with fail
  refine (v3_any 0 _).mono ?_
  rintro e W62 ⟨rfl, hb62⟩
  replace r_x := r_x.below hb62
  replace r_y := r_y.below hb62
  replace r_z := r_z.below hb62
  replace r_no := r_no.below hb62
  replace r_A := r_A.below hb62
  have hc62 := hc61.then hb62
  go_wp2_with fail
  refine (v3_any 0 _).mono ?_
  rintro e W63 ⟨rfl, hb63⟩
  replace r_x := r_x.below hb63
  replace r_y := r_y.below hb63
  replace r_z := r_z.below hb63
  replace r_no := r_no.below hb63
  replace r_A := r_A.below hb63
  have hc63 := hc62.then hb63
  have q_q : Row (W63.alloc (.cells #[.int .i64 1, .string ⟨#[]⟩, .int .i64 0, .int .i64 1, .string ⟨#[]⟩, .int .i64 0] 42)) (some ⟨W63.heap.size, 0, none⟩) 2 [vC 0, vC 0] := by
    have h := cellsN W63 [vC 0, vC 0] (fits2 (vC_fit 0 (by omega)) (vC_fit 0 (by omega))) (by simp)
    exact h
  have hb64 : Below W63.heap.size W63 (W63.alloc (.cells #[.int .i64 1, .string ⟨#[]⟩, .int .i64 0, .int .i64 1, .string ⟨#[]⟩, .int .i64 0] 42)) := (Below.refl _ _).new _
  replace r_x := r_x.below hb64
  replace r_y := r_y.below hb64
  replace r_z := r_z.below hb64
  replace r_no := r_no.below hb64
  replace r_A := r_A.below hb64
  have hc64 := hc63.then hb64
  have r_q := q_q
  clear q_q
  go_wp2_with fail
  refine (f_two _ _ _ (vC 0) (vC 0) r_q).mono ?_
  rintro e W65 ⟨a_B, c_B, rfl, r_B, hb65⟩
  clear r_q
  replace r_x := r_x.below hb65
  replace r_y := r_y.below hb65
  replace r_z := r_z.below hb65
  replace r_no := r_no.below hb65
  replace r_A := r_A.below hb65
  have hc65 := hc64.then hb65
  go_wp2_with fail
  refine (match_lit _ _ _ _ _ [fnC 2, vC 0, vC 0] [fnC 2, vC 0, vC 0] r_A r_B (by decide +kernel) (by decide +kernel) [] true hd_k3).mono ?_
  rintro e W66 ⟨aww, cww, rfl, r_ww, hb66⟩
  clear r_A
  clear r_B
  replace r_x := r_x.below hb66
  replace r_y := r_y.below hb66
  replace r_z := r_z.below hb66
  replace r_no := r_no.below hb66
  have hc66 := hc65.then hb66
  obtain ⟨s0, s1, s2, s3, s4, s5⟩ := HS.out _ hc66
  have s6 := cell_lt s0
  have s7 := cell_lt s3
  go_wp2_with fail
  clear s0 s1 s2 s3 s4 s5 s6 s7
  have q_p : Row (W66.alloc (.cells #[.int .i64 3, .string ⟨#[99]⟩, .int .i64 0] 42)) (some ⟨W66.heap.size, 0, none⟩) 1 [cC] := by
    have h := cellsN W66 [cC] (fits1 cC_fit) (by simp)
    exact h
  have hb67 : Below W66.heap.size W66 (W66.alloc (.cells #[.int .i64 3, .string ⟨#[99]⟩, .int .i64 0] 42)) := (Below.refl _ _).new _
  replace r_x := r_x.below hb67
  replace r_y := r_y.below hb67
  replace r_z := r_z.below hb67
  replace r_no := r_no.below hb67
  replace r_ww := r_ww.below hb67
  have hc67 := hc66.then hb67
  have r_p := q_p
  clear q_p
  have q_q : Row ((W66.alloc (.cells #[.int .i64 3, .string ⟨#[99]⟩, .int .i64 0] 42)).alloc (.cells #[.int .i64 3, .string ⟨#[98]⟩, .int .i64 0] 42)) (some ⟨W66.heap.size + 1, 0, none⟩) 1 [bC] := by
    have h := cellsN (W66.alloc (.cells #[.int .i64 3, .string ⟨#[99]⟩, .int .i64 0] 42)) [bC] (fits1 bC_fit) (by simp)
    simp only [World.size_alloc] at h
    exact h
  have hb68 : Below (W66.alloc (.cells #[.int .i64 3, .string ⟨#[99]⟩, .int .i64 0] 42)).heap.size (W66.alloc (.cells #[.int .i64 3, .string ⟨#[99]⟩, .int .i64 0] 42)) ((W66.alloc (.cells #[.int .i64 3, .string ⟨#[99]⟩, .int .i64 0] 42)).alloc (.cells #[.int .i64 3, .string ⟨#[98]⟩, .int .i64 0] 42)) := (Below.refl _ _).new _
  replace r_x := r_x.below hb68
  replace r_y := r_y.below hb68
  replace r_z := r_z.below hb68
  replace r_no := r_no.below hb68
  replace r_ww := r_ww.below hb68
  replace r_p := r_p.below hb68
  have hc68 := hc67.then hb68
  have r_q := q_q
  clear q_q
  have q_s : Row (((W66.alloc (.cells #[.int .i64 3, .string ⟨#[99]⟩, .int .i64 0] 42)).alloc (.cells #[.int .i64 3, .string ⟨#[98]⟩, .int .i64 0] 42)).alloc (.cells #[.int .i64 0, .slice (some ⟨W66.heap.size, 0, none⟩) 1 1, .int .i64 1, .slice (some ⟨W66.heap.size + 1, 0, none⟩) 1 1] 39)) (some ⟨W66.heap.size + 1 + 1, 0, none⟩) 2 ([⟨0, [cC]⟩, ⟨1, [bC]⟩] : List Bnd) := by
    have h := bindsN ((W66.alloc (.cells #[.int .i64 3, .string ⟨#[99]⟩, .int .i64 0] 42)).alloc (.cells #[.int .i64 3, .string ⟨#[98]⟩, .int .i64 0] 42)) #[.int .i64 0, .slice (some ⟨W66.heap.size, 0, none⟩) 1 1, .int .i64 1, .slice (some ⟨W66.heap.size + 1, 0, none⟩) 1 1] ([⟨0, [cC]⟩, ⟨1, [bC]⟩] : List Bnd) (.cons (cs := [.int .i64 0, .slice (some ⟨W66.heap.size, 0, none⟩) 1 1]) ⟨⟨_, _, rfl, r_p⟩, by decide, by decide⟩ (.cons (cs := [.int .i64 1, .slice (some ⟨W66.heap.size + 1, 0, none⟩) 1 1]) ⟨⟨_, _, rfl, r_q⟩, by decide, by decide⟩ .nil)) (by simp)
    simp only [World.size_alloc] at h
    exact h
  have hb69 : Below ((W66.alloc (.cells #[.int .i64 3, .string ⟨#[99]⟩, .int .i64 0] 42)).alloc (.cells #[.int .i64 3, .string ⟨#[98]⟩, .int .i64 0] 42)).heap.size ((W66.alloc (.cells #[.int .i64 3, .string ⟨#[99]⟩, .int .i64 0] 42)).alloc (.cells #[.int .i64 3, .string ⟨#[98]⟩, .int .i64 0] 42)) (((W66.alloc (.cells #[.int .i64 3, .string ⟨#[99]⟩, .int .i64 0] 42)).alloc (.cells #[.int .i64 3, .string ⟨#[98]⟩, .int .i64 0] 42)).alloc (.cells #[.int .i64 0, .slice (some ⟨W66.heap.size, 0, none⟩) 1 1, .int .i64 1, .slice (some ⟨W66.heap.size + 1, 0, none⟩) 1 1] 39)) := (Below.refl _ _).new _
  replace r_x := r_x.below hb69
  replace r_y := r_y.below hb69
  replace r_z := r_z.below hb69
  replace r_no := r_no.below hb69
  replace r_ww := r_ww.below hb69
  replace r_p := r_p.below hb69
  replace r_q := r_q.below hb69
  have hc69 := hc68.then hb69
  have r_s := q_s
  clear q_s
  refine (same_yes _ _ _ _ _ [⟨0, [cC]⟩, ⟨1, [bC]⟩] _ r_x r_s rfl).mono ?_
  rintro e W70 ⟨rfl, hb70⟩
  clear r_x
  clear r_s
  clear r_p
  clear r_q
  replace r_y := r_y.below hb70
  replace r_z := r_z.below hb70
  replace r_no := r_no.below hb70
  replace r_ww := r_ww.below hb70
  have hc70 := hc69.then hb70
  go_wp2_with fail
  refine (v3_any 0 _).mono ?_
  rintro e W71 ⟨rfl, hb71⟩
  replace r_y := r_y.below hb71
  replace r_z := r_z.below hb71
  replace r_no := r_no.below hb71
  replace r_ww := r_ww.below hb71
  have hc71 := hc70.then hb71
  have q_p : Row (W71.alloc (.cells #[.int .i64 1, .string ⟨#[]⟩, .int .i64 0] 42)) (some ⟨W71.heap.size, 0, none⟩) 1 [vC 0] := by
    have h := cellsN W71 [vC 0] (fits1 (vC_fit 0 (by omega))) (by simp)
    exact h
  have hb72 : Below W71.heap.size W71 (W71.alloc (.cells #[.int .i64 1, .string ⟨#[]⟩, .int .i64 0] 42)) := (Below.refl _ _).new _
  replace r_y := r_y.below hb72
  replace r_z := r_z.below hb72
  replace r_no := r_no.below hb72
  replace r_ww := r_ww.below hb72
  have hc72 := hc71.then hb72
  have r_p := q_p
  clear q_p
  have q_s : Row ((W71.alloc (.cells #[.int .i64 1, .string ⟨#[]⟩, .int .i64 0] 42)).alloc (.cells #[.int .i64 1, .slice (some ⟨W71.heap.size, 0, none⟩) 1 1] 39)) (some ⟨W71.heap.size + 1, 0, none⟩) 1 ([⟨1, [vC 0]⟩] : List Bnd) := by
    have h := bindsN (W71.alloc (.cells #[.int .i64 1, .string ⟨#[]⟩, .int .i64 0] 42)) #[.int .i64 1, .slice (some ⟨W71.heap.size, 0, none⟩) 1 1] ([⟨1, [vC 0]⟩] : List Bnd) (.cons (cs := [.int .i64 1, .slice (some ⟨W71.heap.size, 0, none⟩) 1 1]) ⟨⟨_, _, rfl, r_p⟩, by decide, by decide⟩ .nil) (by simp)
    simp only [World.size_alloc] at h
    exact h
  have hb73 : Below (W71.alloc (.cells #[.int .i64 1, .string ⟨#[]⟩, .int .i64 0] 42)).heap.size (W71.alloc (.cells #[.int .i64 1, .string ⟨#[]⟩, .int .i64 0] 42)) ((W71.alloc (.cells #[.int .i64 1, .string ⟨#[]⟩, .int .i64 0] 42)).alloc (.cells #[.int .i64 1, .slice (some ⟨W71.heap.size, 0, none⟩) 1 1] 39)) := (Below.refl _ _).new _
  replace r_y := r_y.below hb73
  replace r_z := r_z.below hb73
  replace r_no := r_no.below hb73
  replace r_ww := r_ww.below hb73
  replace r_p := r_p.below hb73
  have hc73 := hc72.then hb73
  have r_s := q_s
  clear q_s
  go_wp2_with fail
  refine (same_yes _ _ _ _ _ [⟨1, [vC 0]⟩] _ r_y r_s rfl).mono ?_
  rintro e W74 ⟨rfl, hb74⟩
  clear r_y
  clear r_s
  clear r_p
  replace r_z := r_z.below hb74
  replace r_no := r_no.below hb74
  replace r_ww := r_ww.below hb74
  have hc74 := hc73.then hb74
  go_wp2_with fail
  refine (v3_any 1 _).mono ?_
  rintro e W75 ⟨rfl, hb75⟩
  replace r_z := r_z.below hb75
  replace r_no := r_no.below hb75
  replace r_ww := r_ww.below hb75
  have hc75 := hc74.then hb75
  have q_p : Row (W75.alloc (.cells #[.int .i64 1, .string ⟨#[]⟩, .int .i64 1] 42)) (some ⟨W75.heap.size, 0, none⟩) 1 [vC 1] := by
    have h := cellsN W75 [vC 1] (fits1 (vC_fit 1 (by omega))) (by simp)
    exact h
  have hb76 : Below W75.heap.size W75 (W75.alloc (.cells #[.int .i64 1, .string ⟨#[]⟩, .int .i64 1] 42)) := (Below.refl _ _).new _
  replace r_z := r_z.below hb76
  replace r_no := r_no.below hb76
  replace r_ww := r_ww.below hb76
  have hc76 := hc75.then hb76
  have r_p := q_p
  clear q_p
  go_wp2_with fail
  refine (v3_any 0 _).mono ?_
  rintro e W77 ⟨rfl, hb77⟩
  replace r_z := r_z.below hb77
  replace r_no := r_no.below hb77
  replace r_ww := r_ww.below hb77
  replace r_p := r_p.below hb77
  have hc77 := hc76.then hb77
  have q_q : Row (W77.alloc (.cells #[.int .i64 1, .string ⟨#[]⟩, .int .i64 0] 42)) (some ⟨W77.heap.size, 0, none⟩) 1 [vC 0] := by
    have h := cellsN W77 [vC 0] (fits1 (vC_fit 0 (by omega))) (by simp)
    exact h
  have hb78 : Below W77.heap.size W77 (W77.alloc (.cells #[.int .i64 1, .string ⟨#[]⟩, .int .i64 0] 42)) := (Below.refl _ _).new _
  replace r_z := r_z.below hb78
  replace r_no := r_no.below hb78
  replace r_ww := r_ww.below hb78
  replace r_p := r_p.below hb78
  have hc78 := hc77.then hb78
  have r_q := q_q
  clear q_q
  have q_s : Row ((W77.alloc (.cells #[.int .i64 1, .string ⟨#[]⟩, .int .i64 0] 42)).alloc (.cells #[.int .i64 0, .slice (some ⟨W75.heap.size, 0, none⟩) 1 1, .int .i64 1, .slice (some ⟨W77.heap.size, 0, none⟩) 1 1] 39)) (some ⟨W77.heap.size + 1, 0, none⟩) 2 ([⟨0, [vC 1]⟩, ⟨1, [vC 0]⟩] : List Bnd) := by
    have h := bindsN (W77.alloc (.cells #[.int .i64 1, .string ⟨#[]⟩, .int .i64 0] 42)) #[.int .i64 0, .slice (some ⟨W75.heap.size, 0, none⟩) 1 1, .int .i64 1, .slice (some ⟨W77.heap.size, 0, none⟩) 1 1] ([⟨0, [vC 1]⟩, ⟨1, [vC 0]⟩] : List Bnd) (.cons (cs := [.int .i64 0, .slice (some ⟨W75.heap.size, 0, none⟩) 1 1]) ⟨⟨_, _, rfl, r_p⟩, by decide, by decide⟩ (.cons (cs := [.int .i64 1, .slice (some ⟨W77.heap.size, 0, none⟩) 1 1]) ⟨⟨_, _, rfl, r_q⟩, by decide, by decide⟩ .nil)) (by simp)
    simp only [World.size_alloc] at h
    exact h
  have hb79 : Below (W77.alloc (.cells #[.int .i64 1, .string ⟨#[]⟩, .int .i64 0] 42)).heap.size (W77.alloc (.cells #[.int .i64 1, .string ⟨#[]⟩, .int .i64 0] 42)) ((W77.alloc (.cells #[.int .i64 1, .string ⟨#[]⟩, .int .i64 0] 42)).alloc (.cells #[.int .i64 0, .slice (some ⟨W75.heap.size, 0, none⟩) 1 1, .int .i64 1, .slice (some ⟨W77.heap.size, 0, none⟩) 1 1] 39)) := (Below.refl _ _).new _
  replace r_z := r_z.below hb79
  replace r_no := r_no.below hb79
  replace r_ww := r_ww.below hb79
  replace r_p := r_p.below hb79
  replace r_q := r_q.below hb79
  have hc79 := hc78.then hb79
  have r_s := q_s
  clear q_s
  go_wp2_with fail
  refine (same_yes _ _ _ _ _ [⟨0, [vC 1]⟩, ⟨1, [vC 0]⟩] _ r_z r_s rfl).mono ?_
  rintro e W80 ⟨rfl, hb80⟩
  clear r_z
  clear r_s
  clear r_p
  clear r_q
  replace r_no := r_no.below hb80
  replace r_ww := r_ww.below hb80
  have hc80 := hc79.then hb80
  go_wp2_with fail
  refine (v3_any 7 _).mono ?_
  rintro e W81 ⟨rfl, hb81⟩
  replace r_no := r_no.below hb81
  replace r_ww := r_ww.below hb81
  have hc81 := hc80.then hb81
  go_wp2_with fail
  refine (v3_any 2 _).mono ?_
  rintro e W82 ⟨rfl, hb82⟩
  replace r_no := r_no.below hb82
  replace r_ww := r_ww.below hb82
  have hc82 := hc81.then hb82
  have q_p : Row (W82.alloc (.cells #[.int .i64 1, .string ⟨#[]⟩, .int .i64 7, .int .i64 1, .string ⟨#[]⟩, .int .i64 2] 42)) (some ⟨W82.heap.size, 0, none⟩) 2 [vC 7, vC 2] := by
    have h := cellsN W82 [vC 7, vC 2] (fits2 (vC_fit 7 (by omega)) (vC_fit 2 (by omega))) (by simp)
    exact h
  have hb83 : Below W82.heap.size W82 (W82.alloc (.cells #[.int .i64 1, .string ⟨#[]⟩, .int .i64 7, .int .i64 1, .string ⟨#[]⟩, .int .i64 2] 42)) := (Below.refl _ _).new _
  replace r_no := r_no.below hb83
  replace r_ww := r_ww.below hb83
  have hc83 := hc82.then hb83
  have r_p := q_p
  clear q_p
  go_wp2_with fail
  refine (f_two _ _ _ (vC 7) (vC 2) r_p).mono ?_
  rintro e W84 ⟨a_A, c_A, rfl, r_A, hb84⟩
  clear r_p
  replace r_no := r_no.below hb84
  replace r_ww := r_ww.below hb84
  have hc84 := hc83.then hb84
  go_wp2_with fail
  refine (v3_any 0 _).mono ?_
  rintro e W85 ⟨rfl, hb85⟩
  replace r_no := r_no.below hb85
  replace r_ww := r_ww.below hb85
  replace r_A := r_A.below hb85
  have hc85 := hc84.then hb85
  go_wp2_with fail
  refine (v3_any 7 _).mono ?_
  rintro e W86 ⟨rfl, hb86⟩
  replace r_no := r_no.below hb86
  replace r_ww := r_ww.below hb86
  replace r_A := r_A.below hb86
  have hc86 := hc85.then hb86
  have q_q : Row (W86.alloc (.cells #[.int .i64 1, .string ⟨#[]⟩, .int .i64 0, .int .i64 1, .string ⟨#[]⟩, .int .i64 7] 42)) (some ⟨W86.heap.size, 0, none⟩) 2 [vC 0, vC 7] := by
    have h := cellsN W86 [vC 0, vC 7] (fits2 (vC_fit 0 (by omega)) (vC_fit 7 (by omega))) (by simp)
    exact h
  have hb87 : Below W86.heap.size W86 (W86.alloc (.cells #[.int .i64 1, .string ⟨#[]⟩, .int .i64 0, .int .i64 1, .string ⟨#[]⟩, .int .i64 7] 42)) := (Below.refl _ _).new _
  replace r_no := r_no.below hb87
  replace r_ww := r_ww.below hb87
  replace r_A := r_A.below hb87
  have hc87 := hc86.then hb87
  have r_q := q_q
  clear q_q
  go_wp2_with fail
  refine (f_two _ _ _ (vC 0) (vC 7) r_q).mono ?_
  rintro e W88 ⟨a_B, c_B, rfl, r_B, hb88⟩
  clear r_q
  replace r_no := r_no.below hb88
  replace r_ww := r_ww.below hb88
  replace r_A := r_A.below hb88
  have hc88 := hc87.then hb88
  go_wp2_with fail
  refine (var_lit _ _ _ _ _ [fnC 2, vC 7, vC 2] [fnC 2, vC 0, vC 7] r_A r_B (by simp) (by simp) (by simp) (by simp) true hd_v1).mono ?_
  rintro e W89 ⟨rfl, hb89⟩
  clear r_A
  clear r_B
  replace r_no := r_no.below hb89
  replace r_ww := r_ww.below hb89
  have hc89 := hc88.then hb89
  go_wp2_with fail
  refine (v3_any 0 _).mono ?_
  rintro e W90 ⟨rfl, hb90⟩
  replace r_no := r_no.below hb90
  replace r_ww := r_ww.below hb90
  have hc90 := hc89.then hb90
  go_wp2_with fail
  refine (v3_any 0 _).mono ?_
  rintro e W91 ⟨rfl, hb91⟩
  replace r_no := r_no.below hb91
  replace r_ww := r_ww.below hb91
  have hc91 := hc90.then hb91
  have q_p : Row (W91.alloc (.cells #[.int .i64 1, .string ⟨#[]⟩, .int .i64 0, .int .i64 1, .string ⟨#[]⟩, .int .i64 0] 42)) (some ⟨W91.heap.size, 0, none⟩) 2 [vC 0, vC 0] := by
    have h := cellsN W91 [vC 0, vC 0] (fits2 (vC_fit 0 (by omega)) (vC_fit 0 (by omega))) (by simp)
    exact h
  have hb92 : Below W91.heap.size W91 (W91.alloc (.cells #[.int .i64 1, .string ⟨#[]⟩, .int .i64 0, .int .i64 1, .string ⟨#[]⟩, .int .i64 0] 42)) := (Below.refl _ _).new _
  replace r_no := r_no.below hb92
  replace r_ww := r_ww.below hb92
  have hc92 := hc91.then hb92
  have r_p := q_p
  clear q_p
  go_wp2_with fail
  refine (f_two _ _ _ (vC 0) (vC 0) r_p).mono ?_
  rintro e W93 ⟨a_A, c_A, rfl, r_A, hb93⟩
  clear r_p
  replace r_no := r_no.below hb93
  replace r_ww := r_ww.below hb93
  have hc93 := hc92.then hb93
  go_wp2_with fail
  refine (v3_any 0 _).mono ?_
  rintro e W94 ⟨rfl, hb94⟩
  replace r_no := r_no.below hb94
  replace r_ww := r_ww.below hb94
  replace r_A := r_A.below hb94
  have hc94 := hc93.then hb94
  go_wp2_with fail
  refine (v3_any 1 _).mono ?_
  rintro e W95 ⟨rfl, hb95⟩
  replace r_no := r_no.below hb95
  replace r_ww := r_ww.below hb95
  replace r_A := r_A.below hb95
  have hc95 := hc94.then hb95
  have q_q : Row (W95.alloc (.cells #[.int .i64 1, .string ⟨#[]⟩, .int .i64 0, .int .i64 1, .string ⟨#[]⟩, .int .i64 1] 42)) (some ⟨W95.heap.size, 0, none⟩) 2 [vC 0, vC 1] := by
    have h := cellsN W95 [vC 0, vC 1] (fits2 (vC_fit 0 (by omega)) (vC_fit 1 (by omega))) (by simp)
    exact h
  have hb96 : Below W95.heap.size W95 (W95.alloc (.cells #[.int .i64 1, .string ⟨#[]⟩, .int .i64 0, .int .i64 1, .string ⟨#[]⟩, .int .i64 1] 42)) := (Below.refl _ _).new _
  replace r_no := r_no.below hb96
  replace r_ww := r_ww.below hb96
  replace r_A := r_A.below hb96
  have hc96 := hc95.then hb96
  have r_q := q_q
  clear q_q
  go_wp2_with fail
  refine (f_two _ _ _ (vC 0) (vC 1) r_q).mono ?_
  rintro e W97 ⟨a_B, c_B, rfl, r_B, hb97⟩
  clear r_q
  replace r_no := r_no.below hb97
  replace r_ww := r_ww.below hb97
  replace r_A := r_A.below hb97
  have hc97 := hc96.then hb97
  go_wp2_with fail
  refine (var_lit _ _ _ _ _ [fnC 2, vC 0, vC 0] [fnC 2, vC 0, vC 1] r_A r_B (by simp) (by simp) (by simp) (by simp) false hd_v2).mono ?_
  rintro e W98 ⟨rfl, hb98⟩
  clear r_A
  clear r_B
  replace r_no := r_no.below hb98
  replace r_ww := r_ww.below hb98
  have hc98 := hc97.then hb98
  have HE := mkHid (HB0.out.then hc98)
  go_wp2_with fail
  go_ret
  exact ⟨ret_bool rfl, HE.out⟩
end Go.Proofs.Ytlddglajdcednaa
namespace Go.Proofs.Ytlddglajdcednaa
open Go.RowKit

theorem mask (a : Int) (m : Nat) (hm : m ≤ 1000) : 0 ≤ bits .and .i64 a m ∧ bits .and .i64 a m ≤ m := by
  have h2 : (BitVec.ofInt 64 (m : Int)).toNat = m := by
    rw [BitVec.ofInt_natCast, BitVec.toNat_ofNat]; exact Nat.mod_eq_of_lt (by omega)
  have h3 : (BitVec.ofInt 64 a &&& BitVec.ofInt 64 (m : Int)).toNat ≤ m := by
    rw [BitVec.toNat_and, h2]; exact Nat.and_le_right
  have e : bits .and .i64 a m = IntKind.i64.wrap ((BitVec.ofInt 64 a &&& BitVec.ofInt 64 (m : Int)).toNat : Int) := rfl
  rw [e, IntKind.wrap_i64]
  omega
/-- append of one cell, laid just ahead of it -/
theorem wpList_lay {w : World} {ops : Array Oper} {rest : List Oper} {o : Oper} {a : Act} {Q : Exit → Act → World → Prop} (hg : o.guard = none) (s x : Operand) (hop : o.op = Op.call { callee := Callee.builtin Builtin.append, args := #[s, x], argTypes := #[22, 22] })
    (B : Nat) (v : Value) (acc : List Cel) (c : Cel) (hT : LR w B v acc) (hs : a.eval s = v) (hx : a.eval x = .slice (some ⟨w.heap.size, 0, none⟩) 1 1) (hB : B ≤ w.heap.size) (hl : acc.length ≤ 1000000)
    (hK : ∀ v' w', LR w' B v' (acc ++ [c]) → Below B w w' → (∃ g cap, v' = .slice (some ⟨g, 0, none⟩) (acc.length + 1) cap) → wpList Try.prog ops Q rest (a.put o.dst v') w') :
    wpList Try.prog ops Q (o :: rest) a (w.alloc (.cells #[.int .i64 c.k, .string c.s, .int .i64 c.n] 42)) := by
  refine wpList_plain hg fun K hK' => ?_
  obtain ⟨v', w', hrun, h2, h3, _, h4⟩ := run_lay hT c hl hB o.type
  have hlt := hT.lt
  have hb : Below B w w' := by
    refine ⟨h3.os, h3.tape, h3.output, by have := h3.size; simp at this; omega, fun k hk => ?_⟩
    exact (h3.block k (by simp; omega) (fun e => by have := (hlt k e.symm).1; omega)).trans (heap_alloc_old _ _ (by omega))
  unfold Oper.wp execOp
  simp [hop, resolve, invoke, builtin, hs, hx, hrun, Result.andThen]
  exact hK' _ _ (hK v' w' h2 hb h4)
end Go.Proofs.Ytlddglajdcednaa
namespace Go.Proofs.Ytlddglajdcednaa
open Go.RowKit

/-- what is made so far: n terms are wanted -/
structure MadeI (most n : Nat) (out : List Cel) : Prop where
  read : ∀ rest, sk 1 (out ++ rest) = sk n rest
  room : out.length + n ≤ most
  fit : ∀ c ∈ out, c.fit
theorem MadeI.start {most : Nat} (h : 1 ≤ most) : MadeI most 1 [] := ⟨fun _ => rfl, by simpa using h, by simp⟩
theorem MadeI.snoc {most m : Nat} {out : List Cel} {c : Cel} (h : MadeI most (m + 1) out) (hc : cellOk c = true) (hf : c.fit) (hr : out.length + (m + 1) + ar c ≤ most) : MadeI most (m + ar c) (out ++ [c]) := by
  refine ⟨fun rest => ?_, by rw [List.length_append, List.length_singleton]; omega, fun d hd => ?_⟩
  · rw [List.append_assoc, h.read]
    simp [sk, hc]
  · rcases List.mem_append.1 hd with hd | hd
    · exact h.fit d hd
    · rw [List.mem_singleton] at hd; rw [hd]; exact hf
theorem MadeI.done {most : Nat} {out : List Cel} (h : MadeI most 0 out) (hm : most ≤ 200) : rightB out = true ∧ out.length ≤ most := by
  have h1 := h.read []
  rw [List.append_nil] at h1
  have h2 := h.room
  refine ⟨?_, by omega⟩
  unfold rightB endI
  rw [List.drop_zero, h1]
  simp [sk]
  omega
def aC : Cel := ⟨3, ⟨#[97]⟩, 0⟩
theorem aC_fit : aC.fit := ⟨by show _ ≤ (3 : Int); omega, by show (3 : Int) ≤ _; omega, by show _ ≤ (0 : Int); omega, by show (0 : Int) ≤ _; omega, by show (1 : Nat) ≤ _; omega⟩
theorem aC_ok : cellOk aC = true := by decide +kernel
theorem vcel_ok (n : Int) (h : 0 ≤ n ∧ n ≤ 7) : cellOk ⟨1, ⟨#[]⟩, n⟩ = true ∧ (⟨1, ⟨#[]⟩, n⟩ : Cel).fit := by
  refine ⟨?_, vC_fit n ⟨h.1, by omega⟩⟩
  unfold cellOk
  simp
  omega
theorem ncel_ok (n : Int) (h : 0 ≤ n ∧ n ≤ 3) : cellOk ⟨2, ⟨#[]⟩, n⟩ = true ∧ (⟨2, ⟨#[]⟩, n⟩ : Cel).fit := by
  refine ⟨?_, nC_fit n ⟨h.1, by omega⟩⟩
  unfold cellOk
  simp
  omega
theorem fcel_ok (t : ByteArray) (ht : t = ⟨#[102]⟩ ∨ t = ⟨#[103]⟩ ∨ t = ⟨#[97]⟩) (n : Int) (h : 0 ≤ n ∧ n ≤ 3) : cellOk ⟨3, t, n⟩ = true ∧ (⟨3, t, n⟩ : Cel).fit := by
  refine ⟨?_, ⟨by show _ ≤ (3 : Int); omega, by show (3 : Int) ≤ _; omega, by show _ ≤ n; omega, by show n ≤ _; omega, by rcases ht with rfl | rfl | rfl <;> show (1 : Nat) ≤ _ <;> omega⟩⟩
  have hn : nameOk t = true := by rcases ht with rfl | rfl | rfl <;> decide +kernel
  unfold cellOk
  simp [hn]
  omega

/-- where a made row lies: it is the one that came, or it is new -/
def MadeAt (w : World) (a : Option Addr) (cap : Nat) (xs : List Cel) (w' : World) (a' : Option Addr) (cap' : Nat) (ys : List Cel) : Prop := (a' = a ∧ cap' = cap ∧ ys = xs) ∨ NewRow w.heap.size w' a' cap' ys
set_option maxRecDepth 100000 in
set_option maxHeartbeats 16000000 in
theorem made_where (a : Option Addr) (cap : Nat) (w : World) (xs : List Cel) (hx : Row w a cap xs) (most : Nat) (hm1 : 1 ≤ most) (hm2 : most ≤ 200) :
    Calls Try.prog 12 #[.slice a xs.length cap, .int .i64 most] w fun e w' => ∃ a' cap' ys, e = .returned (.slice a' ys.length cap') ∧ MadeAt w a cap xs w' a' cap' ys ∧ rightB ys = true ∧ ys.length ≤ most ∧ Below w.heap.size w w' := by
  have hm := hx.max
  have hle := hx.le
  have HX := mkHid hx
  clear hx
  go_enter Try.func12, Try.ntmps12
  go_wp2_with fail
  refine (refright_any a cap _ xs HX.out).mono ?_
  rintro e w1 ⟨rfl, hb1⟩
  by_cases hg : rightB xs = true ∧ xs.length ≤ most
  · obtain ⟨hr, hl⟩ := hg
    have t1 : decide (xs.length ≤ most) = true := by simp; omega
    have HE : Hid (∃ a' cap' ys, Ending.returned (.slice a xs.length cap) = .returned (.slice a' ys.length cap') ∧ MadeAt w a cap xs w1 a' cap' ys ∧ rightB ys = true ∧ ys.length ≤ most ∧ Below w.heap.size w w1) := ⟨a, cap, xs, rfl, .inl ⟨rfl, rfl, rfl⟩, hr, hl, hb1⟩
    rw [hr]
    clear hl hr
    go_wp2_with fail
    go_ret
    exact HE.out
  · by_cases hr : rightB xs = true
    · have t1 : decide (xs.length ≤ most) = false := by
        have : ¬ xs.length ≤ most := fun e => hg ⟨hr, e⟩
        simp; omega
      rw [hr]
      clear hr hg
      go_wp2_with fail
      have hown0 : LR (w1.alloc (.cells #[] 42)) w.heap.size (.slice (some ⟨w1.heap.size, 0, none⟩) 0 0) [] := World.ownsRow_made (base := w.heap.size) (e := 42) (size := 3) w1 #[] 0 hb1.size (by unfold maxLen; omega) rfl
      have HOWN0 := mkHid hown0
      have HMI0 := mkHid (MadeI.start hm1)
      have hb2 := hb1.new (.cells #[] 42)
      clear hown0
      go_loopw [5, 6, 7] (fun v nd i wr => ∃ (n : Nat) (out : List Cel) (g capo : Nat), nd = .int .i64 n ∧ i = .int .i64 out.length ∧ v = .slice (some ⟨g, 0, none⟩) out.length capo ∧ Hid (MadeI most n out) ∧ Hid (LR wr w.heap.size (.slice (some ⟨g, 0, none⟩) out.length capo) out) ∧ Below w.heap.size w wr ∧ out.length + n ≤ most) (fun v nd i wr => most - (intOf i).toNat)
      case atStart => exact ⟨1, [], w1.heap.size, 0, rfl, rfl, rfl, HMI0, HOWN0, hb2, by simpa using hm1⟩
      case round =>
        clear HOWN0 HMI0 hb2
        obtain ⟨n, out, g, capo, rfl, rfl, rfl, HMI, HLR, hbl, hrm⟩ := hrel
        cases n with
        | zero =>
          have HE : Hid (∃ a' cap' ys, Ending.returned (.slice (some ⟨g, 0, none⟩) out.length capo) = .returned (.slice a' ys.length cap') ∧ MadeAt w a cap xs wr a' cap' ys ∧ rightB ys = true ∧ ys.length ≤ most ∧ Below w.heap.size w wr) := by
            obtain ⟨q1, q2⟩ := HMI.out.done hm2
            obtain ⟨a5, cap5, e5, hr5⟩ := own_new (xs := out) HLR.out HMI.out.fit
            cases e5
            exact ⟨_, _, out, rfl, .inr hr5, q1, q2, hbl⟩
          go_wp2_with fail
          go_ret
          exact HE.out
        | succ m =>
          by_cases hlt : out.length < xs.length
          · obtain ⟨b, off, rfl, hb', hat⟩ := HX.out.cases.resolve_left (fun e => by simp [e] at hlt)
            obtain ⟨c0, c1, c2, hf⟩ := cel_at hat hbl hlt
            obtain ⟨k1, k2⟩ := mask xs[out.length].k 3 (by omega)
            obtain ⟨m1, m2⟩ := mask xs[out.length].n 7 (by omega)
            obtain ⟨n1, n2⟩ := mask xs[out.length].n 3 (by omega)
            rw [show ((3 : Nat) : Int) = 3 from rfl] at k1 k2 n1 n2
            rw [show ((7 : Nat) : Int) = 7 from rfl] at m1 m2
            have t27 : decide ((out.length : Int) < (xs.length : Int)) = true := by simp; omega
            have t27n : decide (out.length < xs.length) = true := by simp; omega
            have hbw := cell_lt c0
            have hk0 : (0 : Int) ≤ (out.length : Int) := by omega
            have hk1 : (out.length : Int) < (xs.length : Int) := by omega
            have hb3 := hbl.new (.cells #[.int .i64 3, .string ⟨#[97]⟩, .int .i64 0] 42)
            have HLR3 : Hid (LR (wr.alloc (.cells #[.int .i64 3, .string ⟨#[97]⟩, .int .i64 0] 42)) w.heap.size (.slice (some ⟨g, 0, none⟩) out.length capo) out) := World.ownsRow.alloc HLR.out _
            generalize hkk : bits .and .i64 xs[out.length].k 3 = kk at k1 k2
            generalize hm7 : bits .and .i64 xs[out.length].n 7 = v7 at m1 m2
            generalize hn3 : bits .and .i64 xs[out.length].n 3 = v3 at n1 n2
            by_cases h1 : kk = 1
            · have t35 : (kk == 1) = true := by simp [h1]
              obtain ⟨q1, q2⟩ := vcel_ok v7 ⟨m1, m2⟩
              have HN := mkHid (HMI.out.snoc q1 q2 (by show out.length + (m + 1) + 0 ≤ most; omega))
              clear h1 q1 q2
              have hb4 := hbl.new (.cells #[.int .i64 1, .string ⟨#[]⟩, .int .i64 v7] 42)
              have HLR4 : Hid (LR (wr.alloc (.cells #[.int .i64 1, .string ⟨#[]⟩, .int .i64 v7] 42)) w.heap.size (.slice (some ⟨g, 0, none⟩) out.length capo) out) := World.ownsRow.alloc HLR.out _
              go_wp2_with (at_builtin; refine wpList_lay rfl _ _ rfl w.heap.size _ out (⟨1, ⟨#[]⟩, v7⟩ : Cel) HLR4.out rfl (by simp only [World.size_alloc]; rfl) hb4.size (by omega) ?_; intro v2 w2 h1 h2 h3; obtain ⟨g2, cap2, rfl⟩ := h3)
              go_round
              case rel => exact ⟨m + ar (⟨1, ⟨#[]⟩, v7⟩ : Cel), out ++ [(⟨1, ⟨#[]⟩, v7⟩ : Cel)], g2, cap2, by go_num, by simp, by simp, HN.out, by rw [Hid, List.length_append]; exact h1, hb4.trans h2, HN.out.room⟩
              case measure => simp [intOf]; omega
            · have t35 : (kk == 1) = false := by simp [h1]
              by_cases h2 : kk = 2
              · have t55 : (kk == 2) = true := by simp [h2]
                obtain ⟨q1, q2⟩ := ncel_ok v3 ⟨n1, n2⟩
                have HN := mkHid (HMI.out.snoc q1 q2 (by show out.length + (m + 1) + 0 ≤ most; omega))
                clear h1 h2 q1 q2
                have hb4 := hbl.new (.cells #[.int .i64 2, .string ⟨#[]⟩, .int .i64 v3] 42)
                have HLR4 : Hid (LR (wr.alloc (.cells #[.int .i64 2, .string ⟨#[]⟩, .int .i64 v3] 42)) w.heap.size (.slice (some ⟨g, 0, none⟩) out.length capo) out) := World.ownsRow.alloc HLR.out _
                go_wp2_with (at_builtin; refine wpList_lay rfl _ _ rfl w.heap.size _ out (⟨2, ⟨#[]⟩, v3⟩ : Cel) HLR4.out rfl (by simp only [World.size_alloc]; rfl) hb4.size (by omega) ?_; intro v2 w2 h1 h2 h3; obtain ⟨g2, cap2, rfl⟩ := h3)
                go_round
                case rel => exact ⟨m + ar (⟨2, ⟨#[]⟩, v3⟩ : Cel), out ++ [(⟨2, ⟨#[]⟩, v3⟩ : Cel)], g2, cap2, by go_num, by simp, by simp, HN.out, by rw [Hid, List.length_append]; exact h1, hb4.trans h2, HN.out.room⟩
                case measure => simp [intOf]; omega
              · have t55 : (kk == 2) = false := by simp [h2]
                clear h1 h2
                by_cases hro : (out.length : Int) + ((m : Int) + 1) + v3 ≤ (most : Int)
                · have t81 : decide ((out.length : Int) + ((m : Int) + 1) + v3 ≤ (most : Int)) = true := by simp; omega
                  have HKS : Hid (∀ w', Below wr.heap.size wr w' → w'.cell? ⟨b, off + out.length * 3 + 1, none⟩ = some (.string xs[out.length].s) ∧ w'.cell? ⟨b, off + out.length * 3 + 2, none⟩ = some (.int .i64 xs[out.length].n)) := fun w' h => ⟨keep c1 h, keep c2 h⟩
                  have HB0 : Hid (Below wr.heap.size wr (wr.alloc (.cells #[.int .i64 3, .string ⟨#[97]⟩, .int .i64 0] 42)).drew) := ((Below.refl _ _).new _).drew
                  have hro2 : out.length + (m + 1) + v3.toNat ≤ most := by omega
                  clear hro
                  go_wp2_with fail
                  go_region_held3 (fun w' => w'.cell? ⟨b, off + out.length * 3 + 1, none⟩ = some (.string xs[out.length].s) ∧ w'.cell? ⟨b, off + out.length * 3 + 2, none⟩ = some (.int .i64 xs[out.length].n))
                    (first | exact HKS.out _ HB0.out | exact HKS.out _ (((Below.refl _ _).new _).drew) | exact HKS.out _ ((HB0.out).setCell (Nat.le_refl _) _) | exact HKS.out _ (((((HB0.out).setCell (p := ⟨wr.heap.size, 0, none⟩) (Nat.le_refl _) _).setCell (p := ⟨wr.heap.size, 1, none⟩) (Nat.le_refl _) _)).setCell (p := ⟨wr.heap.size, 2, none⟩) (Nat.le_refl _) _))
                    ((go_at_call 33; refine (name3_any _ _).mono ?_; rintro e w2 ⟨⟨tn, rfl, htn⟩, rfl⟩))
                  have hw5 : ∃ W5, W5 = (wr.alloc (.cells #[.int .i64 3, .string tn, .int .i64 v3] 42)).drew := ⟨_, rfl⟩
                  obtain ⟨W5, hW5⟩ := hw5
                  rw [← hW5]
                  have z0 : W5.cell? ⟨wr.heap.size, 0, none⟩ = some (.int .i64 3) := by rw [hW5]; exact World.cell?_alloc_at _ _ _ 0 rfl
                  have z1 : W5.cell? ⟨wr.heap.size, 1, none⟩ = some (.string tn) := by rw [hW5]; exact World.cell?_alloc_at _ _ _ 1 rfl
                  have z2 : W5.cell? ⟨wr.heap.size, 2, none⟩ = some (.int .i64 v3) := by rw [hW5]; exact World.cell?_alloc_at _ _ _ 2 rfl
                  have hl5 := cell_lt z0
                  have hb4 : Below w.heap.size w W5 := by rw [hW5]; exact (hbl.new _).drew
                  have HLR5 : Hid (LR W5 w.heap.size (.slice (some ⟨g, 0, none⟩) out.length capo) out) := by
                    rw [hW5]
                    exact World.ownsRow.alloc HLR.out (.cells #[.int .i64 3, .string tn, .int .i64 v3] 42)
                  obtain ⟨q1, q2⟩ := fcel_ok tn htn v3 ⟨n1, n2⟩
                  have HN := mkHid (HMI.out.snoc q1 q2 (by show out.length + (m + 1) + v3.toNat ≤ most; exact hro2))
                  clear hW5 q1 q2 htn
                  go_wp2_with (at_builtin; refine wpList_lay rfl _ _ rfl w.heap.size _ out (⟨3, tn, v3⟩ : Cel) HLR5.out rfl rfl hb4.size (by omega) ?_; intro v2 w2 h1 h2 h3; obtain ⟨g2, cap2, rfl⟩ := h3)
                  go_round
                  case rel => exact ⟨m + ar (⟨3, tn, v3⟩ : Cel), out ++ [(⟨3, tn, v3⟩ : Cel)], g2, cap2, (by show Value.int .i64 _ = Value.int .i64 ((m + v3.toNat : Nat) : Int); congr 1; omega), by simp, by simp, HN.out, by rw [Hid, List.length_append]; exact h1, hb4.trans h2, HN.out.room⟩
                  case measure => simp [intOf]; omega
                · have t81 : decide ((out.length : Int) + ((m : Int) + 1) + v3 ≤ (most : Int)) = false := by simp; omega
                  have HN := mkHid (HMI.out.snoc aC_ok aC_fit (by show out.length + (m + 1) + 0 ≤ most; omega))
                  clear hro
                  have hb4 := hbl.new (.cells #[.int .i64 3, .string ⟨#[97]⟩, .int .i64 0] 42)
                  have HLR4 : Hid (LR (wr.alloc (.cells #[.int .i64 3, .string ⟨#[97]⟩, .int .i64 0] 42)) w.heap.size (.slice (some ⟨g, 0, none⟩) out.length capo) out) := World.ownsRow.alloc HLR.out _
                  go_wp2_with (at_builtin; refine wpList_lay rfl _ _ rfl w.heap.size _ out aC HLR4.out rfl (by simp only [World.size_alloc]; rfl) hb4.size (by omega) ?_; intro v2 w2 h1 h2 h3; obtain ⟨g2, cap2, rfl⟩ := h3)
                  go_round
                  case rel => exact ⟨m + ar aC, out ++ [aC], g2, cap2, by go_num, by simp, by simp, HN.out, by rw [Hid, List.length_append]; exact h1, hb4.trans h2, HN.out.room⟩
                  case measure => simp [intOf]; omega
          · have t27 : decide ((out.length : Int) < (xs.length : Int)) = false := by simp; omega
            have t27n : decide (out.length < xs.length) = false := by simp; omega
            have HN := mkHid (HMI.out.snoc aC_ok aC_fit (by show out.length + (m + 1) + 0 ≤ most; omega))
            clear hlt
            have hb3 := hbl.new (.cells #[.int .i64 3, .string ⟨#[97]⟩, .int .i64 0] 42)
            have HLR3 : Hid (LR (wr.alloc (.cells #[.int .i64 3, .string ⟨#[97]⟩, .int .i64 0] 42)) w.heap.size (.slice (some ⟨g, 0, none⟩) out.length capo) out) := World.ownsRow.alloc HLR.out _
            go_wp2_with (at_builtin; refine wpList_lay rfl _ _ rfl w.heap.size _ out aC HLR3.out rfl (by simp only [World.size_alloc]; rfl) hb3.size (by omega) ?_; intro v2 w2 h1 h2 h3; obtain ⟨g2, cap2, rfl⟩ := h3)
            go_round
            case rel => exact ⟨m + ar aC, out ++ [aC], g2, cap2, by go_num, by simp, by simp, HN.out, by rw [Hid, List.length_append]; exact h1, hb3.trans h2, HN.out.room⟩
            case measure => simp [intOf]; omega
    · rw [show rightB xs = false by simpa using hr]
      clear hr hg
      go_wp2_with fail
      have hown0 : LR (w1.alloc (.cells #[] 42)) w.heap.size (.slice (some ⟨w1.heap.size, 0, none⟩) 0 0) [] := World.ownsRow_made (base := w.heap.size) (e := 42) (size := 3) w1 #[] 0 hb1.size (by unfold maxLen; omega) rfl
      have HOWN0 := mkHid hown0
      have HMI0 := mkHid (MadeI.start hm1)
      have hb2 := hb1.new (.cells #[] 42)
      clear hown0
      go_loopw [5, 6, 7] (fun v nd i wr => ∃ (n : Nat) (out : List Cel) (g capo : Nat), nd = .int .i64 n ∧ i = .int .i64 out.length ∧ v = .slice (some ⟨g, 0, none⟩) out.length capo ∧ Hid (MadeI most n out) ∧ Hid (LR wr w.heap.size (.slice (some ⟨g, 0, none⟩) out.length capo) out) ∧ Below w.heap.size w wr ∧ out.length + n ≤ most) (fun v nd i wr => most - (intOf i).toNat)
      case atStart => exact ⟨1, [], w1.heap.size, 0, rfl, rfl, rfl, HMI0, HOWN0, hb2, by simpa using hm1⟩
      case round =>
        clear HOWN0 HMI0 hb2
        obtain ⟨n, out, g, capo, rfl, rfl, rfl, HMI, HLR, hbl, hrm⟩ := hrel
        cases n with
        | zero =>
          have HE : Hid (∃ a' cap' ys, Ending.returned (.slice (some ⟨g, 0, none⟩) out.length capo) = .returned (.slice a' ys.length cap') ∧ MadeAt w a cap xs wr a' cap' ys ∧ rightB ys = true ∧ ys.length ≤ most ∧ Below w.heap.size w wr) := by
            obtain ⟨q1, q2⟩ := HMI.out.done hm2
            obtain ⟨a5, cap5, e5, hr5⟩ := own_new (xs := out) HLR.out HMI.out.fit
            cases e5
            exact ⟨_, _, out, rfl, .inr hr5, q1, q2, hbl⟩
          go_wp2_with fail
          go_ret
          exact HE.out
        | succ m =>
          by_cases hlt : out.length < xs.length
          · obtain ⟨b, off, rfl, hb', hat⟩ := HX.out.cases.resolve_left (fun e => by simp [e] at hlt)
            obtain ⟨c0, c1, c2, hf⟩ := cel_at hat hbl hlt
            obtain ⟨k1, k2⟩ := mask xs[out.length].k 3 (by omega)
            obtain ⟨m1, m2⟩ := mask xs[out.length].n 7 (by omega)
            obtain ⟨n1, n2⟩ := mask xs[out.length].n 3 (by omega)
            rw [show ((3 : Nat) : Int) = 3 from rfl] at k1 k2 n1 n2
            rw [show ((7 : Nat) : Int) = 7 from rfl] at m1 m2
            have t27 : decide ((out.length : Int) < (xs.length : Int)) = true := by simp; omega
            have t27n : decide (out.length < xs.length) = true := by simp; omega
            have hbw := cell_lt c0
            have hk0 : (0 : Int) ≤ (out.length : Int) := by omega
            have hk1 : (out.length : Int) < (xs.length : Int) := by omega
            have hb3 := hbl.new (.cells #[.int .i64 3, .string ⟨#[97]⟩, .int .i64 0] 42)
            have HLR3 : Hid (LR (wr.alloc (.cells #[.int .i64 3, .string ⟨#[97]⟩, .int .i64 0] 42)) w.heap.size (.slice (some ⟨g, 0, none⟩) out.length capo) out) := World.ownsRow.alloc HLR.out _
            generalize hkk : bits .and .i64 xs[out.length].k 3 = kk at k1 k2
            generalize hm7 : bits .and .i64 xs[out.length].n 7 = v7 at m1 m2
            generalize hn3 : bits .and .i64 xs[out.length].n 3 = v3 at n1 n2
            by_cases h1 : kk = 1
            · have t35 : (kk == 1) = true := by simp [h1]
              obtain ⟨q1, q2⟩ := vcel_ok v7 ⟨m1, m2⟩
              have HN := mkHid (HMI.out.snoc q1 q2 (by show out.length + (m + 1) + 0 ≤ most; omega))
              clear h1 q1 q2
              have hb4 := hbl.new (.cells #[.int .i64 1, .string ⟨#[]⟩, .int .i64 v7] 42)
              have HLR4 : Hid (LR (wr.alloc (.cells #[.int .i64 1, .string ⟨#[]⟩, .int .i64 v7] 42)) w.heap.size (.slice (some ⟨g, 0, none⟩) out.length capo) out) := World.ownsRow.alloc HLR.out _
              go_wp2_with (at_builtin; refine wpList_lay rfl _ _ rfl w.heap.size _ out (⟨1, ⟨#[]⟩, v7⟩ : Cel) HLR4.out rfl (by simp only [World.size_alloc]; rfl) hb4.size (by omega) ?_; intro v2 w2 h1 h2 h3; obtain ⟨g2, cap2, rfl⟩ := h3)
              go_round
              case rel => exact ⟨m + ar (⟨1, ⟨#[]⟩, v7⟩ : Cel), out ++ [(⟨1, ⟨#[]⟩, v7⟩ : Cel)], g2, cap2, by go_num, by simp, by simp, HN.out, by rw [Hid, List.length_append]; exact h1, hb4.trans h2, HN.out.room⟩
              case measure => simp [intOf]; omega
            · have t35 : (kk == 1) = false := by simp [h1]
              by_cases h2 : kk = 2
              · have t55 : (kk == 2) = true := by simp [h2]
                obtain ⟨q1, q2⟩ := ncel_ok v3 ⟨n1, n2⟩
                have HN := mkHid (HMI.out.snoc q1 q2 (by show out.length + (m + 1) + 0 ≤ most; omega))
                clear h1 h2 q1 q2
                have hb4 := hbl.new (.cells #[.int .i64 2, .string ⟨#[]⟩, .int .i64 v3] 42)
                have HLR4 : Hid (LR (wr.alloc (.cells #[.int .i64 2, .string ⟨#[]⟩, .int .i64 v3] 42)) w.heap.size (.slice (some ⟨g, 0, none⟩) out.length capo) out) := World.ownsRow.alloc HLR.out _
                go_wp2_with (at_builtin; refine wpList_lay rfl _ _ rfl w.heap.size _ out (⟨2, ⟨#[]⟩, v3⟩ : Cel) HLR4.out rfl (by simp only [World.size_alloc]; rfl) hb4.size (by omega) ?_; intro v2 w2 h1 h2 h3; obtain ⟨g2, cap2, rfl⟩ := h3)
                go_round
                case rel => exact ⟨m + ar (⟨2, ⟨#[]⟩, v3⟩ : Cel), out ++ [(⟨2, ⟨#[]⟩, v3⟩ : Cel)], g2, cap2, by go_num, by simp, by simp, HN.out, by rw [Hid, List.length_append]; exact h1, hb4.trans h2, HN.out.room⟩
                case measure => simp [intOf]; omega
              · have t55 : (kk == 2) = false := by simp [h2]
                clear h1 h2
                by_cases hro : (out.length : Int) + ((m : Int) + 1) + v3 ≤ (most : Int)
                · have t81 : decide ((out.length : Int) + ((m : Int) + 1) + v3 ≤ (most : Int)) = true := by simp; omega
                  have HKS : Hid (∀ w', Below wr.heap.size wr w' → w'.cell? ⟨b, off + out.length * 3 + 1, none⟩ = some (.string xs[out.length].s) ∧ w'.cell? ⟨b, off + out.length * 3 + 2, none⟩ = some (.int .i64 xs[out.length].n)) := fun w' h => ⟨keep c1 h, keep c2 h⟩
                  have HB0 : Hid (Below wr.heap.size wr (wr.alloc (.cells #[.int .i64 3, .string ⟨#[97]⟩, .int .i64 0] 42)).drew) := ((Below.refl _ _).new _).drew
                  have hro2 : out.length + (m + 1) + v3.toNat ≤ most := by omega
                  clear hro
                  go_wp2_with fail
                  go_region_held3 (fun w' => w'.cell? ⟨b, off + out.length * 3 + 1, none⟩ = some (.string xs[out.length].s) ∧ w'.cell? ⟨b, off + out.length * 3 + 2, none⟩ = some (.int .i64 xs[out.length].n))
                    (first | exact HKS.out _ HB0.out | exact HKS.out _ (((Below.refl _ _).new _).drew) | exact HKS.out _ ((HB0.out).setCell (Nat.le_refl _) _) | exact HKS.out _ (((((HB0.out).setCell (p := ⟨wr.heap.size, 0, none⟩) (Nat.le_refl _) _).setCell (p := ⟨wr.heap.size, 1, none⟩) (Nat.le_refl _) _)).setCell (p := ⟨wr.heap.size, 2, none⟩) (Nat.le_refl _) _))
                    ((go_at_call 33; refine (name3_any _ _).mono ?_; rintro e w2 ⟨⟨tn, rfl, htn⟩, rfl⟩))
                  have hw5 : ∃ W5, W5 = (wr.alloc (.cells #[.int .i64 3, .string tn, .int .i64 v3] 42)).drew := ⟨_, rfl⟩
                  obtain ⟨W5, hW5⟩ := hw5
                  rw [← hW5]
                  have z0 : W5.cell? ⟨wr.heap.size, 0, none⟩ = some (.int .i64 3) := by rw [hW5]; exact World.cell?_alloc_at _ _ _ 0 rfl
                  have z1 : W5.cell? ⟨wr.heap.size, 1, none⟩ = some (.string tn) := by rw [hW5]; exact World.cell?_alloc_at _ _ _ 1 rfl
                  have z2 : W5.cell? ⟨wr.heap.size, 2, none⟩ = some (.int .i64 v3) := by rw [hW5]; exact World.cell?_alloc_at _ _ _ 2 rfl
                  have hl5 := cell_lt z0
                  have hb4 : Below w.heap.size w W5 := by rw [hW5]; exact (hbl.new _).drew
                  have HLR5 : Hid (LR W5 w.heap.size (.slice (some ⟨g, 0, none⟩) out.length capo) out) := by
                    rw [hW5]
                    exact World.ownsRow.alloc HLR.out (.cells #[.int .i64 3, .string tn, .int .i64 v3] 42)
                  obtain ⟨q1, q2⟩ := fcel_ok tn htn v3 ⟨n1, n2⟩
                  have HN := mkHid (HMI.out.snoc q1 q2 (by show out.length + (m + 1) + v3.toNat ≤ most; exact hro2))
                  clear hW5 q1 q2 htn
                  go_wp2_with (at_builtin; refine wpList_lay rfl _ _ rfl w.heap.size _ out (⟨3, tn, v3⟩ : Cel) HLR5.out rfl rfl hb4.size (by omega) ?_; intro v2 w2 h1 h2 h3; obtain ⟨g2, cap2, rfl⟩ := h3)
                  go_round
                  case rel => exact ⟨m + ar (⟨3, tn, v3⟩ : Cel), out ++ [(⟨3, tn, v3⟩ : Cel)], g2, cap2, (by show Value.int .i64 _ = Value.int .i64 ((m + v3.toNat : Nat) : Int); congr 1; omega), by simp, by simp, HN.out, by rw [Hid, List.length_append]; exact h1, hb4.trans h2, HN.out.room⟩
                  case measure => simp [intOf]; omega
                · have t81 : decide ((out.length : Int) + ((m : Int) + 1) + v3 ≤ (most : Int)) = false := by simp; omega
                  have HN := mkHid (HMI.out.snoc aC_ok aC_fit (by show out.length + (m + 1) + 0 ≤ most; omega))
                  clear hro
                  have hb4 := hbl.new (.cells #[.int .i64 3, .string ⟨#[97]⟩, .int .i64 0] 42)
                  have HLR4 : Hid (LR (wr.alloc (.cells #[.int .i64 3, .string ⟨#[97]⟩, .int .i64 0] 42)) w.heap.size (.slice (some ⟨g, 0, none⟩) out.length capo) out) := World.ownsRow.alloc HLR.out _
                  go_wp2_with (at_builtin; refine wpList_lay rfl _ _ rfl w.heap.size _ out aC HLR4.out rfl (by simp only [World.size_alloc]; rfl) hb4.size (by omega) ?_; intro v2 w2 h1 h2 h3; obtain ⟨g2, cap2, rfl⟩ := h3)
                  go_round
                  case rel => exact ⟨m + ar aC, out ++ [aC], g2, cap2, by go_num, by simp, by simp, HN.out, by rw [Hid, List.length_append]; exact h1, hb4.trans h2, HN.out.room⟩
                  case measure => simp [intOf]; omega
          · have t27 : decide ((out.length : Int) < (xs.length : Int)) = false := by simp; omega
            have t27n : decide (out.length < xs.length) = false := by simp; omega
            have HN := mkHid (HMI.out.snoc aC_ok aC_fit (by show out.length + (m + 1) + 0 ≤ most; omega))
            clear hlt
            have hb3 := hbl.new (.cells #[.int .i64 3, .string ⟨#[97]⟩, .int .i64 0] 42)
            have HLR3 : Hid (LR (wr.alloc (.cells #[.int .i64 3, .string ⟨#[97]⟩, .int .i64 0] 42)) w.heap.size (.slice (some ⟨g, 0, none⟩) out.length capo) out) := World.ownsRow.alloc HLR.out _
            go_wp2_with (at_builtin; refine wpList_lay rfl _ _ rfl w.heap.size _ out aC HLR3.out rfl (by simp only [World.size_alloc]; rfl) hb3.size (by omega) ?_; intro v2 w2 h1 h2 h3; obtain ⟨g2, cap2, rfl⟩ := h3)
            go_round
            case rel => exact ⟨m + ar aC, out ++ [aC], g2, cap2, by go_num, by simp, by simp, HN.out, by rw [Hid, List.length_append]; exact h1, hb3.trans h2, HN.out.room⟩
            case measure => simp [intOf]; omega
theorem made_any (a : Option Addr) (cap : Nat) (w : World) (xs : List Cel) (hx : Row w a cap xs) (most : Nat) (hm1 : 1 ≤ most) (hm2 : most ≤ 200) :
    Calls Try.prog 12 #[.slice a xs.length cap, .int .i64 most] w fun e w' => ∃ a' cap' ys, e = .returned (.slice a' ys.length cap') ∧ Row w' a' cap' ys ∧ rightB ys = true ∧ ys.length ≤ most ∧ Below w.heap.size w w' :=
  (made_where a cap w xs hx most hm1 hm2).mono fun e w' ⟨a', cap', ys, h1, h2, h3, h4, h5⟩ => ⟨a', cap', ys, h1, by
    rcases h2 with ⟨rfl, rfl, rfl⟩ | h2
    · exact hx.below h5
    · exact h2.row, h3, h4, h5⟩
end Go.Proofs.Ytlddglajdcednaa

namespace Go.Proofs.Ytlddglajdcednaa

/-! ### the other way round it is the same; of a term and itself it is nothing -/
theorem both_comm (a b : List Cel) : bothL a b = bothL b a := by
  have up : ∀ xs ys : List Int, xs.Pairwise (· < ·) → ys.Pairwise (· < ·) → (∀ v, v ∈ xs ↔ v ∈ ys) → xs = ys := by
    intro xs
    induction xs with
    | nil =>
      intro ys _ _ h
      cases ys with
      | nil => rfl
      | cons y ys => exact absurd ((h y).2 List.mem_cons_self) (by simp)
    | cons x xs ih =>
      intro ys hx hy h
      cases ys with
      | nil => exact absurd ((h x).1 List.mem_cons_self) (by simp)
      | cons y ys =>
        obtain ⟨x1, x2⟩ := List.pairwise_cons.1 hx
        obtain ⟨y1, y2⟩ := List.pairwise_cons.1 hy
        have e : x = y := by
          rcases List.mem_cons.1 ((h x).1 List.mem_cons_self) with e | e
          · exact e
          · rcases List.mem_cons.1 ((h y).2 List.mem_cons_self) with e' | e'
            · exact e'.symm
            · have := y1 x e; have := x1 y e'; omega
        subst e
        rw [ih ys x2 y2 fun v => ?_]
        constructor
        · intro hv
          rcases List.mem_cons.1 ((h v).1 (List.mem_cons_of_mem _ hv)) with e | e
          · have := x1 v hv; omega
          · exact e
        · intro hv
          rcases List.mem_cons.1 ((h v).2 (List.mem_cons_of_mem _ hv)) with e | e
          · have := y1 v hv; omega
          · exact e
  refine up _ _ (rise_up _) (rise_up _) fun v => ?_
  rw [both_iff, both_iff]
  constructor <;> rintro ⟨c, h1, h2⟩ <;> exact ⟨c, by rw [List.mem_append] at h1 ⊢; exact h1.symm, h2⟩
theorem put_same {F G : Int → List Cel} : ∀ t : List Cel, (∀ c ∈ t, c.k = 1 → F c.n = G c.n) → putF F t = putF G t
  | [], _ => rfl
  | c :: t, h => by
    have ih := put_same t fun d hd => h d (List.mem_cons_of_mem _ hd)
    by_cases hk : c.k = 1
    · rw [putF_var F hk, putF_var G hk, ih, h c List.mem_cons_self hk]
    · rw [putF_cell F hk, putF_cell G hk, ih]
theorem put_id : ∀ t : List Cel, (∀ c ∈ t, cellOk c = true) → ∀ F : Int → List Cel, (∀ c ∈ t, c.k = 1 → F c.n = [varC c.n]) → putF F t = t
  | [], _, _, _ => rfl
  | c :: t, hc, F, h => by
    have ih := put_id t (fun d hd => hc d (List.mem_cons_of_mem _ hd)) F fun d hd => h d (List.mem_cons_of_mem _ hd)
    by_cases hk : c.k = 1
    · rw [putF_var F hk, ih, h c List.mem_cons_self hk, ← cellOk_var (hc c List.mem_cons_self) hk]; rfl
    · rw [putF_cell F hk, ih]
/-- made a term everywhere -/
def full (F : Int → List Cel) (vs : List Int) (v : Int) : List Cel := if v ∈ vs then F v else [varC 0]
theorem full_at {F : Int → List Cel} {vs : List Int} {v : Int} (h : v ∈ vs) : full F vs v = F v := if_pos h
theorem isT_zero : IsT [varC 0] := by
  refine IsT_of_sk ?_
  simp [sk, varC, cellOk, ar, ByteArray.toList_eq]
theorem full_isT {F : Int → List Cel} {vs : List Int} (h : ∀ v ∈ vs, IsT (F v)) (v : Int) : IsT (full F vs v) := by
  unfold full; split
  · next hv => exact h v hv
  · exact isT_zero
theorem put_full {F : Int → List Cel} {vs : List Int} (t : List Cel) (h : ∀ c ∈ t, c.k = 1 → c.n ∈ vs) : putF (full F vs) t = putF F t :=
  put_same t fun c hc hk => full_at (h c hc hk)
theorem mem_both_l {a b : List Cel} {c : Cel} (hc : c ∈ a ++ b) (hk : c.k = 1) : c.n ∈ bothL a b := both_iff.2 ⟨c, hc, hk, rfl⟩
theorem put_len {F : Int → List Cel} : ∀ t : List Cel, (∀ c ∈ t, c.k = 1 → F c.n ≠ []) → t.length ≤ (putF F t).length := fun t h => (put_fix t h).1
theorem told_turn {a b : List Cel} (hok : ∀ c ∈ a ++ b, cellOk c = true) {F F' : Int → List Cel} (T : ToldF a b F) (T' : ToldF b a F') : ∀ v ∈ bothL a b, F v = F' v := by
  have hv' : ∀ v, v ∈ bothL a b ↔ v ∈ bothL b a := fun v => by rw [both_comm]
  have hw' : ∀ v ∈ bothL a b, ∀ c ∈ F' v, c ∈ a ++ b := fun v hv c hc => by
    have := T'.within v ((hv' v).1 hv) c hc
    rw [List.mem_append] at this ⊢; exact this.symm
  have ina : ∀ c ∈ a, c.k = 1 → c.n ∈ bothL a b := fun c hc hk => mem_both_l (List.mem_append.2 (.inl hc)) hk
  have inb : ∀ c ∈ b, c.k = 1 → c.n ∈ bothL a b := fun c hc hk => mem_both_l (List.mem_append.2 (.inr hc)) hk
  have m1 : ∀ v ∈ bothL a b, putF F (F' v) = F v := by
    intro v hv
    have h := T'.most (full F (bothL a b)) (full_isT T.isT) (by rw [put_full b inb, put_full a ina]; exact T.alike.symm) v ((hv' v).1 hv)
    rwa [put_full _ (fun c hc hk => mem_both_l (hw' v hv c hc) hk), full_at hv] at h
  have m2 : ∀ v ∈ bothL a b, putF F' (F v) = F' v := by
    intro v hv
    have ha' : ∀ c ∈ a, c.k = 1 → c.n ∈ bothL b a := fun c hc hk => (hv' _).1 (ina c hc hk)
    have hb' : ∀ c ∈ b, c.k = 1 → c.n ∈ bothL b a := fun c hc hk => (hv' _).1 (inb c hc hk)
    have h := T.most (full F' (bothL b a)) (full_isT T'.isT) (by rw [put_full a ha', put_full b hb']; exact T'.alike.symm) v hv
    rwa [put_full _ (fun c hc hk => (hv' _).1 (mem_both_l (T.within v hv c hc) hk)), full_at ((hv' v).1 hv)] at h
  intro v hv
  rw [← m2 v hv]
  -- F' leaves the variables of F v as they are
  symm
  refine put_id (F v) (fun c hc => hok c (T.within v hv c hc)) F' fun x hx hk => ?_
  have hxv := mem_both_l (T.within v hv x hx) hk
  have hFx : F x.n = [x] := (put_fix (F v) fun d hd hdk => (T.isT _ (mem_both_l (T.within v hv d hd) hdk)).ne).2 (T.twice v hv) x hx hk
  have hx0 := hok x (T.within v hv x hx)
  have e1 := m1 x.n hxv
  rw [hFx] at e1
  -- F' x is one variable
  have hl := put_len (F := F) (F' x.n) fun d hd hdk => (T.isT _ (mem_both_l (hw' x.n hxv d hd) hdk)).ne
  rw [e1] at hl
  have hne := (T'.isT x.n ((hv' _).1 hxv)).ne
  cases hF' : F' x.n with
  | nil => exact absurd hF' hne
  | cons y ys =>
    rw [hF'] at hl e1
    have hys : ys = [] := List.eq_nil_of_length_eq_zero (by simp only [List.length_cons, List.length_nil] at hl; omega)
    subst hys
    have hy0 := hok y (hw' x.n hxv y (by rw [hF']; exact List.mem_cons_self))
    by_cases hyk : y.k = 1
    · rw [putF_var F hyk] at e1
      have e1 : F y.n = [x] := by simpa [putF] using e1
      have hyv := mem_both_l (hw' x.n hxv y (by rw [hF']; exact List.mem_cons_self)) hyk
      have l1 := T.least y.n hyv x.n (by rw [e1, ← cellOk_var hx0 hk])
      have l2 := T'.least x.n ((hv' _).1 hxv) y.n (by rw [hF', ← cellOk_var hy0 hyk])
      have : x.n = y.n := by omega
      rw [cellOk_var hy0 hyk, this]
    · rw [putF_cell F hyk] at e1
      have : y = x := by injection e1
      rw [this] at hyk; exact absurd hk hyk
theorem mgu_turn {a b : List Cel} (ha : IsT a) (hb : IsT b) (hok : ∀ c ∈ a ++ b, cellOk c = true) : mguL a b = mguL b a := by
  rcases mgu_told ha hb with ⟨e, n⟩ | ⟨F, T, e⟩
  · rcases mgu_told hb ha with ⟨e', _⟩ | ⟨F', T', _⟩
    · rw [e, e']
    · exfalso
      have ha' : ∀ c ∈ a, c.k = 1 → c.n ∈ bothL b a := fun c hc hk => mem_both_l (List.mem_append.2 (.inr hc)) hk
      have hb' : ∀ c ∈ b, c.k = 1 → c.n ∈ bothL b a := fun c hc hk => mem_both_l (List.mem_append.2 (.inl hc)) hk
      exact n _ (full_isT T'.isT) (by rw [put_full a ha', put_full b hb']; exact T'.alike.symm)
  · rcases mgu_told hb ha with ⟨_, n⟩ | ⟨F', T', e'⟩
    · exfalso
      have ha' : ∀ c ∈ a, c.k = 1 → c.n ∈ bothL a b := fun c hc hk => mem_both_l (List.mem_append.2 (.inl hc)) hk
      have hb' : ∀ c ∈ b, c.k = 1 → c.n ∈ bothL a b := fun c hc hk => mem_both_l (List.mem_append.2 (.inr hc)) hk
      exact n _ (full_isT T.isT) (by rw [put_full a ha', put_full b hb']; exact T.alike.symm)
    · have h := told_turn hok T T'
      have e1 : (bothL a b).any (fun v => decide (200 < (F v).length)) = (bothL a b).any (fun v => decide (200 < (F' v).length)) := by
        rw [Bool.eq_iff_iff, List.any_eq_true, List.any_eq_true]
        constructor <;> rintro ⟨v, hv, h'⟩ <;> exact ⟨v, hv, by have := h v hv; first | rwa [← this] | rwa [this]⟩
      have e2 : bindL F (bothL a b) = bindL F' (bothL a b) := by
        have gen : ∀ vs : List Int, (∀ v ∈ vs, F v = F' v) → bindL F vs = bindL F' vs := by
          intro vs
          induction vs with
          | nil => intro _; rfl
          | cons w ws ih =>
            intro h
            unfold bindL at ih ⊢
            rw [List.flatMap_cons, List.flatMap_cons, ih fun v hv => h v (List.mem_cons_of_mem _ hv)]
            unfold bindC
            rw [h w List.mem_cons_self]
        exact gen _ h
      rw [e, e', e1, e2, ← both_comm a b]
end Go.Proofs.Ytlddglajdcednaa

namespace Go.Proofs.Ytlddglajdcednaa

/-! ### what the laws ask of Mgu's reckoning -/
/-- variables for themselves, where they may stand -/
def selfF (v : Int) : List Cel := if 0 ≤ v ∧ v ≤ 999 then [varC v] else [varC 0]
theorem isT_var {v : Int} (h0 : 0 ≤ v) (h9 : v ≤ 999) : IsT [varC v] := by
  refine IsT_of_sk ?_
  have : cellOk (varC v) = true := by simp [varC, cellOk, ByteArray.toList_eq, h0, h9]
  have h2 : ar (varC v) = 0 := if_neg (by simp [varC])
  rw [sk, if_pos this, h2]
  rfl
theorem self_isT (v : Int) : IsT (selfF v) := by
  unfold selfF; split
  · next h => exact isT_var h.1 h.2
  · exact isT_zero
theorem put_self (t : List Cel) (h : ∀ c ∈ t, cellOk c = true) : putF selfF t = t :=
  put_id t h selfF fun c hc hk => if_pos (var_range (h c hc) hk)
theorem isT_ok {t : List Cel} (h : IsT t) : ∀ c ∈ t, cellOk c = true := by
  have hG : Good t := fun i hi => sk_good t 1 [] h.reads i (by simpa using hi)
  intro c hc
  obtain ⟨i, hi, rfl⟩ := List.getElem_of_mem hc
  exact good_ok hG hi
theorem two_ok {a b : List Cel} (ha : IsT a) (hb : IsT b) : ∀ c ∈ a ++ b, cellOk c = true := fun c hc => by
  rcases List.mem_append.1 hc with h | h
  · exact isT_ok ha c h
  · exact isT_ok hb c h
/-- where the two are the same there is nothing to put in -/
theorem mgu_self {a : List Cel} (ha : IsT a) : mguL a a = some (some []) := by
  rcases mgu_told ha ha with ⟨_, n⟩ | ⟨F, T, e⟩
  · exact absurd rfl (n selfF self_isT)
  · have hF : ∀ v ∈ bothL a a, F v = [varC v] := by
      intro v hv
      have h := T.most selfF self_isT rfl v hv
      rw [put_self (F v) (fun c hc => two_ok ha ha c (T.within v hv c hc))] at h
      obtain ⟨c, h1, h2, h3⟩ := both_iff.1 hv
      have := var_range (two_ok ha ha c h1) h2
      rw [h]; unfold selfF; rw [if_pos (by omega)]
    have e1 : (bothL a a).any (fun v => decide (200 < (F v).length)) = false := by
      rw [List.any_eq_false]
      intro v hv
      rw [hF v hv]; simp
    have e2 : ∀ vs : List Int, (∀ v ∈ vs, F v = [varC v]) → bindL F vs = [] := by
      intro vs
      induction vs with
      | nil => intro _; rfl
      | cons w ws ih =>
        intro h
        unfold bindL at ih ⊢
        rw [List.flatMap_cons, ih fun v hv => h v (List.mem_cons_of_mem _ hv)]
        unfold bindC
        rw [h w List.mem_cons_self, if_pos (by rfl)]; rfl
    rw [e, e1, e2 _ hF]; rfl
/-- of a term and one that is deeper by a name around it there is none -/
theorem mgu_deep {a : List Cel} {f : Cel} (ha : IsT a) (hf : IsT (f :: a)) (hk : f.k ≠ 1) : mguL a (f :: a) = none := by
  rcases mgu_told ha hf with ⟨e, _⟩ | ⟨F, T, _⟩
  · exact e
  · exfalso
    have h := congrArg List.length T.alike
    rw [putF_cell F hk, List.length_cons] at h
    omega
theorem look_in {s : List Bnd} {n : Int} {t : List Cel} (h : look s n = some t) : ⟨n, t⟩ ∈ s := by
  unfold look at h
  rw [Option.map_eq_some_iff] at h
  obtain ⟨b, h1, h2⟩ := h
  have hm := List.mem_of_find?_eq_some h1
  have hp := List.find?_some h1
  have hp : b.v = n := by simpa using hp
  subst hp; subst h2
  exact hm
/-- what is told, in the bindings' own words -/
theorem mgu_alike {a b : List Cel} (ha : IsT a) (hb : IsT b) {B : List Bnd} (e : mguL a b = some (some B)) :
    rightS B = true ∧ idemB B = true ∧ putL (look B) a = putL (look B) b ∧ ∀ x ∈ B, x.v ∈ bothL a b := by
  rcases mgu_told ha hb with ⟨e', _⟩ | ⟨F, T, e'⟩
  · rw [e'] at e; cases e
  · rw [e'] at e
    injection e with e
    split at e
    · cases e
    · next hany =>
      injection e with e
      subst e
      have hany : ∀ v ∈ bothL a b, (F v).length ≤ 200 := fun v hv => by
        have h : (bothL a b).any (fun v => decide (200 < (F v).length)) = false := by simpa using hany
        rw [List.any_eq_false] at h
        have := h v hv
        simp at this; omega
      have hok := two_ok ha hb
      have hrange : ∀ v ∈ bothL a b, 0 ≤ v ∧ v ≤ 999 := fun v hv => by
        obtain ⟨c, h1, h2, rfl⟩ := both_iff.1 hv
        exact var_range (hok c h1) h2
      refine ⟨right_bind _ 0 (rise_up _) hrange fun v hv => ⟨T.isT v hv, hany v hv⟩, idem_bind T.isT T.twice fun v hv c hc hk => ⟨mem_both_l (T.within v hv c hc) hk, hok c (T.within v hv c hc)⟩, ?_, fun x hx => ?_⟩
      · rw [put_bind T.isT a (fun c hc => isT_ok ha c hc) (fun c hc hk => mem_both_l (List.mem_append.2 (.inl hc)) hk), put_bind T.isT b (fun c hc => isT_ok hb c hc) (fun c hc hk => mem_both_l (List.mem_append.2 (.inr hc)) hk)]
        exact T.alike
      · obtain ⟨v, hv, hx⟩ := List.mem_flatMap.1 hx
        unfold bindC at hx
        split at hx
        · cases hx
        · rw [List.mem_singleton.1 hx]; exact hv
/-- none, or too big: the two are not the same -/
theorem mgu_not {a b : List Cel} (ha : IsT a) (e : ∀ B, mguL a b ≠ some (some B)) : a ≠ b := by
  rintro rfl
  exact e [] (mgu_self ha)
/-- whatever makes the same: something is told, or it is too big; and put in first it changes nothing -/
theorem mgu_most {a b : List Cel} (ha : IsT a) (hb : IsT b) {G : Int → List Cel} (hT : ∀ v, IsT (G v)) (eG : putF G a = putF G b) :
    mguL a b = some none ∨ ∃ B, mguL a b = some (some B) ∧ ∀ x ∈ B, putF G x.t = G x.v := by
  rcases mgu_told ha hb with ⟨_, n⟩ | ⟨F, T, e'⟩
  · exact absurd eG (n G hT)
  · rw [e']
    split
    · exact .inl rfl
    · refine .inr ⟨_, rfl, fun x hx => ?_⟩
      obtain ⟨v, hv, hx⟩ := List.mem_flatMap.1 hx
      unfold bindC at hx
      split at hx
      · cases hx
      · rw [List.mem_singleton.1 hx]; exact T.most G hT eG v hv
/-- a right term stands alone: what has no variable to put in stays -/
theorem put_ground {t : List Cel} (h : ∀ c ∈ t, c.k ≠ 1) (F : Int → List Cel) : putF F t = t := by
  induction t with
  | nil => rfl
  | cons c t ih => rw [putF_cell F (h c List.mem_cons_self), ih fun d hd => h d (List.mem_cons_of_mem _ hd)]
/-- against a term without variables: what is told is all that it takes: each variable's term has none -/
theorem mgu_ground {a b : List Cel} (ha : IsT a) (hb : IsT b) (hg : ∀ c ∈ b, c.k ≠ 1) {G : Int → List Cel} (hT : ∀ v, IsT (G v)) (eG : putF G a = b) :
    mguL a b = some (if (bothL a b).any (fun v => decide (200 < (G v).length)) then none else some (bindL G (bothL a b))) := by
  have eG' : putF G a = putF G b := by rw [put_ground hg, eG]
  rcases mgu_told ha hb with ⟨_, n⟩ | ⟨F, T, e⟩
  · exact absurd eG' (n G hT)
  · -- F makes of a what stands in b, so F is G
    have hFa : putF F a = putF G a := by rw [T.alike, put_ground hg, eG]
    have same : ∀ (k : Nat) (t : List Cel), t.length ≤ k → (∀ c ∈ t, c.k = 1 → c.n ∈ bothL a b) → putF F t = putF G t → ∀ c ∈ t, c.k = 1 → F c.n = G c.n := by
      intro k
      induction k with
      | zero => intro t ht _ _ c hc; have : t = [] := List.eq_nil_of_length_eq_zero (by omega); subst this; cases hc
      | succ k ih =>
        intro t ht hv et c hc hk
        cases t with
        | nil => cases hc
        | cons d t =>
          have hv' : ∀ c ∈ t, c.k = 1 → c.n ∈ bothL a b := fun c hc => hv c (List.mem_cons_of_mem _ hc)
          by_cases hd : d.k = 1
          · rw [putF_var F hd, putF_var G hd] at et
            obtain ⟨e1, e2⟩ := (T.isT _ (hv d List.mem_cons_self hd)).inj (hT d.n) et
            rcases List.mem_cons.1 hc with rfl | hc
            · exact e1
            · exact ih t (by simpa using ht) hv' e2 c hc hk
          · rw [putF_cell F hd, putF_cell G hd, List.cons.injEq] at et
            rcases List.mem_cons.1 hc with rfl | hc
            · exact absurd hk hd
            · exact ih t (by simpa using ht) hv' et.2 c hc hk
    have hFG : ∀ v ∈ bothL a b, F v = G v := by
      intro v hv
      obtain ⟨c, h1, h2, rfl⟩ := both_iff.1 hv
      rcases List.mem_append.1 h1 with h1 | h1
      · exact same _ a (Nat.le_refl _) (fun c hc hk => mem_both_l (List.mem_append.2 (.inl hc)) hk) hFa c h1 h2
      · exact absurd h2 (hg c h1)
    have e1 : (bothL a b).any (fun v => decide (200 < (F v).length)) = (bothL a b).any (fun v => decide (200 < (G v).length)) := by
      rw [Bool.eq_iff_iff, List.any_eq_true, List.any_eq_true]
      constructor <;> rintro ⟨v, hv, h'⟩ <;> exact ⟨v, hv, by have := hFG v hv; first | rwa [← this] | rwa [this]⟩
    have gen : ∀ vs : List Int, (∀ v ∈ vs, F v = G v) → bindL F vs = bindL G vs := by
      intro vs
      induction vs with
      | nil => intro _; rfl
      | cons w ws ih =>
        intro h
        unfold bindL at ih ⊢
        rw [List.flatMap_cons, List.flatMap_cons, ih fun v hv => h v (List.mem_cons_of_mem _ hv)]
        unfold bindC
        rw [h w List.mem_cons_self]
    rw [e, e1, gen _ hFG]
end Go.Proofs.Ytlddglajdcednaa
namespace Go.Proofs.Ytlddglajdcednaa
open Go.RowKit

theorem isT_deep {a : List Cel} (ha : IsT a) : IsT (fnC 1 :: a) := by
  intro m rest
  have h : cellOk (fnC 1) = true := by decide +kernel
  rw [List.cons_append]
  simp only [sk, h, if_true]
  have h1 : ar (fnC 1) = 1 := by decide +kernel
  rw [h1]
  exact ha m rest
theorem right_deep {a : List Cel} (h : rightB a = true) (hl : a.length ≤ 30) : rightB (fnC 1 :: a) = true := by
  have h1 := isT_deep (isT_of_right h).1 0 []
  rw [List.append_nil, sk_zero] at h1
  unfold rightB endI
  rw [List.drop_zero, h1]
  simp
  omega
def ansL : Option (Option (List Bnd)) → List Bnd
  | some (some L) => L
  | _ => []
def ansE : Option (Option (List Bnd)) → Int
  | none => 3
  | some none => 2
  | some (some _) => 0
theorem row_none {α : Type} [Rep α] (w : World) : Row w none 0 ([] : List α) := Row.empty w none 0 (by omega) (fun _ => rfl)
theorem mgu_ans (a : Option Addr) (cap : Nat) (a' : Option Addr) (cap' : Nat) (w : World) (xs ys : List Cel) (hx : Row w a cap xs) (hy : Row w a' cap' ys) (rx : rightB xs = true) (ry : rightB ys = true) (o : Option (Option (List Bnd))) (ho : o = mguL xs ys) :
    Calls Try.prog 13 #[.slice a xs.length cap, .slice a' ys.length cap'] w fun e w' => ∃ a2 cap2, e = .returned (.tuple #[.slice a2 (ansL o).length cap2, .int .i64 (ansE o)]) ∧ Row w' a2 cap2 (ansL o) ∧ Below w.heap.size w w' := by
  refine (mgu_any a cap a' cap' w xs ys hx hy rx ry o ho).mono fun e w' h => ?_
  obtain ⟨h1, h2⟩ := h
  rcases o with _ | _ | L
  · exact ⟨none, 0, h2, row_none _, h1⟩
  · exact ⟨none, 0, h2, row_none _, h1⟩
  · obtain ⟨a2, c2, h3, h4⟩ := h2
    exact ⟨a2, c2, h3, h4, h1⟩
set_option maxRecDepth 100000 in
set_option maxHeartbeats 8000000 in
theorem lawTurn_any (w : World) (xs ys : List Cel) (a : Option Addr) (cap : Nat) (a' : Option Addr) (cap' : Nat) (hx : Row w a cap xs) (hy : Row w a' cap' ys) :
    Calls Try.prog 6 #[.slice a xs.length cap, .slice a' ys.length cap'] w fun e w' => e = .returned (.bool true) ∧ Below w.heap.size w w' := by
  have HX := mkHid hx
  have HY := mkHid hy
  clear hx hy
  go_enter Try.func6, Try.ntmps6
  go_wp2_with fail
  refine (head_any _).mono ?_
  rintro e w1 ⟨rfl, hb1⟩
  go_wp2_with fail
  have hmd := made_any a cap w1 xs (HX.out.below hb1) 30 (by omega) (by omega)
  rw [show ((30 : Nat) : Int) = 30 from rfl] at hmd
  refine hmd.mono ?_
  clear hmd
  rintro e w2 ⟨a2, c2, p, rfl, hp, rp, lp, hb2⟩
  have hb02 := hb1.then hb2
  go_wp2_with fail
  have hmd := made_any a' cap' w2 ys (HY.out.below hb02) 30 (by omega) (by omega)
  rw [show ((30 : Nat) : Int) = 30 from rfl] at hmd
  refine hmd.mono ?_
  clear hmd
  rintro e w3 ⟨a3, c3, q, rfl, hq, rq, lq, hb3⟩
  have hb03 := hb02.then hb3
  have hp3 := hp.below hb3
  obtain ⟨o, ho⟩ : ∃ o, o = mguL p q := ⟨_, rfl⟩
  have hto : o = mguL q p := by
    rw [ho]
    refine mgu_turn (isT_of_right rp).1 (isT_of_right rq).1 (fun c hc => ?_)
    rcases List.mem_append.1 hc with h | h
    · obtain ⟨i, hi, rfl⟩ := List.getElem_of_mem h; exact good_ok (right_good rp) hi
    · obtain ⟨i, hi, rfl⟩ := List.getElem_of_mem h; exact good_ok (right_good rq) hi
  have hself : some (some []) = mguL p p := (mgu_self (isT_of_right rp).1).symm
  have hdeep : none = mguL p (fnC 1 :: p) := (mgu_deep (isT_of_right rp).1 (isT_deep (isT_of_right rp).1) (by decide)).symm
  have rd := right_deep rp lp
  have HO := mkHid ho
  have HTO := mkHid hto
  have HSELF := mkHid hself
  have HDEEP := mkHid hdeep
  have HRP := mkHid rp
  have HRQ := mkHid rq
  have HRD := mkHid rd
  have HP3 := mkHid hp3
  have HQ := mkHid hq
  have hpf := hp.fit
  have HPF := mkHid hpf
  clear ho hto hself hdeep rp rq rd hp hp3 hq hpf
  go_wp2_with fail
  refine (mgu_ans a2 c2 a3 c3 w3 p q HP3.out HQ.out HRP.out HRQ.out o HO.out).mono ?_
  rintro e w4 ⟨a4, c4, rfl, hx4, hb4⟩
  have hb04 := hb03.then hb4
  go_wp2_with fail
  refine (mgu_ans a3 c3 a2 c2 w4 q p (HQ.out.below hb4) (HP3.out.below hb4) HRQ.out HRP.out o HTO.out).mono ?_
  rintro e w5 ⟨a5, c5, rfl, hx5, hb5⟩
  have hb05 := hb04.then hb5
  have hp5 := (HP3.out.below hb4).below hb5
  have hx45 := hx4.below hb5
  go_wp2_with fail
  refine (mgu_some a2 c2 a2 c2 w5 p p hp5 hp5 HRP.out HRP.out [] HSELF.out).mono ?_
  rintro e w6 ⟨a6, c6, rfl, _, hb6⟩
  have hb06 := hb05.then hb6
  have hp6 := hp5.below hb6
  have hx46 := hx45.below hb6
  have hx56 := hx5.below hb6
  have hcf : (fnC 1).fit := ⟨by show _ ≤ (3 : Int); omega, by show (3 : Int) ≤ _; omega, by show _ ≤ (1 : Int); omega, by show (1 : Int) ≤ _; omega, by show (1 : Nat) ≤ _; omega⟩
  have hb07 := hb06.new (.cells #[.int .i64 3, .string ⟨#[102]⟩, .int .i64 1] 42)
  have hbn := (Below.refl w6.heap.size w6).new (.cells #[.int .i64 3, .string ⟨#[102]⟩, .int .i64 1] 42)
  have hown0 : (w6.alloc (.cells #[.int .i64 3, .string ⟨#[102]⟩, .int .i64 1] 42)).ownsRow w6.heap.size 42 3 (.slice (some ⟨w6.heap.size, 0, none⟩) 1 1) 1 (flat [fnC 1]) := by
    have := World.ownsRow_lit (base := w6.heap.size) (e := 42) (size := 3) w6 #[.int .i64 3, .string ⟨#[102]⟩, .int .i64 1] 1 (Nat.le_refl _) (by unfold maxLen; omega) rfl
    simpa [flat, fnC] using this
  have hm6 := hp6.max
  have hl6 := hp6.le
  have HP7 := mkHid (hp6.below hbn)
  have HP6 := mkHid hp6
  have HX4 := mkHid hx46
  have HX5 := mkHid hx56
  clear hx4 hx5 hx45 hp5 hp6 hx46 hx56
  go_wp2_with (at_builtin; refine wpList_app rfl _ _ 22 rfl w6.heap.size 42 3 32 _ Try.underlying22 Try.infoCell rfl (by decide) (by decide) _ _ _ rfl hown0 a2 p.length c2 (flat p) rfl (HP7.out.src) (by omega) hbn.size ?_; intro v' w7 hown7 _ hb7)
  rw [← flat_append] at hown7
  obtain ⟨a7, c7, rfl, hrow7⟩ := own_row (xs := [fnC 1] ++ p) (by rw [List.length_append, List.length_singleton]; exact hown7) (fun c hc => by
    rcases List.mem_append.1 hc with h | h
    · rw [List.mem_singleton] at h; rw [h]; exact hcf
    · exact HPF.out c h)
  have hb67 := hbn.trans hb7
  have hb08 := hb06.then hb67
  have HX47 := mkHid (HX4.out.below hb67)
  have HX57 := mkHid (HX5.out.below hb67)
  have hdp := mgu_none a2 c2 a7 c7 w7 p (fnC 1 :: p) (HP6.out.below hb67) hrow7 HRP.out HRD.out HDEEP.out
  have HDP := mkHid hdp
  clear hdp hrow7 hown7
  rw [show (.slice a7 ([fnC 1] ++ p).length c7 : Value) = .slice a7 (fnC 1 :: p).length c7 from rfl]
  refine HDP.out.mono ?_
  rintro e w8 ⟨rfl, hb8⟩
  have hb09 := hb08.then hb8
  go_wp2_with fail
  refine (same_yes a4 c4 a5 c5 w8 (ansL o) (ansL o) (HX47.out.below hb8) (HX57.out.below hb8) rfl).mono ?_
  rintro e w9 ⟨rfl, hb9⟩
  have hb010 := hb09.then hb9
  go_wp2_with fail
  go_ret
  exact ⟨ret_bool rfl, hb010⟩
end Go.Proofs.Ytlddglajdcednaa
