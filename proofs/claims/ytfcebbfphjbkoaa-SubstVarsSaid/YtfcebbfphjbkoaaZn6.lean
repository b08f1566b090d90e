import Derived.Test.YtfcebbfphjbkoaaZn5
namespace Go.Proofs.Ytfcebbfphjbkoaa
open Go.RowKit

set_option maxRecDepth 100000 in
set_option maxHeartbeats 6400000 in
theorem head2_any (w : World) :
    Calls Try.prog 16 #[] w fun e w' => e = .returned (.bool true) ∧ Below w.heap.size w w' := by
  go_enter Try.func16, Try.ntmps16
  go_wp2_with fail
  refine (f2_any ⟨#[103]⟩ 1 _).mono ?_
  rintro e W1 ⟨rfl, hb1⟩
  have hc1 := hb1
  go_wp2_with fail
  refine (v2_any 1 _).mono ?_
  rintro e W2 ⟨rfl, hb2⟩
  have hc2 := hc1.then hb2
  go_wp2_with fail
  have x_c1 : Row (W2.alloc (.cells #[.int .i64 3, .string ⟨#[103]⟩, .int .i64 1, .int .i64 1, .string ⟨#[]⟩, .int .i64 1] 24)) (some ⟨W2.heap.size, 0, none⟩) 2 [fC ⟨#[103]⟩ 1, varC 1] := cells_new W2 [fC ⟨#[103]⟩ 1, varC 1] (fits_cons (fC_fit (by decide) (by omega) (by omega)) (fits_cons (varC_fit (by omega) (by omega)) (fits_nil))) (by simp)
  have x_s1 : Row ((W2.alloc (.cells #[.int .i64 3, .string ⟨#[103]⟩, .int .i64 1, .int .i64 1, .string ⟨#[]⟩, .int .i64 1] 24)).alloc (.cells #[.int .i64 0, .slice (some ⟨W2.heap.size, 0, none⟩) 2 2] 46)) (some ⟨W2.heap.size + 1, 0, none⟩) 1 [(⟨0, [fC ⟨#[103]⟩ 1, varC 1]⟩ : Bnd)] := by
    have h := binds_new (W2.alloc (.cells #[.int .i64 3, .string ⟨#[103]⟩, .int .i64 1, .int .i64 1, .string ⟨#[]⟩, .int .i64 1] 24)) #[.int .i64 0, .slice (some ⟨W2.heap.size, 0, none⟩) 2 2] [(⟨0, [fC ⟨#[103]⟩ 1, varC 1]⟩ : Bnd)] (CRows.cons (bind_c (x_c1) (by omega) (by omega)) (CRows.nil)) (by simp)
    rw [World.size_alloc] at h
    exact h
  have y_c1 := (x_c1).below ((Below.refl _ _).new (.cells #[.int .i64 0, .slice (some ⟨W2.heap.size, 0, none⟩) 2 2] 46))
  have y_s1 := x_s1
  have hb3 : Below W2.heap.size W2 ((W2.alloc (.cells #[.int .i64 3, .string ⟨#[103]⟩, .int .i64 1, .int .i64 1, .string ⟨#[]⟩, .int .i64 1] 24)).alloc (.cells #[.int .i64 0, .slice (some ⟨W2.heap.size, 0, none⟩) 2 2] 46)) := ((Below.refl W2.heap.size W2).new _).new _
  obtain ⟨W3, hW⟩ : ∃ W, ((W2.alloc (.cells #[.int .i64 3, .string ⟨#[103]⟩, .int .i64 1, .int .i64 1, .string ⟨#[]⟩, .int .i64 1] 24)).alloc (.cells #[.int .i64 0, .slice (some ⟨W2.heap.size, 0, none⟩) 2 2] 46)) = W := ⟨_, rfl⟩
  rw [hW] at hb3 y_c1 y_s1 ⊢
  clear hW x_c1 x_s1
  have hc3 := hc2.then hb3
  have r_c1 := y_c1
  have r_s1 := y_s1
  clear y_c1 y_s1
  refine (f2_any ⟨#[102]⟩ 2 _).mono ?_
  rintro e W4 ⟨rfl, hb4⟩
  replace r_c1 := r_c1.below hb4
  replace r_s1 := r_s1.below hb4
  have hc4 := hc3.then hb4
  go_wp2_with fail
  refine (v2_any 0 _).mono ?_
  rintro e W5 ⟨rfl, hb5⟩
  replace r_c1 := r_c1.below hb5
  replace r_s1 := r_s1.below hb5
  have hc5 := hc4.then hb5
  go_wp2_with fail
  refine (v2_any 1 _).mono ?_
  rintro e W6 ⟨rfl, hb6⟩
  replace r_c1 := r_c1.below hb6
  replace r_s1 := r_s1.below hb6
  have hc6 := hc5.then hb6
  go_wp2_with fail
  have x_c2 : Row (W6.alloc (.cells #[.int .i64 3, .string ⟨#[102]⟩, .int .i64 2, .int .i64 1, .string ⟨#[]⟩, .int .i64 0, .int .i64 1, .string ⟨#[]⟩, .int .i64 1] 24)) (some ⟨W6.heap.size, 0, none⟩) 3 [fC ⟨#[102]⟩ 2, varC 0, varC 1] := cells_new W6 [fC ⟨#[102]⟩ 2, varC 0, varC 1] (fits_cons (fC_fit (by decide) (by omega) (by omega)) (fits_cons (varC_fit (by omega) (by omega)) (fits_cons (varC_fit (by omega) (by omega)) (fits_nil)))) (by simp)
  have y_c1 := (r_c1).below ((Below.refl _ _).new (.cells #[.int .i64 3, .string ⟨#[102]⟩, .int .i64 2, .int .i64 1, .string ⟨#[]⟩, .int .i64 0, .int .i64 1, .string ⟨#[]⟩, .int .i64 1] 24))
  have y_s1 := (r_s1).below ((Below.refl _ _).new (.cells #[.int .i64 3, .string ⟨#[102]⟩, .int .i64 2, .int .i64 1, .string ⟨#[]⟩, .int .i64 0, .int .i64 1, .string ⟨#[]⟩, .int .i64 1] 24))
  have y_c2 := x_c2
  have hb7 : Below W6.heap.size W6 (W6.alloc (.cells #[.int .i64 3, .string ⟨#[102]⟩, .int .i64 2, .int .i64 1, .string ⟨#[]⟩, .int .i64 0, .int .i64 1, .string ⟨#[]⟩, .int .i64 1] 24)) := (Below.refl W6.heap.size W6).new _
  obtain ⟨W7, hW⟩ : ∃ W, (W6.alloc (.cells #[.int .i64 3, .string ⟨#[102]⟩, .int .i64 2, .int .i64 1, .string ⟨#[]⟩, .int .i64 0, .int .i64 1, .string ⟨#[]⟩, .int .i64 1] 24)) = W := ⟨_, rfl⟩
  rw [hW] at hb7 y_c1 y_s1 y_c2 ⊢
  clear hW x_c2
  have hc7 := hc6.then hb7
  clear r_c1
  have r_c1 := y_c1
  clear r_s1
  have r_s1 := y_s1
  have r_c2 := y_c2
  clear y_c1 y_s1 y_c2
  refine (apply_lit rfl r_s1 rfl r_c2 (by decide) (by decide) (b := true) (by decide +kernel) (ts := [fC ⟨#[102]⟩ 2, fC ⟨#[103]⟩ 1, varC 1, varC 1]) (by decide +kernel) (q := 4) rfl).mono ?_
  rintro e W8 ⟨a1, cap1, rfl, r_t1, hb8⟩
  replace r_c1 := r_c1.below hb8
  replace r_s1 := r_s1.below hb8
  replace r_c2 := r_c2.below hb8
  have hc8 := hc7.then hb8
  clear r_c1 r_s1 r_c2
  go_wp2_with fail
  refine (v2_any 1 _).mono ?_
  rintro e W9 ⟨rfl, hb9⟩
  replace r_t1 := r_t1.below hb9
  have hc9 := hc8.then hb9
  go_wp2_with fail
  have x_c1 : Row (W9.alloc (.cells #[.int .i64 1, .string ⟨#[]⟩, .int .i64 1] 24)) (some ⟨W9.heap.size, 0, none⟩) 1 [varC 1] := cells_new W9 [varC 1] (fits_cons (varC_fit (by omega) (by omega)) (fits_nil)) (by simp)
  have x_s1 : Row ((W9.alloc (.cells #[.int .i64 1, .string ⟨#[]⟩, .int .i64 1] 24)).alloc (.cells #[.int .i64 0, .slice (some ⟨W9.heap.size, 0, none⟩) 1 1] 46)) (some ⟨W9.heap.size + 1, 0, none⟩) 1 [(⟨0, [varC 1]⟩ : Bnd)] := by
    have h := binds_new (W9.alloc (.cells #[.int .i64 1, .string ⟨#[]⟩, .int .i64 1] 24)) #[.int .i64 0, .slice (some ⟨W9.heap.size, 0, none⟩) 1 1] [(⟨0, [varC 1]⟩ : Bnd)] (CRows.cons (bind_c (x_c1) (by omega) (by omega)) (CRows.nil)) (by simp)
    rw [World.size_alloc] at h
    exact h
  have y_t1 := ((r_t1).below ((Below.refl _ _).new (.cells #[.int .i64 1, .string ⟨#[]⟩, .int .i64 1] 24))).below ((Below.refl _ _).new (.cells #[.int .i64 0, .slice (some ⟨W9.heap.size, 0, none⟩) 1 1] 46))
  have y_c1 := (x_c1).below ((Below.refl _ _).new (.cells #[.int .i64 0, .slice (some ⟨W9.heap.size, 0, none⟩) 1 1] 46))
  have y_s1 := x_s1
  have hb10 : Below W9.heap.size W9 ((W9.alloc (.cells #[.int .i64 1, .string ⟨#[]⟩, .int .i64 1] 24)).alloc (.cells #[.int .i64 0, .slice (some ⟨W9.heap.size, 0, none⟩) 1 1] 46)) := ((Below.refl W9.heap.size W9).new _).new _
  obtain ⟨W10, hW⟩ : ∃ W, ((W9.alloc (.cells #[.int .i64 1, .string ⟨#[]⟩, .int .i64 1] 24)).alloc (.cells #[.int .i64 0, .slice (some ⟨W9.heap.size, 0, none⟩) 1 1] 46)) = W := ⟨_, rfl⟩
  rw [hW] at hb10 y_t1 y_c1 y_s1 ⊢
  clear hW x_c1 x_s1
  have hc10 := hc9.then hb10
  clear r_t1
  have r_t1 := y_t1
  have r_c1 := y_c1
  have r_s1 := y_s1
  clear y_t1 y_c1 y_s1
  refine (v2_any 0 _).mono ?_
  rintro e W11 ⟨rfl, hb11⟩
  replace r_t1 := r_t1.below hb11
  replace r_c1 := r_c1.below hb11
  replace r_s1 := r_s1.below hb11
  have hc11 := hc10.then hb11
  go_wp2_with fail
  have x_c2 : Row (W11.alloc (.cells #[.int .i64 1, .string ⟨#[]⟩, .int .i64 0] 24)) (some ⟨W11.heap.size, 0, none⟩) 1 [varC 0] := cells_new W11 [varC 0] (fits_cons (varC_fit (by omega) (by omega)) (fits_nil)) (by simp)
  have x_s2 : Row ((W11.alloc (.cells #[.int .i64 1, .string ⟨#[]⟩, .int .i64 0] 24)).alloc (.cells #[.int .i64 1, .slice (some ⟨W11.heap.size, 0, none⟩) 1 1] 46)) (some ⟨W11.heap.size + 1, 0, none⟩) 1 [(⟨1, [varC 0]⟩ : Bnd)] := by
    have h := binds_new (W11.alloc (.cells #[.int .i64 1, .string ⟨#[]⟩, .int .i64 0] 24)) #[.int .i64 1, .slice (some ⟨W11.heap.size, 0, none⟩) 1 1] [(⟨1, [varC 0]⟩ : Bnd)] (CRows.cons (bind_c (x_c2) (by omega) (by omega)) (CRows.nil)) (by simp)
    rw [World.size_alloc] at h
    exact h
  have y_t1 := ((r_t1).below ((Below.refl _ _).new (.cells #[.int .i64 1, .string ⟨#[]⟩, .int .i64 0] 24))).below ((Below.refl _ _).new (.cells #[.int .i64 1, .slice (some ⟨W11.heap.size, 0, none⟩) 1 1] 46))
  have y_c1 := ((r_c1).below ((Below.refl _ _).new (.cells #[.int .i64 1, .string ⟨#[]⟩, .int .i64 0] 24))).below ((Below.refl _ _).new (.cells #[.int .i64 1, .slice (some ⟨W11.heap.size, 0, none⟩) 1 1] 46))
  have y_s1 := ((r_s1).below ((Below.refl _ _).new (.cells #[.int .i64 1, .string ⟨#[]⟩, .int .i64 0] 24))).below ((Below.refl _ _).new (.cells #[.int .i64 1, .slice (some ⟨W11.heap.size, 0, none⟩) 1 1] 46))
  have y_c2 := (x_c2).below ((Below.refl _ _).new (.cells #[.int .i64 1, .slice (some ⟨W11.heap.size, 0, none⟩) 1 1] 46))
  have y_s2 := x_s2
  have hb12 : Below W11.heap.size W11 ((W11.alloc (.cells #[.int .i64 1, .string ⟨#[]⟩, .int .i64 0] 24)).alloc (.cells #[.int .i64 1, .slice (some ⟨W11.heap.size, 0, none⟩) 1 1] 46)) := ((Below.refl W11.heap.size W11).new _).new _
  obtain ⟨W12, hW⟩ : ∃ W, ((W11.alloc (.cells #[.int .i64 1, .string ⟨#[]⟩, .int .i64 0] 24)).alloc (.cells #[.int .i64 1, .slice (some ⟨W11.heap.size, 0, none⟩) 1 1] 46)) = W := ⟨_, rfl⟩
  rw [hW] at hb12 y_t1 y_c1 y_s1 y_c2 y_s2 ⊢
  clear hW x_c2 x_s2
  have hc12 := hc11.then hb12
  clear r_t1
  have r_t1 := y_t1
  clear r_c1
  have r_c1 := y_c1
  clear r_s1
  have r_s1 := y_s1
  have r_c2 := y_c2
  have r_s2 := y_s2
  clear y_t1 y_c1 y_s1 y_c2 y_s2
  refine (compose_lit rfl r_s1 rfl r_s2 (by simp) (by simp) (by simp) (by simp) (by decide +kernel) (K := [(⟨1, [varC 0]⟩ : Bnd)]) (by decide +kernel) (by decide) (q := 1) rfl).mono ?_
  rintro e W13 ⟨a3, cap3, rfl, r_t3, hb13⟩
  replace r_t1 := r_t1.below hb13
  replace r_c1 := r_c1.below hb13
  replace r_s1 := r_s1.below hb13
  replace r_c2 := r_c2.below hb13
  replace r_s2 := r_s2.below hb13
  have hc13 := hc12.then hb13
  clear r_c1 r_s1 r_c2 r_s2
  go_wp2_with fail
  refine (v2_any 1 _).mono ?_
  rintro e W14 ⟨rfl, hb14⟩
  replace r_t1 := r_t1.below hb14
  replace r_t3 := r_t3.below hb14
  have hc14 := hc13.then hb14
  go_wp2_with fail
  have x_c1 : Row (W14.alloc (.cells #[.int .i64 1, .string ⟨#[]⟩, .int .i64 1] 24)) (some ⟨W14.heap.size, 0, none⟩) 1 [varC 1] := cells_new W14 [varC 1] (fits_cons (varC_fit (by omega) (by omega)) (fits_nil)) (by simp)
  have y_t1 := (r_t1).below ((Below.refl _ _).new (.cells #[.int .i64 1, .string ⟨#[]⟩, .int .i64 1] 24))
  have y_t3 := (r_t3).below ((Below.refl _ _).new (.cells #[.int .i64 1, .string ⟨#[]⟩, .int .i64 1] 24))
  have y_c1 := x_c1
  have hb15 : Below W14.heap.size W14 (W14.alloc (.cells #[.int .i64 1, .string ⟨#[]⟩, .int .i64 1] 24)) := (Below.refl W14.heap.size W14).new _
  obtain ⟨W15, hW⟩ : ∃ W, (W14.alloc (.cells #[.int .i64 1, .string ⟨#[]⟩, .int .i64 1] 24)) = W := ⟨_, rfl⟩
  rw [hW] at hb15 y_t1 y_t3 y_c1 ⊢
  clear hW x_c1
  have hc15 := hc14.then hb15
  clear r_t1
  have r_t1 := y_t1
  clear r_t3
  have r_t3 := y_t3
  have r_c1 := y_c1
  clear y_t1 y_t3 y_c1
  refine (v2_any 2 _).mono ?_
  rintro e W16 ⟨rfl, hb16⟩
  replace r_t1 := r_t1.below hb16
  replace r_t3 := r_t3.below hb16
  replace r_c1 := r_c1.below hb16
  have hc16 := hc15.then hb16
  go_wp2_with fail
  have x_c2 : Row (W16.alloc (.cells #[.int .i64 1, .string ⟨#[]⟩, .int .i64 2] 24)) (some ⟨W16.heap.size, 0, none⟩) 1 [varC 2] := cells_new W16 [varC 2] (fits_cons (varC_fit (by omega) (by omega)) (fits_nil)) (by simp)
  have x_s1 : Row ((W16.alloc (.cells #[.int .i64 1, .string ⟨#[]⟩, .int .i64 2] 24)).alloc (.cells #[.int .i64 0, .slice (some ⟨W14.heap.size, 0, none⟩) 1 1, .int .i64 1, .slice (some ⟨W16.heap.size, 0, none⟩) 1 1] 46)) (some ⟨W16.heap.size + 1, 0, none⟩) 2 [(⟨0, [varC 1]⟩ : Bnd), (⟨1, [varC 2]⟩ : Bnd)] := by
    have h := binds_new (W16.alloc (.cells #[.int .i64 1, .string ⟨#[]⟩, .int .i64 2] 24)) #[.int .i64 0, .slice (some ⟨W14.heap.size, 0, none⟩) 1 1, .int .i64 1, .slice (some ⟨W16.heap.size, 0, none⟩) 1 1] [(⟨0, [varC 1]⟩ : Bnd), (⟨1, [varC 2]⟩ : Bnd)] (CRows.cons (bind_c ((r_c1).below ((Below.refl _ _).new (.cells #[.int .i64 1, .string ⟨#[]⟩, .int .i64 2] 24))) (by omega) (by omega)) (CRows.cons (bind_c (x_c2) (by omega) (by omega)) (CRows.nil))) (by simp)
    rw [World.size_alloc] at h
    exact h
  have y_t1 := ((r_t1).below ((Below.refl _ _).new (.cells #[.int .i64 1, .string ⟨#[]⟩, .int .i64 2] 24))).below ((Below.refl _ _).new (.cells #[.int .i64 0, .slice (some ⟨W14.heap.size, 0, none⟩) 1 1, .int .i64 1, .slice (some ⟨W16.heap.size, 0, none⟩) 1 1] 46))
  have y_t3 := ((r_t3).below ((Below.refl _ _).new (.cells #[.int .i64 1, .string ⟨#[]⟩, .int .i64 2] 24))).below ((Below.refl _ _).new (.cells #[.int .i64 0, .slice (some ⟨W14.heap.size, 0, none⟩) 1 1, .int .i64 1, .slice (some ⟨W16.heap.size, 0, none⟩) 1 1] 46))
  have y_c1 := ((r_c1).below ((Below.refl _ _).new (.cells #[.int .i64 1, .string ⟨#[]⟩, .int .i64 2] 24))).below ((Below.refl _ _).new (.cells #[.int .i64 0, .slice (some ⟨W14.heap.size, 0, none⟩) 1 1, .int .i64 1, .slice (some ⟨W16.heap.size, 0, none⟩) 1 1] 46))
  have y_c2 := (x_c2).below ((Below.refl _ _).new (.cells #[.int .i64 0, .slice (some ⟨W14.heap.size, 0, none⟩) 1 1, .int .i64 1, .slice (some ⟨W16.heap.size, 0, none⟩) 1 1] 46))
  have y_s1 := x_s1
  have hb17 : Below W16.heap.size W16 ((W16.alloc (.cells #[.int .i64 1, .string ⟨#[]⟩, .int .i64 2] 24)).alloc (.cells #[.int .i64 0, .slice (some ⟨W14.heap.size, 0, none⟩) 1 1, .int .i64 1, .slice (some ⟨W16.heap.size, 0, none⟩) 1 1] 46)) := ((Below.refl W16.heap.size W16).new _).new _
  obtain ⟨W17, hW⟩ : ∃ W, ((W16.alloc (.cells #[.int .i64 1, .string ⟨#[]⟩, .int .i64 2] 24)).alloc (.cells #[.int .i64 0, .slice (some ⟨W14.heap.size, 0, none⟩) 1 1, .int .i64 1, .slice (some ⟨W16.heap.size, 0, none⟩) 1 1] 46)) = W := ⟨_, rfl⟩
  rw [hW] at hb17 y_t1 y_t3 y_c1 y_c2 y_s1 ⊢
  clear hW x_c2 x_s1
  have hc17 := hc16.then hb17
  clear r_t1
  have r_t1 := y_t1
  clear r_t3
  have r_t3 := y_t3
  clear r_c1
  have r_c1 := y_c1
  have r_c2 := y_c2
  have r_s1 := y_s1
  clear y_t1 y_t3 y_c1 y_c2 y_s1
  refine (v2_any 0 _).mono ?_
  rintro e W18 ⟨rfl, hb18⟩
  replace r_t1 := r_t1.below hb18
  replace r_t3 := r_t3.below hb18
  replace r_c1 := r_c1.below hb18
  replace r_c2 := r_c2.below hb18
  replace r_s1 := r_s1.below hb18
  have hc18 := hc17.then hb18
  go_wp2_with fail
  have x_c3 : Row (W18.alloc (.cells #[.int .i64 1, .string ⟨#[]⟩, .int .i64 0] 24)) (some ⟨W18.heap.size, 0, none⟩) 1 [varC 0] := cells_new W18 [varC 0] (fits_cons (varC_fit (by omega) (by omega)) (fits_nil)) (by simp)
  have x_s2 : Row ((W18.alloc (.cells #[.int .i64 1, .string ⟨#[]⟩, .int .i64 0] 24)).alloc (.cells #[.int .i64 2, .slice (some ⟨W18.heap.size, 0, none⟩) 1 1] 46)) (some ⟨W18.heap.size + 1, 0, none⟩) 1 [(⟨2, [varC 0]⟩ : Bnd)] := by
    have h := binds_new (W18.alloc (.cells #[.int .i64 1, .string ⟨#[]⟩, .int .i64 0] 24)) #[.int .i64 2, .slice (some ⟨W18.heap.size, 0, none⟩) 1 1] [(⟨2, [varC 0]⟩ : Bnd)] (CRows.cons (bind_c (x_c3) (by omega) (by omega)) (CRows.nil)) (by simp)
    rw [World.size_alloc] at h
    exact h
  have y_t1 := ((r_t1).below ((Below.refl _ _).new (.cells #[.int .i64 1, .string ⟨#[]⟩, .int .i64 0] 24))).below ((Below.refl _ _).new (.cells #[.int .i64 2, .slice (some ⟨W18.heap.size, 0, none⟩) 1 1] 46))
  have y_t3 := ((r_t3).below ((Below.refl _ _).new (.cells #[.int .i64 1, .string ⟨#[]⟩, .int .i64 0] 24))).below ((Below.refl _ _).new (.cells #[.int .i64 2, .slice (some ⟨W18.heap.size, 0, none⟩) 1 1] 46))
  have y_c1 := ((r_c1).below ((Below.refl _ _).new (.cells #[.int .i64 1, .string ⟨#[]⟩, .int .i64 0] 24))).below ((Below.refl _ _).new (.cells #[.int .i64 2, .slice (some ⟨W18.heap.size, 0, none⟩) 1 1] 46))
  have y_c2 := ((r_c2).below ((Below.refl _ _).new (.cells #[.int .i64 1, .string ⟨#[]⟩, .int .i64 0] 24))).below ((Below.refl _ _).new (.cells #[.int .i64 2, .slice (some ⟨W18.heap.size, 0, none⟩) 1 1] 46))
  have y_s1 := ((r_s1).below ((Below.refl _ _).new (.cells #[.int .i64 1, .string ⟨#[]⟩, .int .i64 0] 24))).below ((Below.refl _ _).new (.cells #[.int .i64 2, .slice (some ⟨W18.heap.size, 0, none⟩) 1 1] 46))
  have y_c3 := (x_c3).below ((Below.refl _ _).new (.cells #[.int .i64 2, .slice (some ⟨W18.heap.size, 0, none⟩) 1 1] 46))
  have y_s2 := x_s2
  have hb19 : Below W18.heap.size W18 ((W18.alloc (.cells #[.int .i64 1, .string ⟨#[]⟩, .int .i64 0] 24)).alloc (.cells #[.int .i64 2, .slice (some ⟨W18.heap.size, 0, none⟩) 1 1] 46)) := ((Below.refl W18.heap.size W18).new _).new _
  obtain ⟨W19, hW⟩ : ∃ W, ((W18.alloc (.cells #[.int .i64 1, .string ⟨#[]⟩, .int .i64 0] 24)).alloc (.cells #[.int .i64 2, .slice (some ⟨W18.heap.size, 0, none⟩) 1 1] 46)) = W := ⟨_, rfl⟩
  rw [hW] at hb19 y_t1 y_t3 y_c1 y_c2 y_s1 y_c3 y_s2 ⊢
  clear hW x_c3 x_s2
  have hc19 := hc18.then hb19
  clear r_t1
  have r_t1 := y_t1
  clear r_t3
  have r_t3 := y_t3
  clear r_c1
  have r_c1 := y_c1
  clear r_c2
  have r_c2 := y_c2
  clear r_s1
  have r_s1 := y_s1
  have r_c3 := y_c3
  have r_s2 := y_s2
  clear y_t1 y_t3 y_c1 y_c2 y_s1 y_c3 y_s2
  refine (compose_lit rfl r_s1 rfl r_s2 (by simp) (by simp) (by simp) (by simp) (by decide +kernel) (K := [(⟨0, [varC 1]⟩ : Bnd), (⟨1, [varC 0]⟩ : Bnd), (⟨2, [varC 0]⟩ : Bnd)]) (by decide +kernel) (by decide) (q := 3) rfl).mono ?_
  rintro e W20 ⟨a5, cap5, rfl, r_t5, hb20⟩
  replace r_t1 := r_t1.below hb20
  replace r_t3 := r_t3.below hb20
  replace r_c1 := r_c1.below hb20
  replace r_c2 := r_c2.below hb20
  replace r_s1 := r_s1.below hb20
  replace r_c3 := r_c3.below hb20
  replace r_s2 := r_s2.below hb20
  have hc20 := hc19.then hb20
  clear r_c1 r_c2 r_s1 r_c3 r_s2
  go_wp2_with fail
  have x_i1 : Row (W20.alloc (.cells #[.int .i64 5, .int .i64 2, .int .i64 0] 3)) (some ⟨W20.heap.size, 0, none⟩) 3 ([5, 2, 0] : List Int) := row_new W20 #[.int .i64 5, .int .i64 2, .int .i64 0] (3, 0) (xs := ([5, 2, 0] : List Int)) (crows_ints (xs := ([5, 2, 0] : List Int)) _ (by decide)) (by decide)
  have y_t1 := (r_t1).below ((Below.refl _ _).new (.cells #[.int .i64 5, .int .i64 2, .int .i64 0] 3))
  have y_t3 := (r_t3).below ((Below.refl _ _).new (.cells #[.int .i64 5, .int .i64 2, .int .i64 0] 3))
  have y_t5 := (r_t5).below ((Below.refl _ _).new (.cells #[.int .i64 5, .int .i64 2, .int .i64 0] 3))
  have y_i1 := x_i1
  have hb21 : Below W20.heap.size W20 (W20.alloc (.cells #[.int .i64 5, .int .i64 2, .int .i64 0] 3)) := (Below.refl W20.heap.size W20).new _
  obtain ⟨W21, hW⟩ : ∃ W, (W20.alloc (.cells #[.int .i64 5, .int .i64 2, .int .i64 0] 3)) = W := ⟨_, rfl⟩
  rw [hW] at hb21 y_t1 y_t3 y_t5 y_i1 ⊢
  clear hW x_i1
  have hc21 := hc20.then hb21
  clear r_t1
  have r_t1 := y_t1
  clear r_t3
  have r_t3 := y_t3
  clear r_t5
  have r_t5 := y_t5
  have r_i1 := y_i1
  clear y_t1 y_t3 y_t5 y_i1
  refine (keep_lit rfl r_t5 rfl r_i1 (by simp) (by simp) (ks := [(⟨0, [varC 1]⟩ : Bnd), (⟨2, [varC 0]⟩ : Bnd)]) (by decide +kernel) (q := 2) rfl).mono ?_
  rintro e W22 ⟨a7, cap7, rfl, r_t7, hb22⟩
  replace r_t1 := r_t1.below hb22
  replace r_t3 := r_t3.below hb22
  replace r_t5 := r_t5.below hb22
  replace r_i1 := r_i1.below hb22
  have hc22 := hc21.then hb22
  clear r_i1
  go_wp2_with fail
  refine (v2_any 1 _).mono ?_
  rintro e W23 ⟨rfl, hb23⟩
  replace r_t1 := r_t1.below hb23
  replace r_t3 := r_t3.below hb23
  replace r_t5 := r_t5.below hb23
  replace r_t7 := r_t7.below hb23
  have hc23 := hc22.then hb23
  go_wp2_with fail
  have x_c1 : Row (W23.alloc (.cells #[.int .i64 1, .string ⟨#[]⟩, .int .i64 1] 24)) (some ⟨W23.heap.size, 0, none⟩) 1 [varC 1] := cells_new W23 [varC 1] (fits_cons (varC_fit (by omega) (by omega)) (fits_nil)) (by simp)
  have y_t1 := (r_t1).below ((Below.refl _ _).new (.cells #[.int .i64 1, .string ⟨#[]⟩, .int .i64 1] 24))
  have y_t3 := (r_t3).below ((Below.refl _ _).new (.cells #[.int .i64 1, .string ⟨#[]⟩, .int .i64 1] 24))
  have y_t5 := (r_t5).below ((Below.refl _ _).new (.cells #[.int .i64 1, .string ⟨#[]⟩, .int .i64 1] 24))
  have y_t7 := (r_t7).below ((Below.refl _ _).new (.cells #[.int .i64 1, .string ⟨#[]⟩, .int .i64 1] 24))
  have y_c1 := x_c1
  have hb24 : Below W23.heap.size W23 (W23.alloc (.cells #[.int .i64 1, .string ⟨#[]⟩, .int .i64 1] 24)) := (Below.refl W23.heap.size W23).new _
  obtain ⟨W24, hW⟩ : ∃ W, (W23.alloc (.cells #[.int .i64 1, .string ⟨#[]⟩, .int .i64 1] 24)) = W := ⟨_, rfl⟩
  rw [hW] at hb24 y_t1 y_t3 y_t5 y_t7 y_c1 ⊢
  clear hW x_c1
  have hc24 := hc23.then hb24
  clear r_t1
  have r_t1 := y_t1
  clear r_t3
  have r_t3 := y_t3
  clear r_t5
  have r_t5 := y_t5
  clear r_t7
  have r_t7 := y_t7
  have r_c1 := y_c1
  clear y_t1 y_t3 y_t5 y_t7 y_c1
  refine (v2_any 0 _).mono ?_
  rintro e W25 ⟨rfl, hb25⟩
  replace r_t1 := r_t1.below hb25
  replace r_t3 := r_t3.below hb25
  replace r_t5 := r_t5.below hb25
  replace r_t7 := r_t7.below hb25
  replace r_c1 := r_c1.below hb25
  have hc25 := hc24.then hb25
  go_wp2_with fail
  have x_c2 : Row (W25.alloc (.cells #[.int .i64 1, .string ⟨#[]⟩, .int .i64 0] 24)) (some ⟨W25.heap.size, 0, none⟩) 1 [varC 0] := cells_new W25 [varC 0] (fits_cons (varC_fit (by omega) (by omega)) (fits_nil)) (by simp)
  have x_t8 : Row ((W25.alloc (.cells #[.int .i64 1, .string ⟨#[]⟩, .int .i64 0] 24)).alloc (.cells #[.int .i64 0, .slice (some ⟨W23.heap.size, 0, none⟩) 1 1, .int .i64 1, .slice (some ⟨W25.heap.size, 0, none⟩) 1 1] 46)) (some ⟨W25.heap.size + 1, 0, none⟩) 2 [(⟨0, [varC 1]⟩ : Bnd), (⟨1, [varC 0]⟩ : Bnd)] := by
    have h := binds_new (W25.alloc (.cells #[.int .i64 1, .string ⟨#[]⟩, .int .i64 0] 24)) #[.int .i64 0, .slice (some ⟨W23.heap.size, 0, none⟩) 1 1, .int .i64 1, .slice (some ⟨W25.heap.size, 0, none⟩) 1 1] [(⟨0, [varC 1]⟩ : Bnd), (⟨1, [varC 0]⟩ : Bnd)] (CRows.cons (bind_c ((r_c1).below ((Below.refl _ _).new (.cells #[.int .i64 1, .string ⟨#[]⟩, .int .i64 0] 24))) (by omega) (by omega)) (CRows.cons (bind_c (x_c2) (by omega) (by omega)) (CRows.nil))) (by simp)
    rw [World.size_alloc] at h
    exact h
  have y_t1 := ((r_t1).below ((Below.refl _ _).new (.cells #[.int .i64 1, .string ⟨#[]⟩, .int .i64 0] 24))).below ((Below.refl _ _).new (.cells #[.int .i64 0, .slice (some ⟨W23.heap.size, 0, none⟩) 1 1, .int .i64 1, .slice (some ⟨W25.heap.size, 0, none⟩) 1 1] 46))
  have y_t3 := ((r_t3).below ((Below.refl _ _).new (.cells #[.int .i64 1, .string ⟨#[]⟩, .int .i64 0] 24))).below ((Below.refl _ _).new (.cells #[.int .i64 0, .slice (some ⟨W23.heap.size, 0, none⟩) 1 1, .int .i64 1, .slice (some ⟨W25.heap.size, 0, none⟩) 1 1] 46))
  have y_t5 := ((r_t5).below ((Below.refl _ _).new (.cells #[.int .i64 1, .string ⟨#[]⟩, .int .i64 0] 24))).below ((Below.refl _ _).new (.cells #[.int .i64 0, .slice (some ⟨W23.heap.size, 0, none⟩) 1 1, .int .i64 1, .slice (some ⟨W25.heap.size, 0, none⟩) 1 1] 46))
  have y_t7 := ((r_t7).below ((Below.refl _ _).new (.cells #[.int .i64 1, .string ⟨#[]⟩, .int .i64 0] 24))).below ((Below.refl _ _).new (.cells #[.int .i64 0, .slice (some ⟨W23.heap.size, 0, none⟩) 1 1, .int .i64 1, .slice (some ⟨W25.heap.size, 0, none⟩) 1 1] 46))
  have y_c1 := ((r_c1).below ((Below.refl _ _).new (.cells #[.int .i64 1, .string ⟨#[]⟩, .int .i64 0] 24))).below ((Below.refl _ _).new (.cells #[.int .i64 0, .slice (some ⟨W23.heap.size, 0, none⟩) 1 1, .int .i64 1, .slice (some ⟨W25.heap.size, 0, none⟩) 1 1] 46))
  have y_c2 := (x_c2).below ((Below.refl _ _).new (.cells #[.int .i64 0, .slice (some ⟨W23.heap.size, 0, none⟩) 1 1, .int .i64 1, .slice (some ⟨W25.heap.size, 0, none⟩) 1 1] 46))
  have y_t8 := x_t8
  have hb26 : Below W25.heap.size W25 ((W25.alloc (.cells #[.int .i64 1, .string ⟨#[]⟩, .int .i64 0] 24)).alloc (.cells #[.int .i64 0, .slice (some ⟨W23.heap.size, 0, none⟩) 1 1, .int .i64 1, .slice (some ⟨W25.heap.size, 0, none⟩) 1 1] 46)) := ((Below.refl W25.heap.size W25).new _).new _
  obtain ⟨W26, hW⟩ : ∃ W, ((W25.alloc (.cells #[.int .i64 1, .string ⟨#[]⟩, .int .i64 0] 24)).alloc (.cells #[.int .i64 0, .slice (some ⟨W23.heap.size, 0, none⟩) 1 1, .int .i64 1, .slice (some ⟨W25.heap.size, 0, none⟩) 1 1] 46)) = W := ⟨_, rfl⟩
  rw [hW] at hb26 y_t1 y_t3 y_t5 y_t7 y_c1 y_c2 y_t8 ⊢
  clear hW x_c2 x_t8
  have hc26 := hc25.then hb26
  clear r_t1
  have r_t1 := y_t1
  clear r_t3
  have r_t3 := y_t3
  clear r_t5
  have r_t5 := y_t5
  clear r_t7
  have r_t7 := y_t7
  clear r_c1
  have r_c1 := y_c1
  have r_c2 := y_c2
  have r_t8 := y_t8
  clear y_t1 y_t3 y_t5 y_t7 y_c1 y_c2 y_t8
  refine (f2_any ⟨#[102]⟩ 2 _).mono ?_
  rintro e W27 ⟨rfl, hb27⟩
  replace r_t1 := r_t1.below hb27
  replace r_t3 := r_t3.below hb27
  replace r_t5 := r_t5.below hb27
  replace r_t7 := r_t7.below hb27
  replace r_c1 := r_c1.below hb27
  replace r_c2 := r_c2.below hb27
  replace r_t8 := r_t8.below hb27
  have hc27 := hc26.then hb27
  go_wp2_with fail
  refine (v2_any 0 _).mono ?_
  rintro e W28 ⟨rfl, hb28⟩
  replace r_t1 := r_t1.below hb28
  replace r_t3 := r_t3.below hb28
  replace r_t5 := r_t5.below hb28
  replace r_t7 := r_t7.below hb28
  replace r_c1 := r_c1.below hb28
  replace r_c2 := r_c2.below hb28
  replace r_t8 := r_t8.below hb28
  have hc28 := hc27.then hb28
  go_wp2_with fail
  refine (v2_any 1 _).mono ?_
  rintro e W29 ⟨rfl, hb29⟩
  replace r_t1 := r_t1.below hb29
  replace r_t3 := r_t3.below hb29
  replace r_t5 := r_t5.below hb29
  replace r_t7 := r_t7.below hb29
  replace r_c1 := r_c1.below hb29
  replace r_c2 := r_c2.below hb29
  replace r_t8 := r_t8.below hb29
  have hc29 := hc28.then hb29
  go_wp2_with fail
  have x_c3 : Row (W29.alloc (.cells #[.int .i64 3, .string ⟨#[102]⟩, .int .i64 2, .int .i64 1, .string ⟨#[]⟩, .int .i64 0, .int .i64 1, .string ⟨#[]⟩, .int .i64 1] 24)) (some ⟨W29.heap.size, 0, none⟩) 3 [fC ⟨#[102]⟩ 2, varC 0, varC 1] := cells_new W29 [fC ⟨#[102]⟩ 2, varC 0, varC 1] (fits_cons (fC_fit (by decide) (by omega) (by omega)) (fits_cons (varC_fit (by omega) (by omega)) (fits_cons (varC_fit (by omega) (by omega)) (fits_nil)))) (by simp)
  have y_t1 := (r_t1).below ((Below.refl _ _).new (.cells #[.int .i64 3, .string ⟨#[102]⟩, .int .i64 2, .int .i64 1, .string ⟨#[]⟩, .int .i64 0, .int .i64 1, .string ⟨#[]⟩, .int .i64 1] 24))
  have y_t3 := (r_t3).below ((Below.refl _ _).new (.cells #[.int .i64 3, .string ⟨#[102]⟩, .int .i64 2, .int .i64 1, .string ⟨#[]⟩, .int .i64 0, .int .i64 1, .string ⟨#[]⟩, .int .i64 1] 24))
  have y_t5 := (r_t5).below ((Below.refl _ _).new (.cells #[.int .i64 3, .string ⟨#[102]⟩, .int .i64 2, .int .i64 1, .string ⟨#[]⟩, .int .i64 0, .int .i64 1, .string ⟨#[]⟩, .int .i64 1] 24))
  have y_t7 := (r_t7).below ((Below.refl _ _).new (.cells #[.int .i64 3, .string ⟨#[102]⟩, .int .i64 2, .int .i64 1, .string ⟨#[]⟩, .int .i64 0, .int .i64 1, .string ⟨#[]⟩, .int .i64 1] 24))
  have y_c1 := (r_c1).below ((Below.refl _ _).new (.cells #[.int .i64 3, .string ⟨#[102]⟩, .int .i64 2, .int .i64 1, .string ⟨#[]⟩, .int .i64 0, .int .i64 1, .string ⟨#[]⟩, .int .i64 1] 24))
  have y_c2 := (r_c2).below ((Below.refl _ _).new (.cells #[.int .i64 3, .string ⟨#[102]⟩, .int .i64 2, .int .i64 1, .string ⟨#[]⟩, .int .i64 0, .int .i64 1, .string ⟨#[]⟩, .int .i64 1] 24))
  have y_t8 := (r_t8).below ((Below.refl _ _).new (.cells #[.int .i64 3, .string ⟨#[102]⟩, .int .i64 2, .int .i64 1, .string ⟨#[]⟩, .int .i64 0, .int .i64 1, .string ⟨#[]⟩, .int .i64 1] 24))
  have y_c3 := x_c3
  have hb30 : Below W29.heap.size W29 (W29.alloc (.cells #[.int .i64 3, .string ⟨#[102]⟩, .int .i64 2, .int .i64 1, .string ⟨#[]⟩, .int .i64 0, .int .i64 1, .string ⟨#[]⟩, .int .i64 1] 24)) := (Below.refl W29.heap.size W29).new _
  obtain ⟨W30, hW⟩ : ∃ W, (W29.alloc (.cells #[.int .i64 3, .string ⟨#[102]⟩, .int .i64 2, .int .i64 1, .string ⟨#[]⟩, .int .i64 0, .int .i64 1, .string ⟨#[]⟩, .int .i64 1] 24)) = W := ⟨_, rfl⟩
  rw [hW] at hb30 y_t1 y_t3 y_t5 y_t7 y_c1 y_c2 y_t8 y_c3 ⊢
  clear hW x_c3
  have hc30 := hc29.then hb30
  clear r_t1
  have r_t1 := y_t1
  clear r_t3
  have r_t3 := y_t3
  clear r_t5
  have r_t5 := y_t5
  clear r_t7
  have r_t7 := y_t7
  clear r_c1
  have r_c1 := y_c1
  clear r_c2
  have r_c2 := y_c2
  clear r_t8
  have r_t8 := y_t8
  have r_c3 := y_c3
  clear y_t1 y_t3 y_t5 y_t7 y_c1 y_c2 y_t8 y_c3
  refine (apply_lit rfl r_t8 rfl r_c3 (by decide) (by decide) (b := true) (by decide +kernel) (ts := [fC ⟨#[102]⟩ 2, varC 1, varC 0]) (by decide +kernel) (q := 3) rfl).mono ?_
  rintro e W31 ⟨a9, cap9, rfl, r_t9, hb31⟩
  replace r_t1 := r_t1.below hb31
  replace r_t3 := r_t3.below hb31
  replace r_t5 := r_t5.below hb31
  replace r_t7 := r_t7.below hb31
  replace r_c1 := r_c1.below hb31
  replace r_c2 := r_c2.below hb31
  replace r_t8 := r_t8.below hb31
  replace r_c3 := r_c3.below hb31
  have hc31 := hc30.then hb31
  clear r_c1 r_c2 r_c3
  obtain ⟨WE, rfl⟩ : ∃ W, W = W31 := ⟨_, rfl⟩
  have hce := hc31
  clear hc1 hc2 hc3 hc4 hc5 hc6 hc7 hc8 hc9 hc10 hc11 hc12 hc13 hc14 hc15 hc16 hc17 hc18 hc19 hc20 hc21 hc22 hc23 hc24 hc25 hc26 hc27 hc28 hc29 hc30 hc31
  obtain ⟨b3, o3, rfl, hb3l, at3⟩ := r_t3.cases.resolve_left (by simp)
  obtain ⟨b5, o5, rfl, hb5l, at5⟩ := r_t5.cases.resolve_left (by simp)
  obtain ⟨b7, o7, rfl, hb7l, at7⟩ := r_t7.cases.resolve_left (by simp)
  obtain ⟨b8, o8, e8, hb8l, at8⟩ := r_t8.cases.resolve_left (by simp)
  obtain ⟨rfl, rfl⟩ : b8 = _ ∧ o8 = 0 := by simp at e8; exact ⟨e8.1.symm, e8.2.symm⟩
  clear e8
  obtain ⟨p30, q30, m30, n30, w30, _, _⟩ := bnd_at at3 (Below.refl _ _) (k := 0) (by simp)
  simp only [List.getElem_cons_zero, List.getElem_cons_succ, Nat.zero_mul, Nat.one_mul, Nat.zero_add, Nat.add_zero, List.length_cons, List.length_nil] at m30 n30 w30
  obtain ⟨p50, q50, m50, n50, w50, _, _⟩ := bnd_at at5 (Below.refl _ _) (k := 0) (by simp)
  simp only [List.getElem_cons_zero, List.getElem_cons_succ, Nat.zero_mul, Nat.one_mul, Nat.zero_add, Nat.add_zero, List.length_cons, List.length_nil] at m50 n50 w50
  obtain ⟨p51, q51, m51, n51, w51, _, _⟩ := bnd_at at5 (Below.refl _ _) (k := 1) (by simp)
  simp only [List.getElem_cons_zero, List.getElem_cons_succ, Nat.zero_mul, Nat.one_mul, Nat.zero_add, Nat.add_zero, List.length_cons, List.length_nil] at m51 n51 w51
  obtain ⟨p52, q52, m52, n52, w52, _, _⟩ := bnd_at at5 (Below.refl _ _) (k := 2) (by simp)
  simp only [List.getElem_cons_zero, List.getElem_cons_succ, Nat.zero_mul, Nat.one_mul, Nat.zero_add, Nat.add_zero, List.length_cons, List.length_nil] at m52 n52 w52
  obtain ⟨p70, q70, m70, n70, w70, _, _⟩ := bnd_at at7 (Below.refl _ _) (k := 0) (by simp)
  simp only [List.getElem_cons_zero, List.getElem_cons_succ, Nat.zero_mul, Nat.one_mul, Nat.zero_add, Nat.add_zero, List.length_cons, List.length_nil] at m70 n70 w70
  obtain ⟨p71, q71, m71, n71, w71, _, _⟩ := bnd_at at7 (Below.refl _ _) (k := 1) (by simp)
  simp only [List.getElem_cons_zero, List.getElem_cons_succ, Nat.zero_mul, Nat.one_mul, Nat.zero_add, Nat.add_zero, List.length_cons, List.length_nil] at m71 n71 w71
  obtain ⟨p80, q80, m80, n80, w80, _, _⟩ := bnd_at at8 (Below.refl _ _) (k := 0) (by simp)
  simp only [List.getElem_cons_zero, List.getElem_cons_succ, Nat.zero_mul, Nat.one_mul, Nat.zero_add, Nat.add_zero, List.length_cons, List.length_nil] at m80 n80 w80
  obtain ⟨p81, q81, m81, n81, w81, _, _⟩ := bnd_at at8 (Below.refl _ _) (k := 1) (by simp)
  simp only [List.getElem_cons_zero, List.getElem_cons_succ, Nat.zero_mul, Nat.one_mul, Nat.zero_add, Nat.add_zero, List.length_cons, List.length_nil] at m81 n81 w81
  clear at3 at5 at7 at8
  clear hb1 hb2 hb3 hb4 hb5 hb6 hb7 hb8 hb9 hb10 hb11 hb12 hb13 hb14 hb15 hb16 hb17 hb18 hb19 hb20 hb21 hb22 hb23 hb24 hb25 hb26 hb27 hb28 hb29 hb30 hb31
  go_wp2_with fail
  simp only [List.append_eq, List.cons_append, List.nil_append]
  have hS : Below WE.heap.size WE WE.drew := (Below.refl _ _).drew
  refine wp_region_greedy (S := fun w' => Below WE.heap.size WE w') hdSig (by kernel_rfl) hd_get hd_sel hd_lt hd_perm hd_ok hS ?_
  obtain ⟨V0, hV⟩ : ∃ V, WE.drew = V := ⟨_, rfl⟩
  rw [hV] at hS ⊢
  clear hV
  generalize hA : Act.mk _ _ = A0
  have hsz : A0.tmps.size = 223 := by rw [← hA]; rfl
  have hdf : A0.defers = [] := by rw [← hA]
  have s1 : Slot A0 1 (Value.slice (a1) 4 cap1) := (by rw [← hA]; rfl)
  have s2 : Slot A0 2 (Value.bool true) := (by rw [← hA]; rfl)
  have s3 : Slot A0 3 (Value.slice (some ⟨b3, o3, none⟩) 1 cap3) := (by rw [← hA]; rfl)
  have s4 : Slot A0 4 (Value.bool true) := (by rw [← hA]; rfl)
  have s5 : Slot A0 5 (Value.slice (some ⟨b5, o5, none⟩) 3 cap5) := (by rw [← hA]; rfl)
  have s6 : Slot A0 6 (Value.bool true) := (by rw [← hA]; rfl)
  have s7 : Slot A0 7 (Value.slice (some ⟨b7, o7, none⟩) 2 cap7) := (by rw [← hA]; rfl)
  have s8 : Slot A0 8 (Value.slice (some ⟨W25.heap.size + 1, 0, none⟩) 2 2) := (by rw [← hA]; rfl)
  have s9 : Slot A0 9 (Value.slice (a9) 3 cap9) := (by rw [← hA]; rfl)
  have s10 : Slot A0 10 (Value.bool true) := (by rw [← hA]; rfl)
  clear hA
  refine n_pure (v := Value.bool true) (d := 83) (y_move (wanted_none rfl) rfl s2.eval) hsz rfl rfl ?_
  intro A1 hn
  replace hsz := hn.size
  replace hdf := hn.defers.trans hdf
  replace s1 := hn.keep _ _ rfl s1
  replace s3 := hn.keep _ _ rfl s3
  replace s4 := hn.keep _ _ rfl s4
  replace s5 := hn.keep _ _ rfl s5
  replace s6 := hn.keep _ _ rfl s6
  replace s7 := hn.keep _ _ rfl s7
  replace s8 := hn.keep _ _ rfl s8
  replace s9 := hn.keep _ _ rfl s9
  replace s10 := hn.keep _ _ rfl s10
  clear s2
  have s83 := hn.new
  clear hn
  refine n_pure (v := Value.bool true) (d := 84) (y_move (wanted_none rfl) rfl s83.eval) hsz rfl rfl ?_
  intro A2 hn
  replace hsz := hn.size
  replace hdf := hn.defers.trans hdf
  replace s1 := hn.keep _ _ rfl s1
  replace s3 := hn.keep _ _ rfl s3
  replace s4 := hn.keep _ _ rfl s4
  replace s5 := hn.keep _ _ rfl s5
  replace s6 := hn.keep _ _ rfl s6
  replace s7 := hn.keep _ _ rfl s7
  replace s8 := hn.keep _ _ rfl s8
  replace s9 := hn.keep _ _ rfl s9
  replace s10 := hn.keep _ _ rfl s10
  clear s83
  have s84 := hn.new
  clear hn
  refine n_pure (v := Value.slice (a1) 4 cap1) (d := 85) (y_move (wanted_some rfl (by kernel_rfl) s84) rfl s1.eval) hsz rfl rfl ?_
  intro A3 hn
  replace hsz := hn.size
  replace hdf := hn.defers.trans hdf
  replace s3 := hn.keep _ _ rfl s3
  replace s4 := hn.keep _ _ rfl s4
  replace s5 := hn.keep _ _ rfl s5
  replace s6 := hn.keep _ _ rfl s6
  replace s7 := hn.keep _ _ rfl s7
  replace s8 := hn.keep _ _ rfl s8
  replace s9 := hn.keep _ _ rfl s9
  replace s10 := hn.keep _ _ rfl s10
  replace s84 := hn.keep _ _ rfl s84
  clear s1
  have s85 := hn.new
  clear hn
  refine n_call (f := 49) (args := #[Value.string { data := #[102] }, Value.int IntKind.i64 2]) (R := fun v w' => v = Value.agg #[Value.int IntKind.i64 3, Value.string { data := #[102] }, Value.int IntKind.i64 2] ∧ Below V0.heap.size V0 w') (d := 86) (by kernel_rfl) (wanted_some rfl (by kernel_rfl) s84) (run_call rfl rfl (enters_of Try.func49 (by kernel_rfl) rfl) (by simp only [List.map_toArray, List.map_cons, List.map_nil, ev_const])) ((f2_any ⟨#[102]⟩ 2 _).mono fun e w' ⟨he, hb⟩ => ⟨_, he, rfl, hb⟩) hsz rfl rfl ?_
  rintro _ V1 ⟨rfl, hq⟩
  refine ⟨hS.then hq, fun A4 hn => ?_⟩
  replace hS := hS.then hq
  clear hq
  replace hsz := hn.size
  replace hdf := hn.defers.trans hdf
  replace s3 := hn.keep _ _ rfl s3
  replace s4 := hn.keep _ _ rfl s4
  replace s5 := hn.keep _ _ rfl s5
  replace s6 := hn.keep _ _ rfl s6
  replace s7 := hn.keep _ _ rfl s7
  replace s8 := hn.keep _ _ rfl s8
  replace s9 := hn.keep _ _ rfl s9
  replace s10 := hn.keep _ _ rfl s10
  replace s84 := hn.keep _ _ rfl s84
  replace s85 := hn.keep _ _ rfl s85
  have s86 := hn.new
  clear hn
  refine n_call (f := 49) (args := #[Value.string { data := #[103] }, Value.int IntKind.i64 1]) (R := fun v w' => v = Value.agg #[Value.int IntKind.i64 3, Value.string { data := #[103] }, Value.int IntKind.i64 1] ∧ Below V1.heap.size V1 w') (d := 87) (by kernel_rfl) (wanted_some rfl (by kernel_rfl) s84) (run_call rfl rfl (enters_of Try.func49 (by kernel_rfl) rfl) (by simp only [List.map_toArray, List.map_cons, List.map_nil, ev_const])) ((f2_any ⟨#[103]⟩ 1 _).mono fun e w' ⟨he, hb⟩ => ⟨_, he, rfl, hb⟩) hsz rfl rfl ?_
  rintro _ V2 ⟨rfl, hq⟩
  refine ⟨hS.then hq, fun A5 hn => ?_⟩
  replace hS := hS.then hq
  clear hq
  replace hsz := hn.size
  replace hdf := hn.defers.trans hdf
  replace s3 := hn.keep _ _ rfl s3
  replace s4 := hn.keep _ _ rfl s4
  replace s5 := hn.keep _ _ rfl s5
  replace s6 := hn.keep _ _ rfl s6
  replace s7 := hn.keep _ _ rfl s7
  replace s8 := hn.keep _ _ rfl s8
  replace s9 := hn.keep _ _ rfl s9
  replace s10 := hn.keep _ _ rfl s10
  replace s84 := hn.keep _ _ rfl s84
  replace s85 := hn.keep _ _ rfl s85
  replace s86 := hn.keep _ _ rfl s86
  have s87 := hn.new
  clear hn
  refine n_call (f := 31) (args := #[Value.int IntKind.i64 1]) (R := fun v w' => v = Value.agg #[Value.int IntKind.i64 1, Value.string { data := #[] }, Value.int IntKind.i64 1] ∧ Below V2.heap.size V2 w') (d := 88) (by kernel_rfl) (wanted_some rfl (by kernel_rfl) s84) (run_call rfl rfl (enters_of Try.func31 (by kernel_rfl) rfl) (by simp only [List.map_toArray, List.map_cons, List.map_nil, ev_const])) ((v2_any 1 _).mono fun e w' ⟨he, hb⟩ => ⟨_, he, rfl, hb⟩) hsz rfl rfl ?_
  rintro _ V3 ⟨rfl, hq⟩
  refine ⟨hS.then hq, fun A6 hn => ?_⟩
  replace hS := hS.then hq
  clear hq
  replace hsz := hn.size
  replace hdf := hn.defers.trans hdf
  replace s3 := hn.keep _ _ rfl s3
  replace s4 := hn.keep _ _ rfl s4
  replace s5 := hn.keep _ _ rfl s5
  replace s6 := hn.keep _ _ rfl s6
  replace s7 := hn.keep _ _ rfl s7
  replace s8 := hn.keep _ _ rfl s8
  replace s9 := hn.keep _ _ rfl s9
  replace s10 := hn.keep _ _ rfl s10
  replace s84 := hn.keep _ _ rfl s84
  replace s85 := hn.keep _ _ rfl s85
  replace s86 := hn.keep _ _ rfl s86
  replace s87 := hn.keep _ _ rfl s87
  have s88 := hn.new
  clear hn
  refine n_call (f := 31) (args := #[Value.int IntKind.i64 1]) (R := fun v w' => v = Value.agg #[Value.int IntKind.i64 1, Value.string { data := #[] }, Value.int IntKind.i64 1] ∧ Below V3.heap.size V3 w') (d := 89) (by kernel_rfl) (wanted_some rfl (by kernel_rfl) s84) (run_call rfl rfl (enters_of Try.func31 (by kernel_rfl) rfl) (by simp only [List.map_toArray, List.map_cons, List.map_nil, ev_const])) ((v2_any 1 _).mono fun e w' ⟨he, hb⟩ => ⟨_, he, rfl, hb⟩) hsz rfl rfl ?_
  rintro _ V4 ⟨rfl, hq⟩
  refine ⟨hS.then hq, fun A7 hn => ?_⟩
  replace hS := hS.then hq
  clear hq
  replace hsz := hn.size
  replace hdf := hn.defers.trans hdf
  replace s3 := hn.keep _ _ rfl s3
  replace s4 := hn.keep _ _ rfl s4
  replace s5 := hn.keep _ _ rfl s5
  replace s6 := hn.keep _ _ rfl s6
  replace s7 := hn.keep _ _ rfl s7
  replace s8 := hn.keep _ _ rfl s8
  replace s9 := hn.keep _ _ rfl s9
  replace s10 := hn.keep _ _ rfl s10
  replace s84 := hn.keep _ _ rfl s84
  replace s85 := hn.keep _ _ rfl s85
  replace s86 := hn.keep _ _ rfl s86
  replace s87 := hn.keep _ _ rfl s87
  replace s88 := hn.keep _ _ rfl s88
  have s89 := hn.new
  clear hn
  refine n_alloc (v := Value.slice (some ⟨V4.heap.size, 0, none⟩) 4 4) (w' := (V4.alloc (.cells #[Value.int IntKind.i64 3, Value.string { data := #[102] }, Value.int IntKind.i64 2, Value.int IntKind.i64 3, Value.string { data := #[103] }, Value.int IntKind.i64 1, Value.int IntKind.i64 1, Value.string { data := #[] }, Value.int IntKind.i64 1, Value.int IntKind.i64 1, Value.string { data := #[] }, Value.int IntKind.i64 1] 24))) (d := 90) (by kernel_rfl) (wanted_some rfl (by kernel_rfl) s84) (run_slice rfl (by simp only [List.map_toArray, List.map_cons, List.map_nil, s86.eval, s87.eval, s88.eval, s89.eval]) (sl_c4 _ 3 2 3 1 1 1 1 1 ⟨#[102]⟩ ⟨#[103]⟩ ⟨#[]⟩ ⟨#[]⟩)) (hS.new _) hsz rfl rfl ?_
  intro A8 hn
  have l90 : Row (V4.alloc (.cells #[Value.int IntKind.i64 3, Value.string { data := #[102] }, Value.int IntKind.i64 2, Value.int IntKind.i64 3, Value.string { data := #[103] }, Value.int IntKind.i64 1, Value.int IntKind.i64 1, Value.string { data := #[] }, Value.int IntKind.i64 1, Value.int IntKind.i64 1, Value.string { data := #[] }, Value.int IntKind.i64 1] 24)) (some ⟨V4.heap.size, 0, none⟩) 4 [fC ⟨#[102]⟩ 2, fC ⟨#[103]⟩ 1, varC 1, varC 1] := cells_new V4 [fC ⟨#[102]⟩ 2, fC ⟨#[103]⟩ 1, varC 1, varC 1] (fits_cons (fC_fit (by decide) (by omega) (by omega)) (fits_cons (fC_fit (by decide) (by omega) (by omega)) (fits_cons (varC_fit (by omega) (by omega)) (fits_cons (varC_fit (by omega) (by omega)) (fits_nil))))) (by decide)
  replace hS := hS.new (.cells #[Value.int IntKind.i64 3, Value.string { data := #[102] }, Value.int IntKind.i64 2, Value.int IntKind.i64 3, Value.string { data := #[103] }, Value.int IntKind.i64 1, Value.int IntKind.i64 1, Value.string { data := #[] }, Value.int IntKind.i64 1, Value.int IntKind.i64 1, Value.string { data := #[] }, Value.int IntKind.i64 1] 24)
  obtain ⟨V5, hW⟩ : ∃ W, (V4.alloc (.cells #[Value.int IntKind.i64 3, Value.string { data := #[102] }, Value.int IntKind.i64 2, Value.int IntKind.i64 3, Value.string { data := #[103] }, Value.int IntKind.i64 1, Value.int IntKind.i64 1, Value.string { data := #[] }, Value.int IntKind.i64 1, Value.int IntKind.i64 1, Value.string { data := #[] }, Value.int IntKind.i64 1] 24)) = W := ⟨_, rfl⟩
  rw [hW] at hS l90 ⊢
  clear hW
  replace hsz := hn.size
  replace hdf := hn.defers.trans hdf
  replace s3 := hn.keep _ _ rfl s3
  replace s4 := hn.keep _ _ rfl s4
  replace s5 := hn.keep _ _ rfl s5
  replace s6 := hn.keep _ _ rfl s6
  replace s7 := hn.keep _ _ rfl s7
  replace s8 := hn.keep _ _ rfl s8
  replace s9 := hn.keep _ _ rfl s9
  replace s10 := hn.keep _ _ rfl s10
  replace s84 := hn.keep _ _ rfl s84
  replace s85 := hn.keep _ _ rfl s85
  clear s86 s87 s88 s89
  have s90 := hn.new
  clear hn
  refine n_call (f := 25) (args := #[Value.slice (a1) 4 cap1, Value.slice (some ⟨V4.heap.size, 0, none⟩) 4 4]) (R := fun v w' => v = Value.bool true ∧ Below V5.heap.size V5 w') (d := 91) (by kernel_rfl) (wanted_some rfl (by kernel_rfl) s84) (run_call rfl rfl (enters_of Try.func25 (by kernel_rfl) rfl) (by simp only [List.map_toArray, List.map_cons, List.map_nil, ev_const, s85.eval, s90.eval])) ((refsame1_lit (xs := [fC ⟨#[102]⟩ 2, fC ⟨#[103]⟩ 1, varC 1, varC 1]) (ys := [fC ⟨#[102]⟩ 2, fC ⟨#[103]⟩ 1, varC 1, varC 1]) rfl (r_t1.below hS) rfl l90 (decide_eq_true rfl)).mono fun e w' ⟨he, hb⟩ => ⟨_, he, rfl, hb⟩) hsz rfl rfl ?_
  rintro _ V6 ⟨rfl, hq⟩
  refine ⟨hS.then hq, fun A9 hn => ?_⟩
  replace hS := hS.then hq
  replace l90 := l90.below hq
  clear hq
  replace hsz := hn.size
  replace hdf := hn.defers.trans hdf
  replace s3 := hn.keep _ _ rfl s3
  replace s4 := hn.keep _ _ rfl s4
  replace s5 := hn.keep _ _ rfl s5
  replace s6 := hn.keep _ _ rfl s6
  replace s7 := hn.keep _ _ rfl s7
  replace s8 := hn.keep _ _ rfl s8
  replace s9 := hn.keep _ _ rfl s9
  replace s10 := hn.keep _ _ rfl s10
  replace s84 := hn.keep _ _ rfl s84
  clear s85 s90
  have s91 := hn.new
  clear hn
  refine n_pure (v := Value.bool true) (d := 92) (y_pickT (wanted_none rfl) rfl s84.eval s91.eval) hsz rfl rfl ?_
  intro A10 hn
  replace hsz := hn.size
  replace hdf := hn.defers.trans hdf
  replace s3 := hn.keep _ _ rfl s3
  replace s4 := hn.keep _ _ rfl s4
  replace s5 := hn.keep _ _ rfl s5
  replace s6 := hn.keep _ _ rfl s6
  replace s7 := hn.keep _ _ rfl s7
  replace s8 := hn.keep _ _ rfl s8
  replace s9 := hn.keep _ _ rfl s9
  replace s10 := hn.keep _ _ rfl s10
  clear s84 s91
  have s92 := hn.new
  clear hn
  refine n_pure (v := Value.bool true) (d := 93) (y_move (wanted_none rfl) rfl s92.eval) hsz rfl rfl ?_
  intro A11 hn
  replace hsz := hn.size
  replace hdf := hn.defers.trans hdf
  replace s3 := hn.keep _ _ rfl s3
  replace s4 := hn.keep _ _ rfl s4
  replace s5 := hn.keep _ _ rfl s5
  replace s6 := hn.keep _ _ rfl s6
  replace s7 := hn.keep _ _ rfl s7
  replace s8 := hn.keep _ _ rfl s8
  replace s9 := hn.keep _ _ rfl s9
  replace s10 := hn.keep _ _ rfl s10
  clear s92
  have s93 := hn.new
  clear hn
  refine n_pure (v := Value.bool true) (d := 94) (y_move (wanted_some rfl (by kernel_rfl) s93) rfl s4.eval) hsz rfl rfl ?_
  intro A12 hn
  replace hsz := hn.size
  replace hdf := hn.defers.trans hdf
  replace s3 := hn.keep _ _ rfl s3
  replace s5 := hn.keep _ _ rfl s5
  replace s6 := hn.keep _ _ rfl s6
  replace s7 := hn.keep _ _ rfl s7
  replace s8 := hn.keep _ _ rfl s8
  replace s9 := hn.keep _ _ rfl s9
  replace s10 := hn.keep _ _ rfl s10
  replace s93 := hn.keep _ _ rfl s93
  clear s4
  have s94 := hn.new
  clear hn
  refine n_pure (v := Value.bool true) (d := 95) (y_pickT (wanted_none rfl) rfl s93.eval s94.eval) hsz rfl rfl ?_
  intro A13 hn
  replace hsz := hn.size
  replace hdf := hn.defers.trans hdf
  replace s3 := hn.keep _ _ rfl s3
  replace s5 := hn.keep _ _ rfl s5
  replace s6 := hn.keep _ _ rfl s6
  replace s7 := hn.keep _ _ rfl s7
  replace s8 := hn.keep _ _ rfl s8
  replace s9 := hn.keep _ _ rfl s9
  replace s10 := hn.keep _ _ rfl s10
  clear s93 s94
  have s95 := hn.new
  clear hn
  refine n_pure (v := Value.bool true) (d := 96) (y_move (wanted_none rfl) rfl s95.eval) hsz rfl rfl ?_
  intro A14 hn
  replace hsz := hn.size
  replace hdf := hn.defers.trans hdf
  replace s3 := hn.keep _ _ rfl s3
  replace s5 := hn.keep _ _ rfl s5
  replace s6 := hn.keep _ _ rfl s6
  replace s7 := hn.keep _ _ rfl s7
  replace s8 := hn.keep _ _ rfl s8
  replace s9 := hn.keep _ _ rfl s9
  replace s10 := hn.keep _ _ rfl s10
  clear s95
  have s96 := hn.new
  clear hn
  refine n_pure (v := Value.slice (some ⟨b3, o3, none⟩) 1 cap3) (d := 97) (y_move (wanted_some rfl (by kernel_rfl) s96) rfl s3.eval) hsz rfl rfl ?_
  intro A15 hn
  replace hsz := hn.size
  replace hdf := hn.defers.trans hdf
  replace s3 := hn.keep _ _ rfl s3
  replace s5 := hn.keep _ _ rfl s5
  replace s6 := hn.keep _ _ rfl s6
  replace s7 := hn.keep _ _ rfl s7
  replace s8 := hn.keep _ _ rfl s8
  replace s9 := hn.keep _ _ rfl s9
  replace s10 := hn.keep _ _ rfl s10
  replace s96 := hn.keep _ _ rfl s96
  have s97 := hn.new
  clear hn
  refine n_pure (v := Value.pointer (some ⟨b3, o3 + 0 * 2, none⟩)) (d := 98) (y_index 0 (by omega) (wanted_some rfl (by kernel_rfl) s96) rfl s97.eval rfl) hsz rfl rfl ?_
  intro A16 hn
  replace hsz := hn.size
  replace hdf := hn.defers.trans hdf
  replace s3 := hn.keep _ _ rfl s3
  replace s5 := hn.keep _ _ rfl s5
  replace s6 := hn.keep _ _ rfl s6
  replace s7 := hn.keep _ _ rfl s7
  replace s8 := hn.keep _ _ rfl s8
  replace s9 := hn.keep _ _ rfl s9
  replace s10 := hn.keep _ _ rfl s10
  replace s96 := hn.keep _ _ rfl s96
  clear s97
  have s98 := hn.new
  clear hn
  refine n_pure (v := Value.pointer (some ⟨b3, o3 + 0 * 2, none⟩)) (d := 99) (y_field0 (wanted_some rfl (by kernel_rfl) s96) rfl s98.eval) hsz rfl rfl ?_
  intro A17 hn
  replace hsz := hn.size
  replace hdf := hn.defers.trans hdf
  replace s3 := hn.keep _ _ rfl s3
  replace s5 := hn.keep _ _ rfl s5
  replace s6 := hn.keep _ _ rfl s6
  replace s7 := hn.keep _ _ rfl s7
  replace s8 := hn.keep _ _ rfl s8
  replace s9 := hn.keep _ _ rfl s9
  replace s10 := hn.keep _ _ rfl s10
  replace s96 := hn.keep _ _ rfl s96
  clear s98
  have s99 := hn.new
  clear hn
  refine n_pure (v := Value.int IntKind.i64 1) (d := 100) (y_load_int (wanted_some rfl (by kernel_rfl) s96) rfl s99.eval (fun w hw => keep m30 hw)) hsz rfl rfl ?_
  intro A18 hn
  replace hsz := hn.size
  replace hdf := hn.defers.trans hdf
  replace s3 := hn.keep _ _ rfl s3
  replace s5 := hn.keep _ _ rfl s5
  replace s6 := hn.keep _ _ rfl s6
  replace s7 := hn.keep _ _ rfl s7
  replace s8 := hn.keep _ _ rfl s8
  replace s9 := hn.keep _ _ rfl s9
  replace s10 := hn.keep _ _ rfl s10
  replace s96 := hn.keep _ _ rfl s96
  clear s99
  have s100 := hn.new
  clear hn
  refine n_pure (v := Value.bool true) (d := 101) (y_eqlI (p := 1) (q := 1) (wanted_some rfl (by kernel_rfl) s96) rfl s100.eval rfl) hsz rfl rfl ?_
  intro A19 hn
  replace hsz := hn.size
  replace hdf := hn.defers.trans hdf
  replace s3 := hn.keep _ _ rfl s3
  replace s5 := hn.keep _ _ rfl s5
  replace s6 := hn.keep _ _ rfl s6
  replace s7 := hn.keep _ _ rfl s7
  replace s8 := hn.keep _ _ rfl s8
  replace s9 := hn.keep _ _ rfl s9
  replace s10 := hn.keep _ _ rfl s10
  replace s96 := hn.keep _ _ rfl s96
  clear s100
  have s101 := hn.new
  clear hn
  refine n_pure (v := Value.bool true) (d := 102) (y_pickT (wanted_none rfl) rfl s96.eval s101.eval) hsz rfl rfl ?_
  intro A20 hn
  replace hsz := hn.size
  replace hdf := hn.defers.trans hdf
  replace s3 := hn.keep _ _ rfl s3
  replace s5 := hn.keep _ _ rfl s5
  replace s6 := hn.keep _ _ rfl s6
  replace s7 := hn.keep _ _ rfl s7
  replace s8 := hn.keep _ _ rfl s8
  replace s9 := hn.keep _ _ rfl s9
  replace s10 := hn.keep _ _ rfl s10
  clear s96 s101
  have s102 := hn.new
  clear hn
  refine n_pure (v := Value.bool true) (d := 103) (y_move (wanted_none rfl) rfl s102.eval) hsz rfl rfl ?_
  intro A21 hn
  replace hsz := hn.size
  replace hdf := hn.defers.trans hdf
  replace s3 := hn.keep _ _ rfl s3
  replace s5 := hn.keep _ _ rfl s5
  replace s6 := hn.keep _ _ rfl s6
  replace s7 := hn.keep _ _ rfl s7
  replace s8 := hn.keep _ _ rfl s8
  replace s9 := hn.keep _ _ rfl s9
  replace s10 := hn.keep _ _ rfl s10
  clear s102
  have s103 := hn.new
  clear hn
  refine n_pure (v := Value.slice (some ⟨b3, o3, none⟩) 1 cap3) (d := 104) (y_move (wanted_some rfl (by kernel_rfl) s103) rfl s3.eval) hsz rfl rfl ?_
  intro A22 hn
  replace hsz := hn.size
  replace hdf := hn.defers.trans hdf
  replace s3 := hn.keep _ _ rfl s3
  replace s5 := hn.keep _ _ rfl s5
  replace s6 := hn.keep _ _ rfl s6
  replace s7 := hn.keep _ _ rfl s7
  replace s8 := hn.keep _ _ rfl s8
  replace s9 := hn.keep _ _ rfl s9
  replace s10 := hn.keep _ _ rfl s10
  replace s103 := hn.keep _ _ rfl s103
  have s104 := hn.new
  clear hn
  refine n_pure (v := Value.pointer (some ⟨b3, o3 + 0 * 2, none⟩)) (d := 105) (y_index 0 (by omega) (wanted_some rfl (by kernel_rfl) s103) rfl s104.eval rfl) hsz rfl rfl ?_
  intro A23 hn
  replace hsz := hn.size
  replace hdf := hn.defers.trans hdf
  replace s3 := hn.keep _ _ rfl s3
  replace s5 := hn.keep _ _ rfl s5
  replace s6 := hn.keep _ _ rfl s6
  replace s7 := hn.keep _ _ rfl s7
  replace s8 := hn.keep _ _ rfl s8
  replace s9 := hn.keep _ _ rfl s9
  replace s10 := hn.keep _ _ rfl s10
  replace s103 := hn.keep _ _ rfl s103
  clear s104
  have s105 := hn.new
  clear hn
  refine n_pure (v := Value.pointer (some ⟨b3, o3 + 0 * 2 + 1, none⟩)) (d := 106) (y_field1 (wanted_some rfl (by kernel_rfl) s103) rfl s105.eval) hsz rfl rfl ?_
  intro A24 hn
  replace hsz := hn.size
  replace hdf := hn.defers.trans hdf
  replace s3 := hn.keep _ _ rfl s3
  replace s5 := hn.keep _ _ rfl s5
  replace s6 := hn.keep _ _ rfl s6
  replace s7 := hn.keep _ _ rfl s7
  replace s8 := hn.keep _ _ rfl s8
  replace s9 := hn.keep _ _ rfl s9
  replace s10 := hn.keep _ _ rfl s10
  replace s103 := hn.keep _ _ rfl s103
  clear s105
  have s106 := hn.new
  clear hn
  refine n_pure (v := Value.slice (p30) 1 q30) (d := 107) (y_load_cells (wanted_some rfl (by kernel_rfl) s103) rfl s106.eval (fun w hw => keep n30 hw)) hsz rfl rfl ?_
  intro A25 hn
  replace hsz := hn.size
  replace hdf := hn.defers.trans hdf
  replace s3 := hn.keep _ _ rfl s3
  replace s5 := hn.keep _ _ rfl s5
  replace s6 := hn.keep _ _ rfl s6
  replace s7 := hn.keep _ _ rfl s7
  replace s8 := hn.keep _ _ rfl s8
  replace s9 := hn.keep _ _ rfl s9
  replace s10 := hn.keep _ _ rfl s10
  replace s103 := hn.keep _ _ rfl s103
  clear s106
  have s107 := hn.new
  clear hn
  refine n_call (f := 31) (args := #[Value.int IntKind.i64 0]) (R := fun v w' => v = Value.agg #[Value.int IntKind.i64 1, Value.string { data := #[] }, Value.int IntKind.i64 0] ∧ Below V6.heap.size V6 w') (d := 108) (by kernel_rfl) (wanted_some rfl (by kernel_rfl) s103) (run_call rfl rfl (enters_of Try.func31 (by kernel_rfl) rfl) (by simp only [List.map_toArray, List.map_cons, List.map_nil, ev_const])) ((v2_any 0 _).mono fun e w' ⟨he, hb⟩ => ⟨_, he, rfl, hb⟩) hsz rfl rfl ?_
  rintro _ V7 ⟨rfl, hq⟩
  refine ⟨hS.then hq, fun A26 hn => ?_⟩
  replace hS := hS.then hq
  replace l90 := l90.below hq
  clear hq
  replace hsz := hn.size
  replace hdf := hn.defers.trans hdf
  replace s3 := hn.keep _ _ rfl s3
  replace s5 := hn.keep _ _ rfl s5
  replace s6 := hn.keep _ _ rfl s6
  replace s7 := hn.keep _ _ rfl s7
  replace s8 := hn.keep _ _ rfl s8
  replace s9 := hn.keep _ _ rfl s9
  replace s10 := hn.keep _ _ rfl s10
  replace s103 := hn.keep _ _ rfl s103
  replace s107 := hn.keep _ _ rfl s107
  have s108 := hn.new
  clear hn
  refine n_alloc (v := Value.slice (some ⟨V7.heap.size, 0, none⟩) 1 1) (w' := (V7.alloc (.cells #[Value.int IntKind.i64 1, Value.string { data := #[] }, Value.int IntKind.i64 0] 24))) (d := 109) (by kernel_rfl) (wanted_some rfl (by kernel_rfl) s103) (run_slice rfl (by simp only [List.map_toArray, List.map_cons, List.map_nil, s108.eval]) (sl_c1 _ 1 0 ⟨#[]⟩)) (hS.new _) hsz rfl rfl ?_
  intro A27 hn
  have l109 : Row (V7.alloc (.cells #[Value.int IntKind.i64 1, Value.string { data := #[] }, Value.int IntKind.i64 0] 24)) (some ⟨V7.heap.size, 0, none⟩) 1 [varC 0] := cells_new V7 [varC 0] (fits_cons (varC_fit (by omega) (by omega)) (fits_nil)) (by decide)
  replace hS := hS.new (.cells #[Value.int IntKind.i64 1, Value.string { data := #[] }, Value.int IntKind.i64 0] 24)
  replace l90 := l90.below ((Below.refl _ _).new (.cells #[Value.int IntKind.i64 1, Value.string { data := #[] }, Value.int IntKind.i64 0] 24))
  obtain ⟨V8, hW⟩ : ∃ W, (V7.alloc (.cells #[Value.int IntKind.i64 1, Value.string { data := #[] }, Value.int IntKind.i64 0] 24)) = W := ⟨_, rfl⟩
  rw [hW] at hS l90 l109 ⊢
  clear hW
  replace hsz := hn.size
  replace hdf := hn.defers.trans hdf
  replace s3 := hn.keep _ _ rfl s3
  replace s5 := hn.keep _ _ rfl s5
  replace s6 := hn.keep _ _ rfl s6
  replace s7 := hn.keep _ _ rfl s7
  replace s8 := hn.keep _ _ rfl s8
  replace s9 := hn.keep _ _ rfl s9
  replace s10 := hn.keep _ _ rfl s10
  replace s103 := hn.keep _ _ rfl s103
  replace s107 := hn.keep _ _ rfl s107
  clear s108
  have s109 := hn.new
  clear hn
  refine n_call (f := 25) (args := #[Value.slice (p30) 1 q30, Value.slice (some ⟨V7.heap.size, 0, none⟩) 1 1]) (R := fun v w' => v = Value.bool true ∧ Below V8.heap.size V8 w') (d := 110) (by kernel_rfl) (wanted_some rfl (by kernel_rfl) s103) (run_call rfl rfl (enters_of Try.func25 (by kernel_rfl) rfl) (by simp only [List.map_toArray, List.map_cons, List.map_nil, ev_const, s107.eval, s109.eval])) ((refsame1_lit (xs := [varC 0]) (ys := [varC 0]) rfl (w30.below hS) rfl l109 (decide_eq_true rfl)).mono fun e w' ⟨he, hb⟩ => ⟨_, he, rfl, hb⟩) hsz rfl rfl ?_
  rintro _ V9 ⟨rfl, hq⟩
  refine ⟨hS.then hq, fun A28 hn => ?_⟩
  replace hS := hS.then hq
  replace l90 := l90.below hq
  replace l109 := l109.below hq
  clear hq
  replace hsz := hn.size
  replace hdf := hn.defers.trans hdf
  replace s3 := hn.keep _ _ rfl s3
  replace s5 := hn.keep _ _ rfl s5
  replace s6 := hn.keep _ _ rfl s6
  replace s7 := hn.keep _ _ rfl s7
  replace s8 := hn.keep _ _ rfl s8
  replace s9 := hn.keep _ _ rfl s9
  replace s10 := hn.keep _ _ rfl s10
  replace s103 := hn.keep _ _ rfl s103
  clear s107 s109
  have s110 := hn.new
  clear hn
  refine n_pure (v := Value.bool true) (d := 111) (y_pickT (wanted_none rfl) rfl s103.eval s110.eval) hsz rfl rfl ?_
  intro A29 hn
  replace hsz := hn.size
  replace hdf := hn.defers.trans hdf
  replace s3 := hn.keep _ _ rfl s3
  replace s5 := hn.keep _ _ rfl s5
  replace s6 := hn.keep _ _ rfl s6
  replace s7 := hn.keep _ _ rfl s7
  replace s8 := hn.keep _ _ rfl s8
  replace s9 := hn.keep _ _ rfl s9
  replace s10 := hn.keep _ _ rfl s10
  clear s103 s110
  have s111 := hn.new
  clear hn
  refine n_pure (v := Value.bool true) (d := 112) (y_move (wanted_none rfl) rfl s111.eval) hsz rfl rfl ?_
  intro A30 hn
  replace hsz := hn.size
  replace hdf := hn.defers.trans hdf
  replace s3 := hn.keep _ _ rfl s3
  replace s5 := hn.keep _ _ rfl s5
  replace s6 := hn.keep _ _ rfl s6
  replace s7 := hn.keep _ _ rfl s7
  replace s8 := hn.keep _ _ rfl s8
  replace s9 := hn.keep _ _ rfl s9
  replace s10 := hn.keep _ _ rfl s10
  clear s111
  have s112 := hn.new
  clear hn
  refine n_pure (v := Value.bool true) (d := 113) (y_move (wanted_some rfl (by kernel_rfl) s112) rfl s6.eval) hsz rfl rfl ?_
  intro A31 hn
  replace hsz := hn.size
  replace hdf := hn.defers.trans hdf
  replace s3 := hn.keep _ _ rfl s3
  replace s5 := hn.keep _ _ rfl s5
  replace s7 := hn.keep _ _ rfl s7
  replace s8 := hn.keep _ _ rfl s8
  replace s9 := hn.keep _ _ rfl s9
  replace s10 := hn.keep _ _ rfl s10
  replace s112 := hn.keep _ _ rfl s112
  clear s6
  have s113 := hn.new
  clear hn
  refine n_pure (v := Value.bool true) (d := 114) (y_pickT (wanted_none rfl) rfl s112.eval s113.eval) hsz rfl rfl ?_
  intro A32 hn
  replace hsz := hn.size
  replace hdf := hn.defers.trans hdf
  replace s3 := hn.keep _ _ rfl s3
  replace s5 := hn.keep _ _ rfl s5
  replace s7 := hn.keep _ _ rfl s7
  replace s8 := hn.keep _ _ rfl s8
  replace s9 := hn.keep _ _ rfl s9
  replace s10 := hn.keep _ _ rfl s10
  clear s112 s113
  have s114 := hn.new
  clear hn
  refine n_pure (v := Value.bool true) (d := 115) (y_move (wanted_none rfl) rfl s114.eval) hsz rfl rfl ?_
  intro A33 hn
  replace hsz := hn.size
  replace hdf := hn.defers.trans hdf
  replace s3 := hn.keep _ _ rfl s3
  replace s5 := hn.keep _ _ rfl s5
  replace s7 := hn.keep _ _ rfl s7
  replace s8 := hn.keep _ _ rfl s8
  replace s9 := hn.keep _ _ rfl s9
  replace s10 := hn.keep _ _ rfl s10
  clear s114
  have s115 := hn.new
  clear hn
  refine n_pure (v := Value.slice (some ⟨b5, o5, none⟩) 3 cap5) (d := 116) (y_move (wanted_some rfl (by kernel_rfl) s115) rfl s5.eval) hsz rfl rfl ?_
  intro A34 hn
  replace hsz := hn.size
  replace hdf := hn.defers.trans hdf
  replace s3 := hn.keep _ _ rfl s3
  replace s5 := hn.keep _ _ rfl s5
  replace s7 := hn.keep _ _ rfl s7
  replace s8 := hn.keep _ _ rfl s8
  replace s9 := hn.keep _ _ rfl s9
  replace s10 := hn.keep _ _ rfl s10
  replace s115 := hn.keep _ _ rfl s115
  have s116 := hn.new
  clear hn
  refine n_pure (v := Value.pointer (some ⟨b5, o5 + 0 * 2, none⟩)) (d := 117) (y_index 0 (by omega) (wanted_some rfl (by kernel_rfl) s115) rfl s116.eval rfl) hsz rfl rfl ?_
  intro A35 hn
  replace hsz := hn.size
  replace hdf := hn.defers.trans hdf
  replace s3 := hn.keep _ _ rfl s3
  replace s5 := hn.keep _ _ rfl s5
  replace s7 := hn.keep _ _ rfl s7
  replace s8 := hn.keep _ _ rfl s8
  replace s9 := hn.keep _ _ rfl s9
  replace s10 := hn.keep _ _ rfl s10
  replace s115 := hn.keep _ _ rfl s115
  clear s116
  have s117 := hn.new
  clear hn
  refine n_pure (v := Value.pointer (some ⟨b5, o5 + 0 * 2, none⟩)) (d := 118) (y_field0 (wanted_some rfl (by kernel_rfl) s115) rfl s117.eval) hsz rfl rfl ?_
  intro A36 hn
  replace hsz := hn.size
  replace hdf := hn.defers.trans hdf
  replace s3 := hn.keep _ _ rfl s3
  replace s5 := hn.keep _ _ rfl s5
  replace s7 := hn.keep _ _ rfl s7
  replace s8 := hn.keep _ _ rfl s8
  replace s9 := hn.keep _ _ rfl s9
  replace s10 := hn.keep _ _ rfl s10
  replace s115 := hn.keep _ _ rfl s115
  clear s117
  have s118 := hn.new
  clear hn
  refine n_pure (v := Value.int IntKind.i64 0) (d := 119) (y_load_int (wanted_some rfl (by kernel_rfl) s115) rfl s118.eval (fun w hw => keep m50 hw)) hsz rfl rfl ?_
  intro A37 hn
  replace hsz := hn.size
  replace hdf := hn.defers.trans hdf
  replace s3 := hn.keep _ _ rfl s3
  replace s5 := hn.keep _ _ rfl s5
  replace s7 := hn.keep _ _ rfl s7
  replace s8 := hn.keep _ _ rfl s8
  replace s9 := hn.keep _ _ rfl s9
  replace s10 := hn.keep _ _ rfl s10
  replace s115 := hn.keep _ _ rfl s115
  clear s118
  have s119 := hn.new
  clear hn
  refine n_pure (v := Value.bool true) (d := 120) (y_eqlI (p := 0) (q := 0) (wanted_some rfl (by kernel_rfl) s115) rfl s119.eval rfl) hsz rfl rfl ?_
  intro A38 hn
  replace hsz := hn.size
  replace hdf := hn.defers.trans hdf
  replace s3 := hn.keep _ _ rfl s3
  replace s5 := hn.keep _ _ rfl s5
  replace s7 := hn.keep _ _ rfl s7
  replace s8 := hn.keep _ _ rfl s8
  replace s9 := hn.keep _ _ rfl s9
  replace s10 := hn.keep _ _ rfl s10
  replace s115 := hn.keep _ _ rfl s115
  clear s119
  have s120 := hn.new
  clear hn
  refine n_pure (v := Value.bool true) (d := 121) (y_pickT (wanted_none rfl) rfl s115.eval s120.eval) hsz rfl rfl ?_
  intro A39 hn
  replace hsz := hn.size
  replace hdf := hn.defers.trans hdf
  replace s3 := hn.keep _ _ rfl s3
  replace s5 := hn.keep _ _ rfl s5
  replace s7 := hn.keep _ _ rfl s7
  replace s8 := hn.keep _ _ rfl s8
  replace s9 := hn.keep _ _ rfl s9
  replace s10 := hn.keep _ _ rfl s10
  clear s115 s120
  have s121 := hn.new
  clear hn
  refine n_pure (v := Value.bool true) (d := 122) (y_move (wanted_none rfl) rfl s121.eval) hsz rfl rfl ?_
  intro A40 hn
  replace hsz := hn.size
  replace hdf := hn.defers.trans hdf
  replace s3 := hn.keep _ _ rfl s3
  replace s5 := hn.keep _ _ rfl s5
  replace s7 := hn.keep _ _ rfl s7
  replace s8 := hn.keep _ _ rfl s8
  replace s9 := hn.keep _ _ rfl s9
  replace s10 := hn.keep _ _ rfl s10
  clear s121
  have s122 := hn.new
  clear hn
  refine n_pure (v := Value.slice (some ⟨b5, o5, none⟩) 3 cap5) (d := 123) (y_move (wanted_some rfl (by kernel_rfl) s122) rfl s5.eval) hsz rfl rfl ?_
  intro A41 hn
  replace hsz := hn.size
  replace hdf := hn.defers.trans hdf
  replace s3 := hn.keep _ _ rfl s3
  replace s5 := hn.keep _ _ rfl s5
  replace s7 := hn.keep _ _ rfl s7
  replace s8 := hn.keep _ _ rfl s8
  replace s9 := hn.keep _ _ rfl s9
  replace s10 := hn.keep _ _ rfl s10
  replace s122 := hn.keep _ _ rfl s122
  have s123 := hn.new
  clear hn
  refine n_pure (v := Value.pointer (some ⟨b5, o5 + 0 * 2, none⟩)) (d := 124) (y_index 0 (by omega) (wanted_some rfl (by kernel_rfl) s122) rfl s123.eval rfl) hsz rfl rfl ?_
  intro A42 hn
  replace hsz := hn.size
  replace hdf := hn.defers.trans hdf
  replace s3 := hn.keep _ _ rfl s3
  replace s5 := hn.keep _ _ rfl s5
  replace s7 := hn.keep _ _ rfl s7
  replace s8 := hn.keep _ _ rfl s8
  replace s9 := hn.keep _ _ rfl s9
  replace s10 := hn.keep _ _ rfl s10
  replace s122 := hn.keep _ _ rfl s122
  clear s123
  have s124 := hn.new
  clear hn
  refine n_pure (v := Value.pointer (some ⟨b5, o5 + 0 * 2 + 1, none⟩)) (d := 125) (y_field1 (wanted_some rfl (by kernel_rfl) s122) rfl s124.eval) hsz rfl rfl ?_
  intro A43 hn
  replace hsz := hn.size
  replace hdf := hn.defers.trans hdf
  replace s3 := hn.keep _ _ rfl s3
  replace s5 := hn.keep _ _ rfl s5
  replace s7 := hn.keep _ _ rfl s7
  replace s8 := hn.keep _ _ rfl s8
  replace s9 := hn.keep _ _ rfl s9
  replace s10 := hn.keep _ _ rfl s10
  replace s122 := hn.keep _ _ rfl s122
  clear s124
  have s125 := hn.new
  clear hn
  refine n_pure (v := Value.slice (p50) 1 q50) (d := 126) (y_load_cells (wanted_some rfl (by kernel_rfl) s122) rfl s125.eval (fun w hw => keep n50 hw)) hsz rfl rfl ?_
  intro A44 hn
  replace hsz := hn.size
  replace hdf := hn.defers.trans hdf
  replace s3 := hn.keep _ _ rfl s3
  replace s5 := hn.keep _ _ rfl s5
  replace s7 := hn.keep _ _ rfl s7
  replace s8 := hn.keep _ _ rfl s8
  replace s9 := hn.keep _ _ rfl s9
  replace s10 := hn.keep _ _ rfl s10
  replace s122 := hn.keep _ _ rfl s122
  clear s125
  have s126 := hn.new
  clear hn
  refine n_call (f := 31) (args := #[Value.int IntKind.i64 1]) (R := fun v w' => v = Value.agg #[Value.int IntKind.i64 1, Value.string { data := #[] }, Value.int IntKind.i64 1] ∧ Below V9.heap.size V9 w') (d := 127) (by kernel_rfl) (wanted_some rfl (by kernel_rfl) s122) (run_call rfl rfl (enters_of Try.func31 (by kernel_rfl) rfl) (by simp only [List.map_toArray, List.map_cons, List.map_nil, ev_const])) ((v2_any 1 _).mono fun e w' ⟨he, hb⟩ => ⟨_, he, rfl, hb⟩) hsz rfl rfl ?_
  rintro _ V10 ⟨rfl, hq⟩
  refine ⟨hS.then hq, fun A45 hn => ?_⟩
  replace hS := hS.then hq
  replace l90 := l90.below hq
  replace l109 := l109.below hq
  clear hq
  replace hsz := hn.size
  replace hdf := hn.defers.trans hdf
  replace s3 := hn.keep _ _ rfl s3
  replace s5 := hn.keep _ _ rfl s5
  replace s7 := hn.keep _ _ rfl s7
  replace s8 := hn.keep _ _ rfl s8
  replace s9 := hn.keep _ _ rfl s9
  replace s10 := hn.keep _ _ rfl s10
  replace s122 := hn.keep _ _ rfl s122
  replace s126 := hn.keep _ _ rfl s126
  have s127 := hn.new
  clear hn
  refine n_alloc (v := Value.slice (some ⟨V10.heap.size, 0, none⟩) 1 1) (w' := (V10.alloc (.cells #[Value.int IntKind.i64 1, Value.string { data := #[] }, Value.int IntKind.i64 1] 24))) (d := 128) (by kernel_rfl) (wanted_some rfl (by kernel_rfl) s122) (run_slice rfl (by simp only [List.map_toArray, List.map_cons, List.map_nil, s127.eval]) (sl_c1 _ 1 1 ⟨#[]⟩)) (hS.new _) hsz rfl rfl ?_
  intro A46 hn
  have l128 : Row (V10.alloc (.cells #[Value.int IntKind.i64 1, Value.string { data := #[] }, Value.int IntKind.i64 1] 24)) (some ⟨V10.heap.size, 0, none⟩) 1 [varC 1] := cells_new V10 [varC 1] (fits_cons (varC_fit (by omega) (by omega)) (fits_nil)) (by decide)
  replace hS := hS.new (.cells #[Value.int IntKind.i64 1, Value.string { data := #[] }, Value.int IntKind.i64 1] 24)
  replace l90 := l90.below ((Below.refl _ _).new (.cells #[Value.int IntKind.i64 1, Value.string { data := #[] }, Value.int IntKind.i64 1] 24))
  replace l109 := l109.below ((Below.refl _ _).new (.cells #[Value.int IntKind.i64 1, Value.string { data := #[] }, Value.int IntKind.i64 1] 24))
  obtain ⟨V11, hW⟩ : ∃ W, (V10.alloc (.cells #[Value.int IntKind.i64 1, Value.string { data := #[] }, Value.int IntKind.i64 1] 24)) = W := ⟨_, rfl⟩
  rw [hW] at hS l90 l109 l128 ⊢
  clear hW
  replace hsz := hn.size
  replace hdf := hn.defers.trans hdf
  replace s3 := hn.keep _ _ rfl s3
  replace s5 := hn.keep _ _ rfl s5
  replace s7 := hn.keep _ _ rfl s7
  replace s8 := hn.keep _ _ rfl s8
  replace s9 := hn.keep _ _ rfl s9
  replace s10 := hn.keep _ _ rfl s10
  replace s122 := hn.keep _ _ rfl s122
  replace s126 := hn.keep _ _ rfl s126
  clear s127
  have s128 := hn.new
  clear hn
  refine n_call (f := 25) (args := #[Value.slice (p50) 1 q50, Value.slice (some ⟨V10.heap.size, 0, none⟩) 1 1]) (R := fun v w' => v = Value.bool true ∧ Below V11.heap.size V11 w') (d := 129) (by kernel_rfl) (wanted_some rfl (by kernel_rfl) s122) (run_call rfl rfl (enters_of Try.func25 (by kernel_rfl) rfl) (by simp only [List.map_toArray, List.map_cons, List.map_nil, ev_const, s126.eval, s128.eval])) ((refsame1_lit (xs := [varC 1]) (ys := [varC 1]) rfl (w50.below hS) rfl l128 (decide_eq_true rfl)).mono fun e w' ⟨he, hb⟩ => ⟨_, he, rfl, hb⟩) hsz rfl rfl ?_
  rintro _ V12 ⟨rfl, hq⟩
  refine ⟨hS.then hq, fun A47 hn => ?_⟩
  replace hS := hS.then hq
  replace l90 := l90.below hq
  replace l109 := l109.below hq
  replace l128 := l128.below hq
  clear hq
  replace hsz := hn.size
  replace hdf := hn.defers.trans hdf
  replace s3 := hn.keep _ _ rfl s3
  replace s5 := hn.keep _ _ rfl s5
  replace s7 := hn.keep _ _ rfl s7
  replace s8 := hn.keep _ _ rfl s8
  replace s9 := hn.keep _ _ rfl s9
  replace s10 := hn.keep _ _ rfl s10
  replace s122 := hn.keep _ _ rfl s122
  clear s128 s126
  have s129 := hn.new
  clear hn
  refine n_pure (v := Value.bool true) (d := 130) (y_pickT (wanted_none rfl) rfl s122.eval s129.eval) hsz rfl rfl ?_
  intro A48 hn
  replace hsz := hn.size
  replace hdf := hn.defers.trans hdf
  replace s3 := hn.keep _ _ rfl s3
  replace s5 := hn.keep _ _ rfl s5
  replace s7 := hn.keep _ _ rfl s7
  replace s8 := hn.keep _ _ rfl s8
  replace s9 := hn.keep _ _ rfl s9
  replace s10 := hn.keep _ _ rfl s10
  clear s129 s122
  have s130 := hn.new
  clear hn
  refine n_pure (v := Value.bool true) (d := 131) (y_move (wanted_none rfl) rfl s130.eval) hsz rfl rfl ?_
  intro A49 hn
  replace hsz := hn.size
  replace hdf := hn.defers.trans hdf
  replace s3 := hn.keep _ _ rfl s3
  replace s5 := hn.keep _ _ rfl s5
  replace s7 := hn.keep _ _ rfl s7
  replace s8 := hn.keep _ _ rfl s8
  replace s9 := hn.keep _ _ rfl s9
  replace s10 := hn.keep _ _ rfl s10
  clear s130
  have s131 := hn.new
  clear hn
  refine n_pure (v := Value.slice (some ⟨b5, o5, none⟩) 3 cap5) (d := 132) (y_move (wanted_some rfl (by kernel_rfl) s131) rfl s5.eval) hsz rfl rfl ?_
  intro A50 hn
  replace hsz := hn.size
  replace hdf := hn.defers.trans hdf
  replace s3 := hn.keep _ _ rfl s3
  replace s5 := hn.keep _ _ rfl s5
  replace s7 := hn.keep _ _ rfl s7
  replace s8 := hn.keep _ _ rfl s8
  replace s9 := hn.keep _ _ rfl s9
  replace s10 := hn.keep _ _ rfl s10
  replace s131 := hn.keep _ _ rfl s131
  have s132 := hn.new
  clear hn
  refine n_pure (v := Value.pointer (some ⟨b5, o5 + 1 * 2, none⟩)) (d := 133) (y_index 1 (by omega) (wanted_some rfl (by kernel_rfl) s131) rfl s132.eval rfl) hsz rfl rfl ?_
  intro A51 hn
  replace hsz := hn.size
  replace hdf := hn.defers.trans hdf
  replace s3 := hn.keep _ _ rfl s3
  replace s5 := hn.keep _ _ rfl s5
  replace s7 := hn.keep _ _ rfl s7
  replace s8 := hn.keep _ _ rfl s8
  replace s9 := hn.keep _ _ rfl s9
  replace s10 := hn.keep _ _ rfl s10
  replace s131 := hn.keep _ _ rfl s131
  clear s132
  have s133 := hn.new
  clear hn
  refine n_pure (v := Value.pointer (some ⟨b5, o5 + 1 * 2, none⟩)) (d := 134) (y_field0 (wanted_some rfl (by kernel_rfl) s131) rfl s133.eval) hsz rfl rfl ?_
  intro A52 hn
  replace hsz := hn.size
  replace hdf := hn.defers.trans hdf
  replace s3 := hn.keep _ _ rfl s3
  replace s5 := hn.keep _ _ rfl s5
  replace s7 := hn.keep _ _ rfl s7
  replace s8 := hn.keep _ _ rfl s8
  replace s9 := hn.keep _ _ rfl s9
  replace s10 := hn.keep _ _ rfl s10
  replace s131 := hn.keep _ _ rfl s131
  clear s133
  have s134 := hn.new
  clear hn
  refine n_pure (v := Value.int IntKind.i64 1) (d := 135) (y_load_int (wanted_some rfl (by kernel_rfl) s131) rfl s134.eval (fun w hw => keep m51 hw)) hsz rfl rfl ?_
  intro A53 hn
  replace hsz := hn.size
  replace hdf := hn.defers.trans hdf
  replace s3 := hn.keep _ _ rfl s3
  replace s5 := hn.keep _ _ rfl s5
  replace s7 := hn.keep _ _ rfl s7
  replace s8 := hn.keep _ _ rfl s8
  replace s9 := hn.keep _ _ rfl s9
  replace s10 := hn.keep _ _ rfl s10
  replace s131 := hn.keep _ _ rfl s131
  clear s134
  have s135 := hn.new
  clear hn
  refine n_pure (v := Value.bool true) (d := 136) (y_eqlI (p := 1) (q := 1) (wanted_some rfl (by kernel_rfl) s131) rfl s135.eval rfl) hsz rfl rfl ?_
  intro A54 hn
  replace hsz := hn.size
  replace hdf := hn.defers.trans hdf
  replace s3 := hn.keep _ _ rfl s3
  replace s5 := hn.keep _ _ rfl s5
  replace s7 := hn.keep _ _ rfl s7
  replace s8 := hn.keep _ _ rfl s8
  replace s9 := hn.keep _ _ rfl s9
  replace s10 := hn.keep _ _ rfl s10
  replace s131 := hn.keep _ _ rfl s131
  clear s135
  have s136 := hn.new
  clear hn
  refine n_pure (v := Value.bool true) (d := 137) (y_pickT (wanted_none rfl) rfl s131.eval s136.eval) hsz rfl rfl ?_
  intro A55 hn
  replace hsz := hn.size
  replace hdf := hn.defers.trans hdf
  replace s3 := hn.keep _ _ rfl s3
  replace s5 := hn.keep _ _ rfl s5
  replace s7 := hn.keep _ _ rfl s7
  replace s8 := hn.keep _ _ rfl s8
  replace s9 := hn.keep _ _ rfl s9
  replace s10 := hn.keep _ _ rfl s10
  clear s131 s136
  have s137 := hn.new
  clear hn
  refine n_pure (v := Value.bool true) (d := 138) (y_move (wanted_none rfl) rfl s137.eval) hsz rfl rfl ?_
  intro A56 hn
  replace hsz := hn.size
  replace hdf := hn.defers.trans hdf
  replace s3 := hn.keep _ _ rfl s3
  replace s5 := hn.keep _ _ rfl s5
  replace s7 := hn.keep _ _ rfl s7
  replace s8 := hn.keep _ _ rfl s8
  replace s9 := hn.keep _ _ rfl s9
  replace s10 := hn.keep _ _ rfl s10
  clear s137
  have s138 := hn.new
  clear hn
  refine n_pure (v := Value.slice (some ⟨b5, o5, none⟩) 3 cap5) (d := 139) (y_move (wanted_some rfl (by kernel_rfl) s138) rfl s5.eval) hsz rfl rfl ?_
  intro A57 hn
  replace hsz := hn.size
  replace hdf := hn.defers.trans hdf
  replace s3 := hn.keep _ _ rfl s3
  replace s5 := hn.keep _ _ rfl s5
  replace s7 := hn.keep _ _ rfl s7
  replace s8 := hn.keep _ _ rfl s8
  replace s9 := hn.keep _ _ rfl s9
  replace s10 := hn.keep _ _ rfl s10
  replace s138 := hn.keep _ _ rfl s138
  have s139 := hn.new
  clear hn
  refine n_pure (v := Value.pointer (some ⟨b5, o5 + 1 * 2, none⟩)) (d := 140) (y_index 1 (by omega) (wanted_some rfl (by kernel_rfl) s138) rfl s139.eval rfl) hsz rfl rfl ?_
  intro A58 hn
  replace hsz := hn.size
  replace hdf := hn.defers.trans hdf
  replace s3 := hn.keep _ _ rfl s3
  replace s5 := hn.keep _ _ rfl s5
  replace s7 := hn.keep _ _ rfl s7
  replace s8 := hn.keep _ _ rfl s8
  replace s9 := hn.keep _ _ rfl s9
  replace s10 := hn.keep _ _ rfl s10
  replace s138 := hn.keep _ _ rfl s138
  clear s139
  have s140 := hn.new
  clear hn
  refine n_pure (v := Value.pointer (some ⟨b5, o5 + 1 * 2 + 1, none⟩)) (d := 141) (y_field1 (wanted_some rfl (by kernel_rfl) s138) rfl s140.eval) hsz rfl rfl ?_
  intro A59 hn
  replace hsz := hn.size
  replace hdf := hn.defers.trans hdf
  replace s3 := hn.keep _ _ rfl s3
  replace s5 := hn.keep _ _ rfl s5
  replace s7 := hn.keep _ _ rfl s7
  replace s8 := hn.keep _ _ rfl s8
  replace s9 := hn.keep _ _ rfl s9
  replace s10 := hn.keep _ _ rfl s10
  replace s138 := hn.keep _ _ rfl s138
  clear s140
  have s141 := hn.new
  clear hn
  refine n_pure (v := Value.slice (p51) 1 q51) (d := 142) (y_load_cells (wanted_some rfl (by kernel_rfl) s138) rfl s141.eval (fun w hw => keep n51 hw)) hsz rfl rfl ?_
  intro A60 hn
  replace hsz := hn.size
  replace hdf := hn.defers.trans hdf
  replace s3 := hn.keep _ _ rfl s3
  replace s5 := hn.keep _ _ rfl s5
  replace s7 := hn.keep _ _ rfl s7
  replace s8 := hn.keep _ _ rfl s8
  replace s9 := hn.keep _ _ rfl s9
  replace s10 := hn.keep _ _ rfl s10
  replace s138 := hn.keep _ _ rfl s138
  clear s141
  have s142 := hn.new
  clear hn
  refine n_call (f := 31) (args := #[Value.int IntKind.i64 0]) (R := fun v w' => v = Value.agg #[Value.int IntKind.i64 1, Value.string { data := #[] }, Value.int IntKind.i64 0] ∧ Below V12.heap.size V12 w') (d := 143) (by kernel_rfl) (wanted_some rfl (by kernel_rfl) s138) (run_call rfl rfl (enters_of Try.func31 (by kernel_rfl) rfl) (by simp only [List.map_toArray, List.map_cons, List.map_nil, ev_const])) ((v2_any 0 _).mono fun e w' ⟨he, hb⟩ => ⟨_, he, rfl, hb⟩) hsz rfl rfl ?_
  rintro _ V13 ⟨rfl, hq⟩
  refine ⟨hS.then hq, fun A61 hn => ?_⟩
  replace hS := hS.then hq
  replace l90 := l90.below hq
  replace l109 := l109.below hq
  replace l128 := l128.below hq
  clear hq
  replace hsz := hn.size
  replace hdf := hn.defers.trans hdf
  replace s3 := hn.keep _ _ rfl s3
  replace s5 := hn.keep _ _ rfl s5
  replace s7 := hn.keep _ _ rfl s7
  replace s8 := hn.keep _ _ rfl s8
  replace s9 := hn.keep _ _ rfl s9
  replace s10 := hn.keep _ _ rfl s10
  replace s138 := hn.keep _ _ rfl s138
  replace s142 := hn.keep _ _ rfl s142
  have s143 := hn.new
  clear hn
  refine n_alloc (v := Value.slice (some ⟨V13.heap.size, 0, none⟩) 1 1) (w' := (V13.alloc (.cells #[Value.int IntKind.i64 1, Value.string { data := #[] }, Value.int IntKind.i64 0] 24))) (d := 144) (by kernel_rfl) (wanted_some rfl (by kernel_rfl) s138) (run_slice rfl (by simp only [List.map_toArray, List.map_cons, List.map_nil, s143.eval]) (sl_c1 _ 1 0 ⟨#[]⟩)) (hS.new _) hsz rfl rfl ?_
  intro A62 hn
  have l144 : Row (V13.alloc (.cells #[Value.int IntKind.i64 1, Value.string { data := #[] }, Value.int IntKind.i64 0] 24)) (some ⟨V13.heap.size, 0, none⟩) 1 [varC 0] := cells_new V13 [varC 0] (fits_cons (varC_fit (by omega) (by omega)) (fits_nil)) (by decide)
  replace hS := hS.new (.cells #[Value.int IntKind.i64 1, Value.string { data := #[] }, Value.int IntKind.i64 0] 24)
  replace l90 := l90.below ((Below.refl _ _).new (.cells #[Value.int IntKind.i64 1, Value.string { data := #[] }, Value.int IntKind.i64 0] 24))
  replace l109 := l109.below ((Below.refl _ _).new (.cells #[Value.int IntKind.i64 1, Value.string { data := #[] }, Value.int IntKind.i64 0] 24))
  replace l128 := l128.below ((Below.refl _ _).new (.cells #[Value.int IntKind.i64 1, Value.string { data := #[] }, Value.int IntKind.i64 0] 24))
  obtain ⟨V14, hW⟩ : ∃ W, (V13.alloc (.cells #[Value.int IntKind.i64 1, Value.string { data := #[] }, Value.int IntKind.i64 0] 24)) = W := ⟨_, rfl⟩
  rw [hW] at hS l90 l109 l128 l144 ⊢
  clear hW
  replace hsz := hn.size
  replace hdf := hn.defers.trans hdf
  replace s3 := hn.keep _ _ rfl s3
  replace s5 := hn.keep _ _ rfl s5
  replace s7 := hn.keep _ _ rfl s7
  replace s8 := hn.keep _ _ rfl s8
  replace s9 := hn.keep _ _ rfl s9
  replace s10 := hn.keep _ _ rfl s10
  replace s138 := hn.keep _ _ rfl s138
  replace s142 := hn.keep _ _ rfl s142
  clear s143
  have s144 := hn.new
  clear hn
  refine n_call (f := 25) (args := #[Value.slice (p51) 1 q51, Value.slice (some ⟨V13.heap.size, 0, none⟩) 1 1]) (R := fun v w' => v = Value.bool true ∧ Below V14.heap.size V14 w') (d := 145) (by kernel_rfl) (wanted_some rfl (by kernel_rfl) s138) (run_call rfl rfl (enters_of Try.func25 (by kernel_rfl) rfl) (by simp only [List.map_toArray, List.map_cons, List.map_nil, ev_const, s142.eval, s144.eval])) ((refsame1_lit (xs := [varC 0]) (ys := [varC 0]) rfl (w51.below hS) rfl l144 (decide_eq_true rfl)).mono fun e w' ⟨he, hb⟩ => ⟨_, he, rfl, hb⟩) hsz rfl rfl ?_
  rintro _ V15 ⟨rfl, hq⟩
  refine ⟨hS.then hq, fun A63 hn => ?_⟩
  replace hS := hS.then hq
  replace l90 := l90.below hq
  replace l109 := l109.below hq
  replace l128 := l128.below hq
  replace l144 := l144.below hq
  clear hq
  replace hsz := hn.size
  replace hdf := hn.defers.trans hdf
  replace s3 := hn.keep _ _ rfl s3
  replace s5 := hn.keep _ _ rfl s5
  replace s7 := hn.keep _ _ rfl s7
  replace s8 := hn.keep _ _ rfl s8
  replace s9 := hn.keep _ _ rfl s9
  replace s10 := hn.keep _ _ rfl s10
  replace s138 := hn.keep _ _ rfl s138
  clear s142 s144
  have s145 := hn.new
  clear hn
  refine n_pure (v := Value.bool true) (d := 146) (y_pickT (wanted_none rfl) rfl s138.eval s145.eval) hsz rfl rfl ?_
  intro A64 hn
  replace hsz := hn.size
  replace hdf := hn.defers.trans hdf
  replace s3 := hn.keep _ _ rfl s3
  replace s5 := hn.keep _ _ rfl s5
  replace s7 := hn.keep _ _ rfl s7
  replace s8 := hn.keep _ _ rfl s8
  replace s9 := hn.keep _ _ rfl s9
  replace s10 := hn.keep _ _ rfl s10
  clear s138 s145
  have s146 := hn.new
  clear hn
  refine n_pure (v := Value.bool true) (d := 147) (y_move (wanted_none rfl) rfl s146.eval) hsz rfl rfl ?_
  intro A65 hn
  replace hsz := hn.size
  replace hdf := hn.defers.trans hdf
  replace s3 := hn.keep _ _ rfl s3
  replace s5 := hn.keep _ _ rfl s5
  replace s7 := hn.keep _ _ rfl s7
  replace s8 := hn.keep _ _ rfl s8
  replace s9 := hn.keep _ _ rfl s9
  replace s10 := hn.keep _ _ rfl s10
  clear s146
  have s147 := hn.new
  clear hn
  refine n_pure (v := Value.slice (some ⟨b5, o5, none⟩) 3 cap5) (d := 148) (y_move (wanted_some rfl (by kernel_rfl) s147) rfl s5.eval) hsz rfl rfl ?_
  intro A66 hn
  replace hsz := hn.size
  replace hdf := hn.defers.trans hdf
  replace s3 := hn.keep _ _ rfl s3
  replace s5 := hn.keep _ _ rfl s5
  replace s7 := hn.keep _ _ rfl s7
  replace s8 := hn.keep _ _ rfl s8
  replace s9 := hn.keep _ _ rfl s9
  replace s10 := hn.keep _ _ rfl s10
  replace s147 := hn.keep _ _ rfl s147
  have s148 := hn.new
  clear hn
  refine n_pure (v := Value.pointer (some ⟨b5, o5 + 2 * 2, none⟩)) (d := 149) (y_index 2 (by omega) (wanted_some rfl (by kernel_rfl) s147) rfl s148.eval rfl) hsz rfl rfl ?_
  intro A67 hn
  replace hsz := hn.size
  replace hdf := hn.defers.trans hdf
  replace s3 := hn.keep _ _ rfl s3
  replace s5 := hn.keep _ _ rfl s5
  replace s7 := hn.keep _ _ rfl s7
  replace s8 := hn.keep _ _ rfl s8
  replace s9 := hn.keep _ _ rfl s9
  replace s10 := hn.keep _ _ rfl s10
  replace s147 := hn.keep _ _ rfl s147
  clear s148
  have s149 := hn.new
  clear hn
  refine n_pure (v := Value.pointer (some ⟨b5, o5 + 2 * 2, none⟩)) (d := 150) (y_field0 (wanted_some rfl (by kernel_rfl) s147) rfl s149.eval) hsz rfl rfl ?_
  intro A68 hn
  replace hsz := hn.size
  replace hdf := hn.defers.trans hdf
  replace s3 := hn.keep _ _ rfl s3
  replace s5 := hn.keep _ _ rfl s5
  replace s7 := hn.keep _ _ rfl s7
  replace s8 := hn.keep _ _ rfl s8
  replace s9 := hn.keep _ _ rfl s9
  replace s10 := hn.keep _ _ rfl s10
  replace s147 := hn.keep _ _ rfl s147
  clear s149
  have s150 := hn.new
  clear hn
  refine n_pure (v := Value.int IntKind.i64 2) (d := 151) (y_load_int (wanted_some rfl (by kernel_rfl) s147) rfl s150.eval (fun w hw => keep m52 hw)) hsz rfl rfl ?_
  intro A69 hn
  replace hsz := hn.size
  replace hdf := hn.defers.trans hdf
  replace s3 := hn.keep _ _ rfl s3
  replace s5 := hn.keep _ _ rfl s5
  replace s7 := hn.keep _ _ rfl s7
  replace s8 := hn.keep _ _ rfl s8
  replace s9 := hn.keep _ _ rfl s9
  replace s10 := hn.keep _ _ rfl s10
  replace s147 := hn.keep _ _ rfl s147
  clear s150
  have s151 := hn.new
  clear hn
  refine n_pure (v := Value.bool true) (d := 152) (y_eqlI (p := 2) (q := 2) (wanted_some rfl (by kernel_rfl) s147) rfl s151.eval rfl) hsz rfl rfl ?_
  intro A70 hn
  replace hsz := hn.size
  replace hdf := hn.defers.trans hdf
  replace s3 := hn.keep _ _ rfl s3
  replace s5 := hn.keep _ _ rfl s5
  replace s7 := hn.keep _ _ rfl s7
  replace s8 := hn.keep _ _ rfl s8
  replace s9 := hn.keep _ _ rfl s9
  replace s10 := hn.keep _ _ rfl s10
  replace s147 := hn.keep _ _ rfl s147
  clear s151
  have s152 := hn.new
  clear hn
  refine n_pure (v := Value.bool true) (d := 153) (y_pickT (wanted_none rfl) rfl s147.eval s152.eval) hsz rfl rfl ?_
  intro A71 hn
  replace hsz := hn.size
  replace hdf := hn.defers.trans hdf
  replace s3 := hn.keep _ _ rfl s3
  replace s5 := hn.keep _ _ rfl s5
  replace s7 := hn.keep _ _ rfl s7
  replace s8 := hn.keep _ _ rfl s8
  replace s9 := hn.keep _ _ rfl s9
  replace s10 := hn.keep _ _ rfl s10
  clear s147 s152
  have s153 := hn.new
  clear hn
  refine n_pure (v := Value.bool true) (d := 154) (y_move (wanted_none rfl) rfl s153.eval) hsz rfl rfl ?_
  intro A72 hn
  replace hsz := hn.size
  replace hdf := hn.defers.trans hdf
  replace s3 := hn.keep _ _ rfl s3
  replace s5 := hn.keep _ _ rfl s5
  replace s7 := hn.keep _ _ rfl s7
  replace s8 := hn.keep _ _ rfl s8
  replace s9 := hn.keep _ _ rfl s9
  replace s10 := hn.keep _ _ rfl s10
  clear s153
  have s154 := hn.new
  clear hn
  refine n_pure (v := Value.slice (some ⟨b5, o5, none⟩) 3 cap5) (d := 155) (y_move (wanted_some rfl (by kernel_rfl) s154) rfl s5.eval) hsz rfl rfl ?_
  intro A73 hn
  replace hsz := hn.size
  replace hdf := hn.defers.trans hdf
  replace s3 := hn.keep _ _ rfl s3
  replace s7 := hn.keep _ _ rfl s7
  replace s8 := hn.keep _ _ rfl s8
  replace s9 := hn.keep _ _ rfl s9
  replace s10 := hn.keep _ _ rfl s10
  replace s154 := hn.keep _ _ rfl s154
  clear s5
  have s155 := hn.new
  clear hn
  refine n_pure (v := Value.pointer (some ⟨b5, o5 + 2 * 2, none⟩)) (d := 156) (y_index 2 (by omega) (wanted_some rfl (by kernel_rfl) s154) rfl s155.eval rfl) hsz rfl rfl ?_
  intro A74 hn
  replace hsz := hn.size
  replace hdf := hn.defers.trans hdf
  replace s3 := hn.keep _ _ rfl s3
  replace s7 := hn.keep _ _ rfl s7
  replace s8 := hn.keep _ _ rfl s8
  replace s9 := hn.keep _ _ rfl s9
  replace s10 := hn.keep _ _ rfl s10
  replace s154 := hn.keep _ _ rfl s154
  clear s155
  have s156 := hn.new
  clear hn
  refine n_pure (v := Value.pointer (some ⟨b5, o5 + 2 * 2 + 1, none⟩)) (d := 157) (y_field1 (wanted_some rfl (by kernel_rfl) s154) rfl s156.eval) hsz rfl rfl ?_
  intro A75 hn
  replace hsz := hn.size
  replace hdf := hn.defers.trans hdf
  replace s3 := hn.keep _ _ rfl s3
  replace s7 := hn.keep _ _ rfl s7
  replace s8 := hn.keep _ _ rfl s8
  replace s9 := hn.keep _ _ rfl s9
  replace s10 := hn.keep _ _ rfl s10
  replace s154 := hn.keep _ _ rfl s154
  clear s156
  have s157 := hn.new
  clear hn
  refine n_pure (v := Value.slice (p52) 1 q52) (d := 158) (y_load_cells (wanted_some rfl (by kernel_rfl) s154) rfl s157.eval (fun w hw => keep n52 hw)) hsz rfl rfl ?_
  intro A76 hn
  replace hsz := hn.size
  replace hdf := hn.defers.trans hdf
  replace s3 := hn.keep _ _ rfl s3
  replace s7 := hn.keep _ _ rfl s7
  replace s8 := hn.keep _ _ rfl s8
  replace s9 := hn.keep _ _ rfl s9
  replace s10 := hn.keep _ _ rfl s10
  replace s154 := hn.keep _ _ rfl s154
  clear s157
  have s158 := hn.new
  clear hn
  refine n_call (f := 31) (args := #[Value.int IntKind.i64 0]) (R := fun v w' => v = Value.agg #[Value.int IntKind.i64 1, Value.string { data := #[] }, Value.int IntKind.i64 0] ∧ Below V15.heap.size V15 w') (d := 159) (by kernel_rfl) (wanted_some rfl (by kernel_rfl) s154) (run_call rfl rfl (enters_of Try.func31 (by kernel_rfl) rfl) (by simp only [List.map_toArray, List.map_cons, List.map_nil, ev_const])) ((v2_any 0 _).mono fun e w' ⟨he, hb⟩ => ⟨_, he, rfl, hb⟩) hsz rfl rfl ?_
  rintro _ V16 ⟨rfl, hq⟩
  refine ⟨hS.then hq, fun A77 hn => ?_⟩
  replace hS := hS.then hq
  replace l90 := l90.below hq
  replace l109 := l109.below hq
  replace l128 := l128.below hq
  replace l144 := l144.below hq
  clear hq
  replace hsz := hn.size
  replace hdf := hn.defers.trans hdf
  replace s3 := hn.keep _ _ rfl s3
  replace s7 := hn.keep _ _ rfl s7
  replace s8 := hn.keep _ _ rfl s8
  replace s9 := hn.keep _ _ rfl s9
  replace s10 := hn.keep _ _ rfl s10
  replace s154 := hn.keep _ _ rfl s154
  replace s158 := hn.keep _ _ rfl s158
  have s159 := hn.new
  clear hn
  refine n_alloc (v := Value.slice (some ⟨V16.heap.size, 0, none⟩) 1 1) (w' := (V16.alloc (.cells #[Value.int IntKind.i64 1, Value.string { data := #[] }, Value.int IntKind.i64 0] 24))) (d := 160) (by kernel_rfl) (wanted_some rfl (by kernel_rfl) s154) (run_slice rfl (by simp only [List.map_toArray, List.map_cons, List.map_nil, s159.eval]) (sl_c1 _ 1 0 ⟨#[]⟩)) (hS.new _) hsz rfl rfl ?_
  intro A78 hn
  have l160 : Row (V16.alloc (.cells #[Value.int IntKind.i64 1, Value.string { data := #[] }, Value.int IntKind.i64 0] 24)) (some ⟨V16.heap.size, 0, none⟩) 1 [varC 0] := cells_new V16 [varC 0] (fits_cons (varC_fit (by omega) (by omega)) (fits_nil)) (by decide)
  replace hS := hS.new (.cells #[Value.int IntKind.i64 1, Value.string { data := #[] }, Value.int IntKind.i64 0] 24)
  replace l90 := l90.below ((Below.refl _ _).new (.cells #[Value.int IntKind.i64 1, Value.string { data := #[] }, Value.int IntKind.i64 0] 24))
  replace l109 := l109.below ((Below.refl _ _).new (.cells #[Value.int IntKind.i64 1, Value.string { data := #[] }, Value.int IntKind.i64 0] 24))
  replace l128 := l128.below ((Below.refl _ _).new (.cells #[Value.int IntKind.i64 1, Value.string { data := #[] }, Value.int IntKind.i64 0] 24))
  replace l144 := l144.below ((Below.refl _ _).new (.cells #[Value.int IntKind.i64 1, Value.string { data := #[] }, Value.int IntKind.i64 0] 24))
  obtain ⟨V17, hW⟩ : ∃ W, (V16.alloc (.cells #[Value.int IntKind.i64 1, Value.string { data := #[] }, Value.int IntKind.i64 0] 24)) = W := ⟨_, rfl⟩
  rw [hW] at hS l90 l109 l128 l144 l160 ⊢
  clear hW
  replace hsz := hn.size
  replace hdf := hn.defers.trans hdf
  replace s3 := hn.keep _ _ rfl s3
  replace s7 := hn.keep _ _ rfl s7
  replace s8 := hn.keep _ _ rfl s8
  replace s9 := hn.keep _ _ rfl s9
  replace s10 := hn.keep _ _ rfl s10
  replace s154 := hn.keep _ _ rfl s154
  replace s158 := hn.keep _ _ rfl s158
  clear s159
  have s160 := hn.new
  clear hn
  refine n_call (f := 25) (args := #[Value.slice (p52) 1 q52, Value.slice (some ⟨V16.heap.size, 0, none⟩) 1 1]) (R := fun v w' => v = Value.bool true ∧ Below V17.heap.size V17 w') (d := 161) (by kernel_rfl) (wanted_some rfl (by kernel_rfl) s154) (run_call rfl rfl (enters_of Try.func25 (by kernel_rfl) rfl) (by simp only [List.map_toArray, List.map_cons, List.map_nil, ev_const, s158.eval, s160.eval])) ((refsame1_lit (xs := [varC 0]) (ys := [varC 0]) rfl (w52.below hS) rfl l160 (decide_eq_true rfl)).mono fun e w' ⟨he, hb⟩ => ⟨_, he, rfl, hb⟩) hsz rfl rfl ?_
  rintro _ V18 ⟨rfl, hq⟩
  refine ⟨hS.then hq, fun A79 hn => ?_⟩
  replace hS := hS.then hq
  replace l90 := l90.below hq
  replace l109 := l109.below hq
  replace l128 := l128.below hq
  replace l144 := l144.below hq
  replace l160 := l160.below hq
  clear hq
  replace hsz := hn.size
  replace hdf := hn.defers.trans hdf
  replace s3 := hn.keep _ _ rfl s3
  replace s7 := hn.keep _ _ rfl s7
  replace s8 := hn.keep _ _ rfl s8
  replace s9 := hn.keep _ _ rfl s9
  replace s10 := hn.keep _ _ rfl s10
  replace s154 := hn.keep _ _ rfl s154
  clear s160 s158
  have s161 := hn.new
  clear hn
  refine n_pure (v := Value.bool true) (d := 162) (y_pickT (wanted_none rfl) rfl s154.eval s161.eval) hsz rfl rfl ?_
  intro A80 hn
  replace hsz := hn.size
  replace hdf := hn.defers.trans hdf
  replace s3 := hn.keep _ _ rfl s3
  replace s7 := hn.keep _ _ rfl s7
  replace s8 := hn.keep _ _ rfl s8
  replace s9 := hn.keep _ _ rfl s9
  replace s10 := hn.keep _ _ rfl s10
  clear s161 s154
  have s162 := hn.new
  clear hn
  refine n_pure (v := Value.bool true) (d := 163) (y_move (wanted_none rfl) rfl s162.eval) hsz rfl rfl ?_
  intro A81 hn
  replace hsz := hn.size
  replace hdf := hn.defers.trans hdf
  replace s3 := hn.keep _ _ rfl s3
  replace s7 := hn.keep _ _ rfl s7
  replace s8 := hn.keep _ _ rfl s8
  replace s9 := hn.keep _ _ rfl s9
  replace s10 := hn.keep _ _ rfl s10
  clear s162
  have s163 := hn.new
  clear hn
  refine n_pure (v := Value.slice (some ⟨b7, o7, none⟩) 2 cap7) (d := 164) (y_move (wanted_some rfl (by kernel_rfl) s163) rfl s7.eval) hsz rfl rfl ?_
  intro A82 hn
  replace hsz := hn.size
  replace hdf := hn.defers.trans hdf
  replace s3 := hn.keep _ _ rfl s3
  replace s7 := hn.keep _ _ rfl s7
  replace s8 := hn.keep _ _ rfl s8
  replace s9 := hn.keep _ _ rfl s9
  replace s10 := hn.keep _ _ rfl s10
  replace s163 := hn.keep _ _ rfl s163
  have s164 := hn.new
  clear hn
  refine n_pure (v := Value.pointer (some ⟨b7, o7 + 0 * 2, none⟩)) (d := 165) (y_index 0 (by omega) (wanted_some rfl (by kernel_rfl) s163) rfl s164.eval rfl) hsz rfl rfl ?_
  intro A83 hn
  replace hsz := hn.size
  replace hdf := hn.defers.trans hdf
  replace s3 := hn.keep _ _ rfl s3
  replace s7 := hn.keep _ _ rfl s7
  replace s8 := hn.keep _ _ rfl s8
  replace s9 := hn.keep _ _ rfl s9
  replace s10 := hn.keep _ _ rfl s10
  replace s163 := hn.keep _ _ rfl s163
  clear s164
  have s165 := hn.new
  clear hn
  refine n_pure (v := Value.pointer (some ⟨b7, o7 + 0 * 2, none⟩)) (d := 166) (y_field0 (wanted_some rfl (by kernel_rfl) s163) rfl s165.eval) hsz rfl rfl ?_
  intro A84 hn
  replace hsz := hn.size
  replace hdf := hn.defers.trans hdf
  replace s3 := hn.keep _ _ rfl s3
  replace s7 := hn.keep _ _ rfl s7
  replace s8 := hn.keep _ _ rfl s8
  replace s9 := hn.keep _ _ rfl s9
  replace s10 := hn.keep _ _ rfl s10
  replace s163 := hn.keep _ _ rfl s163
  clear s165
  have s166 := hn.new
  clear hn
  refine n_pure (v := Value.int IntKind.i64 0) (d := 167) (y_load_int (wanted_some rfl (by kernel_rfl) s163) rfl s166.eval (fun w hw => keep m70 hw)) hsz rfl rfl ?_
  intro A85 hn
  replace hsz := hn.size
  replace hdf := hn.defers.trans hdf
  replace s3 := hn.keep _ _ rfl s3
  replace s7 := hn.keep _ _ rfl s7
  replace s8 := hn.keep _ _ rfl s8
  replace s9 := hn.keep _ _ rfl s9
  replace s10 := hn.keep _ _ rfl s10
  replace s163 := hn.keep _ _ rfl s163
  clear s166
  have s167 := hn.new
  clear hn
  refine n_pure (v := Value.bool true) (d := 168) (y_eqlI (p := 0) (q := 0) (wanted_some rfl (by kernel_rfl) s163) rfl s167.eval rfl) hsz rfl rfl ?_
  intro A86 hn
  replace hsz := hn.size
  replace hdf := hn.defers.trans hdf
  replace s3 := hn.keep _ _ rfl s3
  replace s7 := hn.keep _ _ rfl s7
  replace s8 := hn.keep _ _ rfl s8
  replace s9 := hn.keep _ _ rfl s9
  replace s10 := hn.keep _ _ rfl s10
  replace s163 := hn.keep _ _ rfl s163
  clear s167
  have s168 := hn.new
  clear hn
  refine n_pure (v := Value.bool true) (d := 169) (y_pickT (wanted_none rfl) rfl s163.eval s168.eval) hsz rfl rfl ?_
  intro A87 hn
  replace hsz := hn.size
  replace hdf := hn.defers.trans hdf
  replace s3 := hn.keep _ _ rfl s3
  replace s7 := hn.keep _ _ rfl s7
  replace s8 := hn.keep _ _ rfl s8
  replace s9 := hn.keep _ _ rfl s9
  replace s10 := hn.keep _ _ rfl s10
  clear s163 s168
  have s169 := hn.new
  clear hn
  refine n_pure (v := Value.bool true) (d := 170) (y_move (wanted_none rfl) rfl s169.eval) hsz rfl rfl ?_
  intro A88 hn
  replace hsz := hn.size
  replace hdf := hn.defers.trans hdf
  replace s3 := hn.keep _ _ rfl s3
  replace s7 := hn.keep _ _ rfl s7
  replace s8 := hn.keep _ _ rfl s8
  replace s9 := hn.keep _ _ rfl s9
  replace s10 := hn.keep _ _ rfl s10
  clear s169
  have s170 := hn.new
  clear hn
  refine n_pure (v := Value.slice (some ⟨b7, o7, none⟩) 2 cap7) (d := 171) (y_move (wanted_some rfl (by kernel_rfl) s170) rfl s7.eval) hsz rfl rfl ?_
  intro A89 hn
  replace hsz := hn.size
  replace hdf := hn.defers.trans hdf
  replace s3 := hn.keep _ _ rfl s3
  replace s8 := hn.keep _ _ rfl s8
  replace s9 := hn.keep _ _ rfl s9
  replace s10 := hn.keep _ _ rfl s10
  replace s170 := hn.keep _ _ rfl s170
  clear s7
  have s171 := hn.new
  clear hn
  refine n_pure (v := Value.pointer (some ⟨b7, o7 + 1 * 2, none⟩)) (d := 172) (y_index 1 (by omega) (wanted_some rfl (by kernel_rfl) s170) rfl s171.eval rfl) hsz rfl rfl ?_
  intro A90 hn
  replace hsz := hn.size
  replace hdf := hn.defers.trans hdf
  replace s3 := hn.keep _ _ rfl s3
  replace s8 := hn.keep _ _ rfl s8
  replace s9 := hn.keep _ _ rfl s9
  replace s10 := hn.keep _ _ rfl s10
  replace s170 := hn.keep _ _ rfl s170
  clear s171
  have s172 := hn.new
  clear hn
  refine n_pure (v := Value.pointer (some ⟨b7, o7 + 1 * 2, none⟩)) (d := 173) (y_field0 (wanted_some rfl (by kernel_rfl) s170) rfl s172.eval) hsz rfl rfl ?_
  intro A91 hn
  replace hsz := hn.size
  replace hdf := hn.defers.trans hdf
  replace s3 := hn.keep _ _ rfl s3
  replace s8 := hn.keep _ _ rfl s8
  replace s9 := hn.keep _ _ rfl s9
  replace s10 := hn.keep _ _ rfl s10
  replace s170 := hn.keep _ _ rfl s170
  clear s172
  have s173 := hn.new
  clear hn
  refine n_pure (v := Value.int IntKind.i64 2) (d := 174) (y_load_int (wanted_some rfl (by kernel_rfl) s170) rfl s173.eval (fun w hw => keep m71 hw)) hsz rfl rfl ?_
  intro A92 hn
  replace hsz := hn.size
  replace hdf := hn.defers.trans hdf
  replace s3 := hn.keep _ _ rfl s3
  replace s8 := hn.keep _ _ rfl s8
  replace s9 := hn.keep _ _ rfl s9
  replace s10 := hn.keep _ _ rfl s10
  replace s170 := hn.keep _ _ rfl s170
  clear s173
  have s174 := hn.new
  clear hn
  refine n_pure (v := Value.bool true) (d := 175) (y_eqlI (p := 2) (q := 2) (wanted_some rfl (by kernel_rfl) s170) rfl s174.eval rfl) hsz rfl rfl ?_
  intro A93 hn
  replace hsz := hn.size
  replace hdf := hn.defers.trans hdf
  replace s3 := hn.keep _ _ rfl s3
  replace s8 := hn.keep _ _ rfl s8
  replace s9 := hn.keep _ _ rfl s9
  replace s10 := hn.keep _ _ rfl s10
  replace s170 := hn.keep _ _ rfl s170
  clear s174
  have s175 := hn.new
  clear hn
  refine n_pure (v := Value.bool true) (d := 176) (y_pickT (wanted_none rfl) rfl s170.eval s175.eval) hsz rfl rfl ?_
  intro A94 hn
  replace hsz := hn.size
  replace hdf := hn.defers.trans hdf
  replace s3 := hn.keep _ _ rfl s3
  replace s8 := hn.keep _ _ rfl s8
  replace s9 := hn.keep _ _ rfl s9
  replace s10 := hn.keep _ _ rfl s10
  clear s170 s175
  have s176 := hn.new
  clear hn
  refine n_pure (v := Value.bool true) (d := 177) (y_move (wanted_none rfl) rfl s176.eval) hsz rfl rfl ?_
  intro A95 hn
  replace hsz := hn.size
  replace hdf := hn.defers.trans hdf
  replace s3 := hn.keep _ _ rfl s3
  replace s8 := hn.keep _ _ rfl s8
  replace s9 := hn.keep _ _ rfl s9
  replace s10 := hn.keep _ _ rfl s10
  clear s176
  have s177 := hn.new
  clear hn
  refine n_pure (v := Value.bool true) (d := 178) (y_move (wanted_some rfl (by kernel_rfl) s177) rfl s10.eval) hsz rfl rfl ?_
  intro A96 hn
  replace hsz := hn.size
  replace hdf := hn.defers.trans hdf
  replace s3 := hn.keep _ _ rfl s3
  replace s8 := hn.keep _ _ rfl s8
  replace s9 := hn.keep _ _ rfl s9
  replace s177 := hn.keep _ _ rfl s177
  clear s10
  have s178 := hn.new
  clear hn
  refine n_pure (v := Value.bool true) (d := 179) (y_pickT (wanted_none rfl) rfl s177.eval s178.eval) hsz rfl rfl ?_
  intro A97 hn
  replace hsz := hn.size
  replace hdf := hn.defers.trans hdf
  replace s3 := hn.keep _ _ rfl s3
  replace s8 := hn.keep _ _ rfl s8
  replace s9 := hn.keep _ _ rfl s9
  clear s177 s178
  have s179 := hn.new
  clear hn
  refine n_pure (v := Value.bool true) (d := 180) (y_move (wanted_none rfl) rfl s179.eval) hsz rfl rfl ?_
  intro A98 hn
  replace hsz := hn.size
  replace hdf := hn.defers.trans hdf
  replace s3 := hn.keep _ _ rfl s3
  replace s8 := hn.keep _ _ rfl s8
  replace s9 := hn.keep _ _ rfl s9
  clear s179
  have s180 := hn.new
  clear hn
  refine n_pure (v := Value.slice (a9) 3 cap9) (d := 181) (y_move (wanted_some rfl (by kernel_rfl) s180) rfl s9.eval) hsz rfl rfl ?_
  intro A99 hn
  replace hsz := hn.size
  replace hdf := hn.defers.trans hdf
  replace s3 := hn.keep _ _ rfl s3
  replace s8 := hn.keep _ _ rfl s8
  replace s180 := hn.keep _ _ rfl s180
  clear s9
  have s181 := hn.new
  clear hn
  refine n_call (f := 49) (args := #[Value.string { data := #[102] }, Value.int IntKind.i64 2]) (R := fun v w' => v = Value.agg #[Value.int IntKind.i64 3, Value.string { data := #[102] }, Value.int IntKind.i64 2] ∧ Below V18.heap.size V18 w') (d := 182) (by kernel_rfl) (wanted_some rfl (by kernel_rfl) s180) (run_call rfl rfl (enters_of Try.func49 (by kernel_rfl) rfl) (by simp only [List.map_toArray, List.map_cons, List.map_nil, ev_const])) ((f2_any ⟨#[102]⟩ 2 _).mono fun e w' ⟨he, hb⟩ => ⟨_, he, rfl, hb⟩) hsz rfl rfl ?_
  rintro _ V19 ⟨rfl, hq⟩
  refine ⟨hS.then hq, fun A100 hn => ?_⟩
  replace hS := hS.then hq
  replace l90 := l90.below hq
  replace l109 := l109.below hq
  replace l128 := l128.below hq
  replace l144 := l144.below hq
  replace l160 := l160.below hq
  clear hq
  replace hsz := hn.size
  replace hdf := hn.defers.trans hdf
  replace s3 := hn.keep _ _ rfl s3
  replace s8 := hn.keep _ _ rfl s8
  replace s180 := hn.keep _ _ rfl s180
  replace s181 := hn.keep _ _ rfl s181
  have s182 := hn.new
  clear hn
  refine n_call (f := 31) (args := #[Value.int IntKind.i64 1]) (R := fun v w' => v = Value.agg #[Value.int IntKind.i64 1, Value.string { data := #[] }, Value.int IntKind.i64 1] ∧ Below V19.heap.size V19 w') (d := 183) (by kernel_rfl) (wanted_some rfl (by kernel_rfl) s180) (run_call rfl rfl (enters_of Try.func31 (by kernel_rfl) rfl) (by simp only [List.map_toArray, List.map_cons, List.map_nil, ev_const])) ((v2_any 1 _).mono fun e w' ⟨he, hb⟩ => ⟨_, he, rfl, hb⟩) hsz rfl rfl ?_
  rintro _ V20 ⟨rfl, hq⟩
  refine ⟨hS.then hq, fun A101 hn => ?_⟩
  replace hS := hS.then hq
  replace l90 := l90.below hq
  replace l109 := l109.below hq
  replace l128 := l128.below hq
  replace l144 := l144.below hq
  replace l160 := l160.below hq
  clear hq
  replace hsz := hn.size
  replace hdf := hn.defers.trans hdf
  replace s3 := hn.keep _ _ rfl s3
  replace s8 := hn.keep _ _ rfl s8
  replace s180 := hn.keep _ _ rfl s180
  replace s181 := hn.keep _ _ rfl s181
  replace s182 := hn.keep _ _ rfl s182
  have s183 := hn.new
  clear hn
  refine n_call (f := 31) (args := #[Value.int IntKind.i64 0]) (R := fun v w' => v = Value.agg #[Value.int IntKind.i64 1, Value.string { data := #[] }, Value.int IntKind.i64 0] ∧ Below V20.heap.size V20 w') (d := 184) (by kernel_rfl) (wanted_some rfl (by kernel_rfl) s180) (run_call rfl rfl (enters_of Try.func31 (by kernel_rfl) rfl) (by simp only [List.map_toArray, List.map_cons, List.map_nil, ev_const])) ((v2_any 0 _).mono fun e w' ⟨he, hb⟩ => ⟨_, he, rfl, hb⟩) hsz rfl rfl ?_
  rintro _ V21 ⟨rfl, hq⟩
  refine ⟨hS.then hq, fun A102 hn => ?_⟩
  replace hS := hS.then hq
  replace l90 := l90.below hq
  replace l109 := l109.below hq
  replace l128 := l128.below hq
  replace l144 := l144.below hq
  replace l160 := l160.below hq
  clear hq
  replace hsz := hn.size
  replace hdf := hn.defers.trans hdf
  replace s3 := hn.keep _ _ rfl s3
  replace s8 := hn.keep _ _ rfl s8
  replace s180 := hn.keep _ _ rfl s180
  replace s181 := hn.keep _ _ rfl s181
  replace s182 := hn.keep _ _ rfl s182
  replace s183 := hn.keep _ _ rfl s183
  have s184 := hn.new
  clear hn
  refine n_alloc (v := Value.slice (some ⟨V21.heap.size, 0, none⟩) 3 3) (w' := (V21.alloc (.cells #[Value.int IntKind.i64 3, Value.string { data := #[102] }, Value.int IntKind.i64 2, Value.int IntKind.i64 1, Value.string { data := #[] }, Value.int IntKind.i64 1, Value.int IntKind.i64 1, Value.string { data := #[] }, Value.int IntKind.i64 0] 24))) (d := 185) (by kernel_rfl) (wanted_some rfl (by kernel_rfl) s180) (run_slice rfl (by simp only [List.map_toArray, List.map_cons, List.map_nil, s182.eval, s183.eval, s184.eval]) (sl_c3 _ 3 2 1 1 1 0 ⟨#[102]⟩ ⟨#[]⟩ ⟨#[]⟩)) (hS.new _) hsz rfl rfl ?_
  intro A103 hn
  have l185 : Row (V21.alloc (.cells #[Value.int IntKind.i64 3, Value.string { data := #[102] }, Value.int IntKind.i64 2, Value.int IntKind.i64 1, Value.string { data := #[] }, Value.int IntKind.i64 1, Value.int IntKind.i64 1, Value.string { data := #[] }, Value.int IntKind.i64 0] 24)) (some ⟨V21.heap.size, 0, none⟩) 3 [fC ⟨#[102]⟩ 2, varC 1, varC 0] := cells_new V21 [fC ⟨#[102]⟩ 2, varC 1, varC 0] (fits_cons (fC_fit (by decide) (by omega) (by omega)) (fits_cons (varC_fit (by omega) (by omega)) (fits_cons (varC_fit (by omega) (by omega)) (fits_nil)))) (by decide)
  replace hS := hS.new (.cells #[Value.int IntKind.i64 3, Value.string { data := #[102] }, Value.int IntKind.i64 2, Value.int IntKind.i64 1, Value.string { data := #[] }, Value.int IntKind.i64 1, Value.int IntKind.i64 1, Value.string { data := #[] }, Value.int IntKind.i64 0] 24)
  replace l90 := l90.below ((Below.refl _ _).new (.cells #[Value.int IntKind.i64 3, Value.string { data := #[102] }, Value.int IntKind.i64 2, Value.int IntKind.i64 1, Value.string { data := #[] }, Value.int IntKind.i64 1, Value.int IntKind.i64 1, Value.string { data := #[] }, Value.int IntKind.i64 0] 24))
  replace l109 := l109.below ((Below.refl _ _).new (.cells #[Value.int IntKind.i64 3, Value.string { data := #[102] }, Value.int IntKind.i64 2, Value.int IntKind.i64 1, Value.string { data := #[] }, Value.int IntKind.i64 1, Value.int IntKind.i64 1, Value.string { data := #[] }, Value.int IntKind.i64 0] 24))
  replace l128 := l128.below ((Below.refl _ _).new (.cells #[Value.int IntKind.i64 3, Value.string { data := #[102] }, Value.int IntKind.i64 2, Value.int IntKind.i64 1, Value.string { data := #[] }, Value.int IntKind.i64 1, Value.int IntKind.i64 1, Value.string { data := #[] }, Value.int IntKind.i64 0] 24))
  replace l144 := l144.below ((Below.refl _ _).new (.cells #[Value.int IntKind.i64 3, Value.string { data := #[102] }, Value.int IntKind.i64 2, Value.int IntKind.i64 1, Value.string { data := #[] }, Value.int IntKind.i64 1, Value.int IntKind.i64 1, Value.string { data := #[] }, Value.int IntKind.i64 0] 24))
  replace l160 := l160.below ((Below.refl _ _).new (.cells #[Value.int IntKind.i64 3, Value.string { data := #[102] }, Value.int IntKind.i64 2, Value.int IntKind.i64 1, Value.string { data := #[] }, Value.int IntKind.i64 1, Value.int IntKind.i64 1, Value.string { data := #[] }, Value.int IntKind.i64 0] 24))
  obtain ⟨V22, hW⟩ : ∃ W, (V21.alloc (.cells #[Value.int IntKind.i64 3, Value.string { data := #[102] }, Value.int IntKind.i64 2, Value.int IntKind.i64 1, Value.string { data := #[] }, Value.int IntKind.i64 1, Value.int IntKind.i64 1, Value.string { data := #[] }, Value.int IntKind.i64 0] 24)) = W := ⟨_, rfl⟩
  rw [hW] at hS l90 l109 l128 l144 l160 l185 ⊢
  clear hW
  replace hsz := hn.size
  replace hdf := hn.defers.trans hdf
  replace s3 := hn.keep _ _ rfl s3
  replace s8 := hn.keep _ _ rfl s8
  replace s180 := hn.keep _ _ rfl s180
  replace s181 := hn.keep _ _ rfl s181
  clear s182 s183 s184
  have s185 := hn.new
  clear hn
  refine n_call (f := 25) (args := #[Value.slice (a9) 3 cap9, Value.slice (some ⟨V21.heap.size, 0, none⟩) 3 3]) (R := fun v w' => v = Value.bool true ∧ Below V22.heap.size V22 w') (d := 186) (by kernel_rfl) (wanted_some rfl (by kernel_rfl) s180) (run_call rfl rfl (enters_of Try.func25 (by kernel_rfl) rfl) (by simp only [List.map_toArray, List.map_cons, List.map_nil, ev_const, s181.eval, s185.eval])) ((refsame1_lit (xs := [fC ⟨#[102]⟩ 2, varC 1, varC 0]) (ys := [fC ⟨#[102]⟩ 2, varC 1, varC 0]) rfl (r_t9.below hS) rfl l185 (decide_eq_true rfl)).mono fun e w' ⟨he, hb⟩ => ⟨_, he, rfl, hb⟩) hsz rfl rfl ?_
  rintro _ V23 ⟨rfl, hq⟩
  refine ⟨hS.then hq, fun A104 hn => ?_⟩
  replace hS := hS.then hq
  replace l90 := l90.below hq
  replace l109 := l109.below hq
  replace l128 := l128.below hq
  replace l144 := l144.below hq
  replace l160 := l160.below hq
  replace l185 := l185.below hq
  clear hq
  replace hsz := hn.size
  replace hdf := hn.defers.trans hdf
  replace s3 := hn.keep _ _ rfl s3
  replace s8 := hn.keep _ _ rfl s8
  replace s180 := hn.keep _ _ rfl s180
  clear s181 s185
  have s186 := hn.new
  clear hn
  refine n_pure (v := Value.bool true) (d := 187) (y_pickT (wanted_none rfl) rfl s180.eval s186.eval) hsz rfl rfl ?_
  intro A105 hn
  replace hsz := hn.size
  replace hdf := hn.defers.trans hdf
  replace s3 := hn.keep _ _ rfl s3
  replace s8 := hn.keep _ _ rfl s8
  clear s186 s180
  have s187 := hn.new
  clear hn
  refine n_pure (v := Value.bool true) (d := 188) (y_move (wanted_none rfl) rfl s187.eval) hsz rfl rfl ?_
  intro A106 hn
  replace hsz := hn.size
  replace hdf := hn.defers.trans hdf
  replace s3 := hn.keep _ _ rfl s3
  replace s8 := hn.keep _ _ rfl s8
  clear s187
  have s188 := hn.new
  clear hn
  refine n_pure (v := Value.slice (some ⟨W25.heap.size + 1, 0, none⟩) 2 2) (d := 189) (y_move (wanted_some rfl (by kernel_rfl) s188) rfl s8.eval) hsz rfl rfl ?_
  intro A107 hn
  replace hsz := hn.size
  replace hdf := hn.defers.trans hdf
  replace s3 := hn.keep _ _ rfl s3
  replace s8 := hn.keep _ _ rfl s8
  replace s188 := hn.keep _ _ rfl s188
  have s189 := hn.new
  clear hn
  refine n_call (f := 18) (args := #[Value.slice (some ⟨W25.heap.size + 1, 0, none⟩) 2 2]) (R := fun v w' => v = Value.bool true ∧ Below V23.heap.size V23 w') (d := 190) (by kernel_rfl) (wanted_some rfl (by kernel_rfl) s188) (run_call rfl rfl (enters_of Try.func18 (by kernel_rfl) rfl) (by simp only [List.map_toArray, List.map_cons, List.map_nil, ev_const, s189.eval])) ((rights_lit (xs := [(⟨0, [varC 1]⟩ : Bnd), (⟨1, [varC 0]⟩ : Bnd)]) rfl (r_t8.below hS) (b := true) (by decide +kernel)).mono fun e w' ⟨he, hb⟩ => ⟨_, he, rfl, hb⟩) hsz rfl rfl ?_
  rintro _ V24 ⟨rfl, hq⟩
  refine ⟨hS.then hq, fun A108 hn => ?_⟩
  replace hS := hS.then hq
  replace l90 := l90.below hq
  replace l109 := l109.below hq
  replace l128 := l128.below hq
  replace l144 := l144.below hq
  replace l160 := l160.below hq
  replace l185 := l185.below hq
  clear hq
  replace hsz := hn.size
  replace hdf := hn.defers.trans hdf
  replace s3 := hn.keep _ _ rfl s3
  replace s8 := hn.keep _ _ rfl s8
  replace s188 := hn.keep _ _ rfl s188
  clear s189
  have s190 := hn.new
  clear hn
  refine n_pure (v := Value.bool true) (d := 191) (y_pickT (wanted_none rfl) rfl s188.eval s190.eval) hsz rfl rfl ?_
  intro A109 hn
  replace hsz := hn.size
  replace hdf := hn.defers.trans hdf
  replace s3 := hn.keep _ _ rfl s3
  replace s8 := hn.keep _ _ rfl s8
  clear s188 s190
  have s191 := hn.new
  clear hn
  refine n_pure (v := Value.bool true) (d := 192) (y_move (wanted_none rfl) rfl s191.eval) hsz rfl rfl ?_
  intro A110 hn
  replace hsz := hn.size
  replace hdf := hn.defers.trans hdf
  replace s3 := hn.keep _ _ rfl s3
  replace s8 := hn.keep _ _ rfl s8
  clear s191
  have s192 := hn.new
  clear hn
  refine n_pure (v := Value.slice (some ⟨W25.heap.size + 1, 0, none⟩) 2 2) (d := 193) (y_move (wanted_some rfl (by kernel_rfl) s192) rfl s8.eval) hsz rfl rfl ?_
  intro A111 hn
  replace hsz := hn.size
  replace hdf := hn.defers.trans hdf
  replace s3 := hn.keep _ _ rfl s3
  replace s8 := hn.keep _ _ rfl s8
  replace s192 := hn.keep _ _ rfl s192
  have s193 := hn.new
  clear hn
  refine n_call (f := 29) (args := #[Value.slice (some ⟨W25.heap.size + 1, 0, none⟩) 2 2]) (R := fun v w' => v = Value.bool false ∧ Below V24.heap.size V24 w') (d := 194) (by kernel_rfl) (wanted_some rfl (by kernel_rfl) s192) (run_call rfl rfl (enters_of Try.func29 (by kernel_rfl) rfl) (by simp only [List.map_toArray, List.map_cons, List.map_nil, ev_const, s193.eval])) ((idem_lit (xs := [(⟨0, [varC 1]⟩ : Bnd), (⟨1, [varC 0]⟩ : Bnd)]) rfl (r_t8.below hS) (by simp) (by simp) (b := false) (by decide +kernel)).mono fun e w' ⟨he, hb⟩ => ⟨_, he, rfl, hb⟩) hsz rfl rfl ?_
  rintro _ V25 ⟨rfl, hq⟩
  refine ⟨hS.then hq, fun A112 hn => ?_⟩
  replace hS := hS.then hq
  replace l90 := l90.below hq
  replace l109 := l109.below hq
  replace l128 := l128.below hq
  replace l144 := l144.below hq
  replace l160 := l160.below hq
  replace l185 := l185.below hq
  clear hq
  replace hsz := hn.size
  replace hdf := hn.defers.trans hdf
  replace s3 := hn.keep _ _ rfl s3
  replace s8 := hn.keep _ _ rfl s8
  replace s192 := hn.keep _ _ rfl s192
  clear s193
  have s194 := hn.new
  clear hn
  refine n_pure (v := Value.bool true) (d := 195) (y_not (b := false) (wanted_some rfl (by kernel_rfl) s192) rfl s194.eval) hsz rfl rfl ?_
  intro A113 hn
  replace hsz := hn.size
  replace hdf := hn.defers.trans hdf
  replace s3 := hn.keep _ _ rfl s3
  replace s8 := hn.keep _ _ rfl s8
  replace s192 := hn.keep _ _ rfl s192
  clear s194
  have s195 := hn.new
  clear hn
  refine n_pure (v := Value.bool true) (d := 196) (y_pickT (wanted_none rfl) rfl s192.eval s195.eval) hsz rfl rfl ?_
  intro A114 hn
  replace hsz := hn.size
  replace hdf := hn.defers.trans hdf
  replace s3 := hn.keep _ _ rfl s3
  replace s8 := hn.keep _ _ rfl s8
  clear s195 s192
  have s196 := hn.new
  clear hn
  refine n_pure (v := Value.bool true) (d := 197) (y_move (wanted_none rfl) rfl s196.eval) hsz rfl rfl ?_
  intro A115 hn
  replace hsz := hn.size
  replace hdf := hn.defers.trans hdf
  replace s3 := hn.keep _ _ rfl s3
  replace s8 := hn.keep _ _ rfl s8
  clear s196
  have s197 := hn.new
  clear hn
  refine n_pure (v := Value.slice (some ⟨b3, o3, none⟩) 1 cap3) (d := 198) (y_move (wanted_some rfl (by kernel_rfl) s197) rfl s3.eval) hsz rfl rfl ?_
  intro A116 hn
  replace hsz := hn.size
  replace hdf := hn.defers.trans hdf
  replace s8 := hn.keep _ _ rfl s8
  replace s197 := hn.keep _ _ rfl s197
  clear s3
  have s198 := hn.new
  clear hn
  refine n_call (f := 29) (args := #[Value.slice (some ⟨b3, o3, none⟩) 1 cap3]) (R := fun v w' => v = Value.bool true ∧ Below V25.heap.size V25 w') (d := 199) (by kernel_rfl) (wanted_some rfl (by kernel_rfl) s197) (run_call rfl rfl (enters_of Try.func29 (by kernel_rfl) rfl) (by simp only [List.map_toArray, List.map_cons, List.map_nil, ev_const, s198.eval])) ((idem_lit (xs := [(⟨1, [varC 0]⟩ : Bnd)]) rfl (r_t3.below hS) (by simp) (by simp) (b := true) (by decide +kernel)).mono fun e w' ⟨he, hb⟩ => ⟨_, he, rfl, hb⟩) hsz rfl rfl ?_
  rintro _ V26 ⟨rfl, hq⟩
  refine ⟨hS.then hq, fun A117 hn => ?_⟩
  replace hS := hS.then hq
  replace l90 := l90.below hq
  replace l109 := l109.below hq
  replace l128 := l128.below hq
  replace l144 := l144.below hq
  replace l160 := l160.below hq
  replace l185 := l185.below hq
  clear hq
  replace hsz := hn.size
  replace hdf := hn.defers.trans hdf
  replace s8 := hn.keep _ _ rfl s8
  replace s197 := hn.keep _ _ rfl s197
  clear s198
  have s199 := hn.new
  clear hn
  refine n_pure (v := Value.bool true) (d := 200) (y_pickT (wanted_none rfl) rfl s197.eval s199.eval) hsz rfl rfl ?_
  intro A118 hn
  replace hsz := hn.size
  replace hdf := hn.defers.trans hdf
  replace s8 := hn.keep _ _ rfl s8
  clear s197 s199
  have s200 := hn.new
  clear hn
  refine n_pure (v := Value.bool true) (d := 201) (y_move (wanted_none rfl) rfl s200.eval) hsz rfl rfl ?_
  intro A119 hn
  replace hsz := hn.size
  replace hdf := hn.defers.trans hdf
  replace s8 := hn.keep _ _ rfl s8
  clear s200
  have s201 := hn.new
  clear hn
  refine n_call (f := 31) (args := #[Value.int IntKind.i64 3]) (R := fun v w' => v = Value.agg #[Value.int IntKind.i64 1, Value.string { data := #[] }, Value.int IntKind.i64 3] ∧ Below V26.heap.size V26 w') (d := 202) (by kernel_rfl) (wanted_some rfl (by kernel_rfl) s201) (run_call rfl rfl (enters_of Try.func31 (by kernel_rfl) rfl) (by simp only [List.map_toArray, List.map_cons, List.map_nil, ev_const])) ((v2_any 3 _).mono fun e w' ⟨he, hb⟩ => ⟨_, he, rfl, hb⟩) hsz rfl rfl ?_
  rintro _ V27 ⟨rfl, hq⟩
  refine ⟨hS.then hq, fun A120 hn => ?_⟩
  replace hS := hS.then hq
  replace l90 := l90.below hq
  replace l109 := l109.below hq
  replace l128 := l128.below hq
  replace l144 := l144.below hq
  replace l160 := l160.below hq
  replace l185 := l185.below hq
  clear hq
  replace hsz := hn.size
  replace hdf := hn.defers.trans hdf
  replace s8 := hn.keep _ _ rfl s8
  replace s201 := hn.keep _ _ rfl s201
  have s202 := hn.new
  clear hn
  refine n_alloc (v := Value.slice (some ⟨V27.heap.size, 0, none⟩) 1 1) (w' := (V27.alloc (.cells #[Value.int IntKind.i64 1, Value.string { data := #[] }, Value.int IntKind.i64 3] 24))) (d := 203) (by kernel_rfl) (wanted_some rfl (by kernel_rfl) s201) (run_slice rfl (by simp only [List.map_toArray, List.map_cons, List.map_nil, s202.eval]) (sl_c1 _ 1 3 ⟨#[]⟩)) (hS.new _) hsz rfl rfl ?_
  intro A121 hn
  have l203 : Row (V27.alloc (.cells #[Value.int IntKind.i64 1, Value.string { data := #[] }, Value.int IntKind.i64 3] 24)) (some ⟨V27.heap.size, 0, none⟩) 1 [varC 3] := cells_new V27 [varC 3] (fits_cons (varC_fit (by omega) (by omega)) (fits_nil)) (by decide)
  replace hS := hS.new (.cells #[Value.int IntKind.i64 1, Value.string { data := #[] }, Value.int IntKind.i64 3] 24)
  replace l90 := l90.below ((Below.refl _ _).new (.cells #[Value.int IntKind.i64 1, Value.string { data := #[] }, Value.int IntKind.i64 3] 24))
  replace l109 := l109.below ((Below.refl _ _).new (.cells #[Value.int IntKind.i64 1, Value.string { data := #[] }, Value.int IntKind.i64 3] 24))
  replace l128 := l128.below ((Below.refl _ _).new (.cells #[Value.int IntKind.i64 1, Value.string { data := #[] }, Value.int IntKind.i64 3] 24))
  replace l144 := l144.below ((Below.refl _ _).new (.cells #[Value.int IntKind.i64 1, Value.string { data := #[] }, Value.int IntKind.i64 3] 24))
  replace l160 := l160.below ((Below.refl _ _).new (.cells #[Value.int IntKind.i64 1, Value.string { data := #[] }, Value.int IntKind.i64 3] 24))
  replace l185 := l185.below ((Below.refl _ _).new (.cells #[Value.int IntKind.i64 1, Value.string { data := #[] }, Value.int IntKind.i64 3] 24))
  obtain ⟨V28, hW⟩ : ∃ W, (V27.alloc (.cells #[Value.int IntKind.i64 1, Value.string { data := #[] }, Value.int IntKind.i64 3] 24)) = W := ⟨_, rfl⟩
  rw [hW] at hS l90 l109 l128 l144 l160 l185 l203 ⊢
  clear hW
  replace hsz := hn.size
  replace hdf := hn.defers.trans hdf
  replace s8 := hn.keep _ _ rfl s8
  replace s201 := hn.keep _ _ rfl s201
  clear s202
  have s203 := hn.new
  clear hn
  refine n_pure (v := Value.agg #[Value.int IntKind.i64 3, Value.slice (some ⟨V27.heap.size, 0, none⟩) 1 1]) (d := 204) (y_buildB (wanted_some rfl (by kernel_rfl) s201) rfl rfl s203.eval) hsz rfl rfl ?_
  intro A122 hn
  replace hsz := hn.size
  replace hdf := hn.defers.trans hdf
  replace s8 := hn.keep _ _ rfl s8
  replace s201 := hn.keep _ _ rfl s201
  clear s203
  have s204 := hn.new
  clear hn
  refine n_alloc (v := Value.slice (some ⟨V28.heap.size, 0, none⟩) 1 1) (w' := (V28.alloc (.cells #[Value.int IntKind.i64 3, Value.slice (some ⟨V27.heap.size, 0, none⟩) 1 1] 46))) (d := 205) (by kernel_rfl) (wanted_some rfl (by kernel_rfl) s201) (run_slice rfl (by simp only [List.map_toArray, List.map_cons, List.map_nil, s204.eval]) (sl_b1 _ 3 (some ⟨V27.heap.size, 0, none⟩) 1 1)) (hS.new _) hsz rfl rfl ?_
  intro A123 hn
  have l205 : Row (V28.alloc (.cells #[Value.int IntKind.i64 3, Value.slice (some ⟨V27.heap.size, 0, none⟩) 1 1] 46)) (some ⟨V28.heap.size, 0, none⟩) 1 [(⟨3, [varC 3]⟩ : Bnd)] := binds_new V28 #[Value.int IntKind.i64 3, Value.slice (some ⟨V27.heap.size, 0, none⟩) 1 1] [(⟨3, [varC 3]⟩ : Bnd)] (CRows.cons (bind_c l203 (by omega) (by omega)) (CRows.nil)) (by decide)
  replace hS := hS.new (.cells #[Value.int IntKind.i64 3, Value.slice (some ⟨V27.heap.size, 0, none⟩) 1 1] 46)
  replace l90 := l90.below ((Below.refl _ _).new (.cells #[Value.int IntKind.i64 3, Value.slice (some ⟨V27.heap.size, 0, none⟩) 1 1] 46))
  replace l109 := l109.below ((Below.refl _ _).new (.cells #[Value.int IntKind.i64 3, Value.slice (some ⟨V27.heap.size, 0, none⟩) 1 1] 46))
  replace l128 := l128.below ((Below.refl _ _).new (.cells #[Value.int IntKind.i64 3, Value.slice (some ⟨V27.heap.size, 0, none⟩) 1 1] 46))
  replace l144 := l144.below ((Below.refl _ _).new (.cells #[Value.int IntKind.i64 3, Value.slice (some ⟨V27.heap.size, 0, none⟩) 1 1] 46))
  replace l160 := l160.below ((Below.refl _ _).new (.cells #[Value.int IntKind.i64 3, Value.slice (some ⟨V27.heap.size, 0, none⟩) 1 1] 46))
  replace l185 := l185.below ((Below.refl _ _).new (.cells #[Value.int IntKind.i64 3, Value.slice (some ⟨V27.heap.size, 0, none⟩) 1 1] 46))
  replace l203 := l203.below ((Below.refl _ _).new (.cells #[Value.int IntKind.i64 3, Value.slice (some ⟨V27.heap.size, 0, none⟩) 1 1] 46))
  obtain ⟨V29, hW⟩ : ∃ W, (V28.alloc (.cells #[Value.int IntKind.i64 3, Value.slice (some ⟨V27.heap.size, 0, none⟩) 1 1] 46)) = W := ⟨_, rfl⟩
  rw [hW] at hS l90 l109 l128 l144 l160 l185 l203 l205 ⊢
  clear hW
  replace hsz := hn.size
  replace hdf := hn.defers.trans hdf
  replace s8 := hn.keep _ _ rfl s8
  replace s201 := hn.keep _ _ rfl s201
  clear s204
  have s205 := hn.new
  clear hn
  refine n_call (f := 18) (args := #[Value.slice (some ⟨V28.heap.size, 0, none⟩) 1 1]) (R := fun v w' => v = Value.bool false ∧ Below V29.heap.size V29 w') (d := 206) (by kernel_rfl) (wanted_some rfl (by kernel_rfl) s201) (run_call rfl rfl (enters_of Try.func18 (by kernel_rfl) rfl) (by simp only [List.map_toArray, List.map_cons, List.map_nil, ev_const, s205.eval])) ((rights_lit (xs := [(⟨3, [varC 3]⟩ : Bnd)]) rfl l205 (b := false) (by decide +kernel)).mono fun e w' ⟨he, hb⟩ => ⟨_, he, rfl, hb⟩) hsz rfl rfl ?_
  rintro _ V30 ⟨rfl, hq⟩
  refine ⟨hS.then hq, fun A124 hn => ?_⟩
  replace hS := hS.then hq
  replace l90 := l90.below hq
  replace l109 := l109.below hq
  replace l128 := l128.below hq
  replace l144 := l144.below hq
  replace l160 := l160.below hq
  replace l185 := l185.below hq
  replace l203 := l203.below hq
  replace l205 := l205.below hq
  clear hq
  replace hsz := hn.size
  replace hdf := hn.defers.trans hdf
  replace s8 := hn.keep _ _ rfl s8
  replace s201 := hn.keep _ _ rfl s201
  clear s205
  have s206 := hn.new
  clear hn
  refine n_pure (v := Value.bool true) (d := 207) (y_not (b := false) (wanted_some rfl (by kernel_rfl) s201) rfl s206.eval) hsz rfl rfl ?_
  intro A125 hn
  replace hsz := hn.size
  replace hdf := hn.defers.trans hdf
  replace s8 := hn.keep _ _ rfl s8
  replace s201 := hn.keep _ _ rfl s201
  clear s206
  have s207 := hn.new
  clear hn
  refine n_pure (v := Value.bool true) (d := 208) (y_pickT (wanted_none rfl) rfl s201.eval s207.eval) hsz rfl rfl ?_
  intro A126 hn
  replace hsz := hn.size
  replace hdf := hn.defers.trans hdf
  replace s8 := hn.keep _ _ rfl s8
  clear s201 s207
  have s208 := hn.new
  clear hn
  refine n_pure (v := Value.bool true) (d := 209) (y_move (wanted_none rfl) rfl s208.eval) hsz rfl rfl ?_
  intro A127 hn
  replace hsz := hn.size
  replace hdf := hn.defers.trans hdf
  replace s8 := hn.keep _ _ rfl s8
  clear s208
  have s209 := hn.new
  clear hn
  refine n_pure (v := Value.slice (some ⟨W25.heap.size + 1, 0, none⟩) 2 2) (d := 210) (y_move (wanted_some rfl (by kernel_rfl) s209) rfl s8.eval) hsz rfl rfl ?_
  intro A128 hn
  replace hsz := hn.size
  replace hdf := hn.defers.trans hdf
  replace s8 := hn.keep _ _ rfl s8
  replace s209 := hn.keep _ _ rfl s209
  have s210 := hn.new
  clear hn
  refine n_pure (v := Value.pointer (some ⟨W25.heap.size + 1, 0 + 1 * 2, none⟩)) (d := 211) (y_index 1 (by omega) (wanted_some rfl (by kernel_rfl) s209) rfl s210.eval rfl) hsz rfl rfl ?_
  intro A129 hn
  replace hsz := hn.size
  replace hdf := hn.defers.trans hdf
  replace s8 := hn.keep _ _ rfl s8
  replace s209 := hn.keep _ _ rfl s209
  clear s210
  have s211 := hn.new
  clear hn
  refine n_pure (v := Value.agg #[Value.int IntKind.i64 1, Value.slice (p81) 1 q81]) (d := 212) (y_load_bind (wanted_some rfl (by kernel_rfl) s209) rfl s211.eval (fun w hw => keep m81 hw) (fun w hw => keep n81 hw)) hsz rfl rfl ?_
  intro A130 hn
  replace hsz := hn.size
  replace hdf := hn.defers.trans hdf
  replace s8 := hn.keep _ _ rfl s8
  replace s209 := hn.keep _ _ rfl s209
  clear s211
  have s212 := hn.new
  clear hn
  refine n_pure (v := Value.slice (some ⟨W25.heap.size + 1, 0, none⟩) 2 2) (d := 213) (y_move (wanted_some rfl (by kernel_rfl) s209) rfl s8.eval) hsz rfl rfl ?_
  intro A131 hn
  replace hsz := hn.size
  replace hdf := hn.defers.trans hdf
  replace s209 := hn.keep _ _ rfl s209
  replace s212 := hn.keep _ _ rfl s212
  clear s8
  have s213 := hn.new
  clear hn
  refine n_pure (v := Value.pointer (some ⟨W25.heap.size + 1, 0 + 0 * 2, none⟩)) (d := 214) (y_index 0 (by omega) (wanted_some rfl (by kernel_rfl) s209) rfl s213.eval rfl) hsz rfl rfl ?_
  intro A132 hn
  replace hsz := hn.size
  replace hdf := hn.defers.trans hdf
  replace s209 := hn.keep _ _ rfl s209
  replace s212 := hn.keep _ _ rfl s212
  clear s213
  have s214 := hn.new
  clear hn
  refine n_pure (v := Value.agg #[Value.int IntKind.i64 0, Value.slice (p80) 1 q80]) (d := 215) (y_load_bind (wanted_some rfl (by kernel_rfl) s209) rfl s214.eval (fun w hw => keep m80 hw) (fun w hw => keep n80 hw)) hsz rfl rfl ?_
  intro A133 hn
  replace hsz := hn.size
  replace hdf := hn.defers.trans hdf
  replace s209 := hn.keep _ _ rfl s209
  replace s212 := hn.keep _ _ rfl s212
  clear s214
  have s215 := hn.new
  clear hn
  refine n_alloc (v := Value.slice (some ⟨V30.heap.size, 0, none⟩) 2 2) (w' := (V30.alloc (.cells #[Value.int IntKind.i64 1, Value.slice (p81) 1 q81, Value.int IntKind.i64 0, Value.slice (p80) 1 q80] 46))) (d := 216) (by kernel_rfl) (wanted_some rfl (by kernel_rfl) s209) (run_slice rfl (by simp only [List.map_toArray, List.map_cons, List.map_nil, s212.eval, s215.eval]) (sl_b2 _ 1 0 (p81) (p80) 1 q81 1 q80)) (hS.new _) hsz rfl rfl ?_
  intro A134 hn
  have l216 : Row (V30.alloc (.cells #[Value.int IntKind.i64 1, Value.slice (p81) 1 q81, Value.int IntKind.i64 0, Value.slice (p80) 1 q80] 46)) (some ⟨V30.heap.size, 0, none⟩) 2 [(⟨1, [varC 0]⟩ : Bnd), (⟨0, [varC 1]⟩ : Bnd)] := binds_new V30 #[Value.int IntKind.i64 1, Value.slice (p81) 1 q81, Value.int IntKind.i64 0, Value.slice (p80) 1 q80] [(⟨1, [varC 0]⟩ : Bnd), (⟨0, [varC 1]⟩ : Bnd)] (CRows.cons (bind_c (w81.below hS) (by omega) (by omega)) (CRows.cons (bind_c (w80.below hS) (by omega) (by omega)) (CRows.nil))) (by decide)
  replace hS := hS.new (.cells #[Value.int IntKind.i64 1, Value.slice (p81) 1 q81, Value.int IntKind.i64 0, Value.slice (p80) 1 q80] 46)
  replace l90 := l90.below ((Below.refl _ _).new (.cells #[Value.int IntKind.i64 1, Value.slice (p81) 1 q81, Value.int IntKind.i64 0, Value.slice (p80) 1 q80] 46))
  replace l109 := l109.below ((Below.refl _ _).new (.cells #[Value.int IntKind.i64 1, Value.slice (p81) 1 q81, Value.int IntKind.i64 0, Value.slice (p80) 1 q80] 46))
  replace l128 := l128.below ((Below.refl _ _).new (.cells #[Value.int IntKind.i64 1, Value.slice (p81) 1 q81, Value.int IntKind.i64 0, Value.slice (p80) 1 q80] 46))
  replace l144 := l144.below ((Below.refl _ _).new (.cells #[Value.int IntKind.i64 1, Value.slice (p81) 1 q81, Value.int IntKind.i64 0, Value.slice (p80) 1 q80] 46))
  replace l160 := l160.below ((Below.refl _ _).new (.cells #[Value.int IntKind.i64 1, Value.slice (p81) 1 q81, Value.int IntKind.i64 0, Value.slice (p80) 1 q80] 46))
  replace l185 := l185.below ((Below.refl _ _).new (.cells #[Value.int IntKind.i64 1, Value.slice (p81) 1 q81, Value.int IntKind.i64 0, Value.slice (p80) 1 q80] 46))
  replace l203 := l203.below ((Below.refl _ _).new (.cells #[Value.int IntKind.i64 1, Value.slice (p81) 1 q81, Value.int IntKind.i64 0, Value.slice (p80) 1 q80] 46))
  replace l205 := l205.below ((Below.refl _ _).new (.cells #[Value.int IntKind.i64 1, Value.slice (p81) 1 q81, Value.int IntKind.i64 0, Value.slice (p80) 1 q80] 46))
  obtain ⟨V31, hW⟩ : ∃ W, (V30.alloc (.cells #[Value.int IntKind.i64 1, Value.slice (p81) 1 q81, Value.int IntKind.i64 0, Value.slice (p80) 1 q80] 46)) = W := ⟨_, rfl⟩
  rw [hW] at hS l90 l109 l128 l144 l160 l185 l203 l205 l216 ⊢
  clear hW
  replace hsz := hn.size
  replace hdf := hn.defers.trans hdf
  replace s209 := hn.keep _ _ rfl s209
  clear s212 s215
  have s216 := hn.new
  clear hn
  refine n_call (f := 18) (args := #[Value.slice (some ⟨V30.heap.size, 0, none⟩) 2 2]) (R := fun v w' => v = Value.bool false ∧ Below V31.heap.size V31 w') (d := 217) (by kernel_rfl) (wanted_some rfl (by kernel_rfl) s209) (run_call rfl rfl (enters_of Try.func18 (by kernel_rfl) rfl) (by simp only [List.map_toArray, List.map_cons, List.map_nil, ev_const, s216.eval])) ((rights_lit (xs := [(⟨1, [varC 0]⟩ : Bnd), (⟨0, [varC 1]⟩ : Bnd)]) rfl l216 (b := false) (by decide +kernel)).mono fun e w' ⟨he, hb⟩ => ⟨_, he, rfl, hb⟩) hsz rfl rfl ?_
  rintro _ V32 ⟨rfl, hq⟩
  refine ⟨hS.then hq, fun A135 hn => ?_⟩
  replace hS := hS.then hq
  replace l90 := l90.below hq
  replace l109 := l109.below hq
  replace l128 := l128.below hq
  replace l144 := l144.below hq
  replace l160 := l160.below hq
  replace l185 := l185.below hq
  replace l203 := l203.below hq
  replace l205 := l205.below hq
  replace l216 := l216.below hq
  clear hq
  replace hsz := hn.size
  replace hdf := hn.defers.trans hdf
  replace s209 := hn.keep _ _ rfl s209
  clear s216
  have s217 := hn.new
  clear hn
  refine n_pure (v := Value.bool true) (d := 218) (y_not (b := false) (wanted_some rfl (by kernel_rfl) s209) rfl s217.eval) hsz rfl rfl ?_
  intro A136 hn
  replace hsz := hn.size
  replace hdf := hn.defers.trans hdf
  replace s209 := hn.keep _ _ rfl s209
  clear s217
  have s218 := hn.new
  clear hn
  refine n_pure (v := Value.bool true) (d := 219) (y_pickT (wanted_none rfl) rfl s209.eval s218.eval) hsz rfl rfl ?_
  intro A137 hn
  replace hsz := hn.size
  replace hdf := hn.defers.trans hdf
  clear s209 s218
  have s219 := hn.new
  clear hn
  refine n_pure (v := Value.bool true) (d := 220) (y_move (wanted_none rfl) rfl s219.eval) hsz rfl rfl ?_
  intro A138 hn
  replace hsz := hn.size
  replace hdf := hn.defers.trans hdf
  clear s219
  have s220 := hn.new
  clear hn
  refine n_call (f := 18) (args := #[Value.slice (none) 0 0]) (R := fun v w' => v = Value.bool true ∧ Below V32.heap.size V32 w') (d := 221) (by kernel_rfl) (wanted_some rfl (by kernel_rfl) s220) (run_call rfl rfl (enters_of Try.func18 (by kernel_rfl) rfl) (by simp only [List.map_toArray, List.map_cons, List.map_nil, ev_const])) ((rights_lit (xs := []) rfl (Row.empty _ _ _ (by omega) (fun _ => rfl)) (b := true) rfl).mono fun e w' ⟨he, hb⟩ => ⟨_, he, rfl, hb⟩) hsz rfl rfl ?_
  rintro _ V33 ⟨rfl, hq⟩
  refine ⟨hS.then hq, fun A139 hn => ?_⟩
  replace hS := hS.then hq
  replace l90 := l90.below hq
  replace l109 := l109.below hq
  replace l128 := l128.below hq
  replace l144 := l144.below hq
  replace l160 := l160.below hq
  replace l185 := l185.below hq
  replace l203 := l203.below hq
  replace l205 := l205.below hq
  replace l216 := l216.below hq
  clear hq
  replace hsz := hn.size
  replace hdf := hn.defers.trans hdf
  replace s220 := hn.keep _ _ rfl s220
  have s221 := hn.new
  clear hn
  refine n_pure (v := Value.bool true) (d := 222) (y_pickT (wanted_none rfl) rfl s220.eval s221.eval) hsz rfl rfl ?_
  intro A140 hn
  replace hsz := hn.size
  replace hdf := hn.defers.trans hdf
  clear s220 s221
  have s222 := hn.new
  clear hn
  refine n_pure (v := Value.bool true) (d := 0) (y_assign (wanted_none rfl) rfl s222.eval) hsz rfl rfl ?_
  intro A141 hn
  replace hsz := hn.size
  replace hdf := hn.defers.trans hdf
  clear s222
  have s0 := hn.new
  clear hn
  refine NoPanic.normal (‹∀ (a : Act) (w : World), Code.wp Try.prog Code.ret _ a w → _› _ _ ?_)
  refine wp_ret (bodyPost_ret (P := Try.prog) (fn := Try.f16) (R := fun e w' => e = .returned (.bool true) ∧ Below w.heap.size w w') (v := .bool true) ?_ hdf ⟨rfl, hce.then hS⟩)
  rw [results_tmp rfl, show A141.tmps.getD 0 undef = .bool true from s0.eval]
end Go.Proofs.Ytfcebbfphjbkoaa
