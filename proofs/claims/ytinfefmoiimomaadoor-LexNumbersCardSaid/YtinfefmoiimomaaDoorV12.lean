import Derived.Test.YtinfefmoiimomaaDoorV11
namespace Go.Proofs.YtinfefmoiimomaaDoor
open Go.RowKit

theorem blank_C (w : World) : TellC w 31 #[] blankB := .plain w (fun _ _ => by kernel_rfl) blank_any
theorem noNl_C (w : World) : TellC w 34 #[] notNl := .plain w (fun _ _ => by kernel_rfl) noNl_any
theorem small_C (w : World) : TellC w 35 #[] smallB := .plain w (fun _ _ => by kernel_rfl) small_any
theorem great_C (w : World) : TellC w 38 #[] greatB := .plain w (fun _ _ => by kernel_rfl) great_any
theorem digit_C (w : World) : TellC w 39 #[] digitB := .plain w (fun _ _ => by kernel_rfl) digit_any
theorem letter_C (w : World) : TellC w 37 #[] letterB := .plain w (fun _ _ => by kernel_rfl) letter_any
theorem sign_C (w : World) : TellC w 44 #[] signB := .plain w (fun _ _ => by kernel_rfl) sign_any
theorem full_C (w : World) : FitC w 43 #[] fullP :=
  ⟨fun _ _ => by kernel_rfl, fun W _ s h1 h2 => (fullStop_any s W h1 h2).mono fun _ _ ⟨he, hb⟩ => ⟨he, by rw [← hb]; exact Below.refl _ _⟩⟩
theorem number_C (w : World) : TakeC w 40 #[] (headP digitB) numS :=
  ⟨fun _ _ => by kernel_rfl, fun W _ hL s _ h2 h3 => number_any s W h2 hL h3⟩
theorem quoted_C (w : World) (g : List UInt8 → Bool) : TakeC w 41 #[] g (fun l => quoS (l.drop 1)) :=
  ⟨fun _ _ => by kernel_rfl, fun W _ hL s h1 h2 _ => quoted_any s W h1 h2 hL⟩
/-- what stands in the table, told in one place -/
structure TblVals (w : World) (v : Fin 18 → Nat × Array Value) : Prop where
  fit : ∀ i e, tbl[i]? = some e → ∀ h : i < 9, FitC w (v ⟨i * 2, by omega⟩).1 (v ⟨i * 2, by omega⟩).2 e.1
  take : ∀ i e, tbl[i]? = some e → ∀ h : i < 9, TakeC w (v ⟨i * 2 + 1, by omega⟩).1 (v ⟨i * 2 + 1, by omega⟩).2 e.1 e.2

set_option maxHeartbeats 3200000 in
set_option maxRecDepth 100000 in
theorem beginnings_any (w : World) : Calls Tryd.prog 25 #[] w fun e w' => ∃ g, e = .returned (.slice (some ⟨g, 0, none⟩) 9 9) ∧ TblAt w' g ∧ Below w.heap.size w w' := by
  go_enter Tryd.func25, Tryd.ntmps25
  go_wp2_with fail
  refine (first_any _ _ _ _ (blank_C _)).mono ?_; rintro e w1 ⟨B1, rfl, F0, hb1⟩
  go_wp2_with fail
  refine (pass_any _ _ _ _ (blank_C _) (headP blankB)).mono ?_; rintro e w2 ⟨B2, rfl, T0, hb2⟩
  go_wp2_with fail
  refine (of_any _ _).mono ?_; rintro e w3 ⟨B3, rfl, P1, hb3⟩
  go_wp2_with fail
  refine (first_any _ _ _ _ P1).mono ?_; rintro e w4 ⟨B4, rfl, F1, hb4⟩
  go_wp2_with fail
  refine (pass_any _ _ _ _ (noNl_C _) (headP (fun c => [37].contains c))).mono ?_; rintro e w5 ⟨B5, rfl, T1, hb5⟩
  go_wp2_with fail
  refine (first_any _ _ _ _ (small_C _)).mono ?_; rintro e w6 ⟨B6, rfl, F2, hb6⟩
  go_wp2_with fail
  refine (runC_any 1 _ _ 12 _ (by decide) (letter_C _) (headP smallB)).mono ?_; rintro e w7 ⟨B7, B8, B9, rfl, T2, hb7⟩
  go_wp2_with fail
  refine (first_any _ _ _ _ (great_C _)).mono ?_; rintro e w8 ⟨B10, rfl, F3, hb8⟩
  go_wp2_with fail
  refine (runC_any 2 _ _ 20000 _ (by decide) (letter_C _) (headP greatB)).mono ?_; rintro e w9 ⟨B11, B12, B13, rfl, T3, hb9⟩
  go_wp2_with fail
  refine (first_any _ _ _ _ (digit_C _)).mono ?_; rintro e w10 ⟨B14, rfl, F4, hb10⟩
  go_wp2_with fail
  refine (of_any _ _).mono ?_; rintro e w11 ⟨B15, rfl, P5, hb11⟩
  go_wp2_with fail
  refine (first_any _ _ _ _ P5).mono ?_; rintro e w12 ⟨B16, rfl, F5, hb12⟩
  go_wp2_with fail
  refine (of_any _ _).mono ?_; rintro e w13 ⟨B17, rfl, P6, hb13⟩
  go_wp2_with fail
  refine (first_any _ _ _ _ P6).mono ?_; rintro e w14 ⟨B18, rfl, F6, hb14⟩
  go_wp2_with fail
  refine (one_any 5 _ (headP punctB)).mono ?_; rintro e w15 ⟨B19, rfl, T6, hb15⟩
  go_wp2_with fail
  refine (one_any 6 _ fullP).mono ?_; rintro e w16 ⟨B20, rfl, T7, hb16⟩
  go_wp2_with fail
  refine (first_any _ _ _ _ (sign_C _)).mono ?_; rintro e w17 ⟨B21, rfl, F8, hb17⟩
  go_wp2_with fail
  refine (runC_any 4 _ _ 12 _ (by decide) (sign_C _) (headP signB)).mono ?_; rintro e w18 ⟨B22, B23, B24, rfl, T8, hb18⟩
  go_wp2
  go_ret
  refine ⟨w18.heap.size, rfl, ?_, ?_⟩
  · have k18 := (Below.refl w18.heap.size w18).new (.cells #[.func (.func 53) #[] #[.pointer (some ⟨B1, 0, none⟩)], .func (.func 54) #[] #[.pointer (some ⟨B2, 0, none⟩)], .func (.func 53) #[] #[.pointer (some ⟨B4, 0, none⟩)], .func (.func 54) #[] #[.pointer (some ⟨B5, 0, none⟩)], .func (.func 53) #[] #[.pointer (some ⟨B6, 0, none⟩)], .func (.func 58) #[] #[.pointer (some ⟨B7, 0, none⟩), .pointer (some ⟨B8, 0, none⟩), .pointer (some ⟨B9, 0, none⟩)], .func (.func 53) #[] #[.pointer (some ⟨B10, 0, none⟩)], .func (.func 58) #[] #[.pointer (some ⟨B11, 0, none⟩), .pointer (some ⟨B12, 0, none⟩), .pointer (some ⟨B13, 0, none⟩)], .func (.func 53) #[] #[.pointer (some ⟨B14, 0, none⟩)], .func (.func 40) #[] #[], .func (.func 53) #[] #[.pointer (some ⟨B16, 0, none⟩)], .func (.func 41) #[] #[], .func (.func 53) #[] #[.pointer (some ⟨B18, 0, none⟩)], .func (.func 63) #[] #[.pointer (some ⟨B19, 0, none⟩)], .func (.func 43) #[] #[], .func (.func 63) #[] #[.pointer (some ⟨B20, 0, none⟩)], .func (.func 53) #[] #[.pointer (some ⟨B21, 0, none⟩)], .func (.func 58) #[] #[.pointer (some ⟨B22, 0, none⟩), .pointer (some ⟨B23, 0, none⟩), .pointer (some ⟨B24, 0, none⟩)]] 44)
    have k17 := hb18.then k18
    have k16 := hb17.then k17
    have k15 := hb16.then k16
    have k14 := hb15.then k15
    have k13 := hb14.then k14
    have k12 := hb13.then k13
    have k11 := hb12.then k12
    have k10 := hb11.then k11
    have k9 := hb10.then k10
    have k8 := hb9.then k9
    have k7 := hb8.then k8
    have k6 := hb7.then k7
    have k5 := hb6.then k6
    have k4 := hb5.then k5
    have k3 := hb4.then k4
    have k2 := hb3.then k3
    have k1 := hb2.then k2
    intro i e hi
    match i, hi with
    | 0, hi => obtain rfl := Option.some.inj hi; exact ⟨_, _, _, _, World.cell?_alloc_at _ _ _ 0 rfl, World.cell?_alloc_at _ _ _ 1 rfl, F0.later k1, T0.later k2⟩
    | 1, hi => obtain rfl := Option.some.inj hi; exact ⟨_, _, _, _, World.cell?_alloc_at _ _ _ 2 rfl, World.cell?_alloc_at _ _ _ 3 rfl, F1.later k4, T1.later k5⟩
    | 2, hi => obtain rfl := Option.some.inj hi; exact ⟨_, _, _, _, World.cell?_alloc_at _ _ _ 4 rfl, World.cell?_alloc_at _ _ _ 5 rfl, F2.later k6, T2.later k7⟩
    | 3, hi => obtain rfl := Option.some.inj hi; exact ⟨_, _, _, _, World.cell?_alloc_at _ _ _ 6 rfl, World.cell?_alloc_at _ _ _ 7 rfl, F3.later k8, T3.later k9⟩
    | 4, hi => obtain rfl := Option.some.inj hi; exact ⟨_, _, _, _, World.cell?_alloc_at _ _ _ 8 rfl, World.cell?_alloc_at _ _ _ 9 rfl, F4.later k10, number_C _⟩
    | 5, hi => obtain rfl := Option.some.inj hi; exact ⟨_, _, _, _, World.cell?_alloc_at _ _ _ 10 rfl, World.cell?_alloc_at _ _ _ 11 rfl, F5.later k12, quoted_C _ _⟩
    | 6, hi => obtain rfl := Option.some.inj hi; exact ⟨_, _, _, _, World.cell?_alloc_at _ _ _ 12 rfl, World.cell?_alloc_at _ _ _ 13 rfl, F6.later k14, T6.later k15⟩
    | 7, hi => obtain rfl := Option.some.inj hi; exact ⟨_, _, _, _, World.cell?_alloc_at _ _ _ 14 rfl, World.cell?_alloc_at _ _ _ 15 rfl, full_C _, T7.later k16⟩
    | 8, hi => obtain rfl := Option.some.inj hi; exact ⟨_, _, _, _, World.cell?_alloc_at _ _ _ 16 rfl, World.cell?_alloc_at _ _ _ 17 rfl, F8.later k17, T8.later k18⟩
    | i + 9, hi => simp [tbl] at hi
  · exact (((((((((((((((((hb1.then hb2).then hb3).then hb4).then hb5).then hb6).then hb7).then hb8).then hb9).then hb10).then hb11).then hb12).then hb13).then hb14).then hb15).then hb16).then hb17).then hb18).new _
end Go.Proofs.YtinfefmoiimomaaDoor
