import Derived.Test.YtkbgdpgmnigcbaaC17
namespace Go.Proofs.Ytkbgdpgmnigcbaa
open Go.RowKit

theorem later_of {w0 : World} {x : Later w0} {w' : World} (h : Below x.w'.heap.size x.w' w') : ∃ y : Later w0, w' = y.w' := ⟨⟨w', x.ok.then h⟩, rfl⟩
theorem later_first {w0 w' : World} (h : Below w0.heap.size w0 w') : ∃ y : Later w0, w' = y.w' := ⟨⟨w', h⟩, rfl⟩
theorem nilRow {α : Type} [Rep α] (w : World) : Row w none 0 ([] : List α) := Row.empty _ _ _ (by omega) (fun _ => rfl)

section lit
variable {n : Nat} {xs : List Cel} {a : Option Addr} {cap : Nat} {w : World}
theorem right_lit (hn : n = xs.length) (hr : Row w a cap xs) {b : Bool} (hb : rightB xs = b) :
    Calls Try.prog 14 #[.slice a n cap] w fun e w' => e = .returned (.bool b) ∧ Below w.heap.size w w' := by
  subst hn; subst hb; exact right_any a cap w xs hr
theorem parts_lit (hn : n = xs.length) (hr : Row w a cap xs) (hb : rightB xs = true) {m : Nat} {ps : List (List Cel)} (hp : partsL xs = ps) (hm : m = ps.length) :
    Calls Try.prog 26 #[.slice a n cap] w fun e w' => ∃ a' cap', e = .returned (.slice a' m cap') ∧ Row w' a' cap' ps ∧ Below w.heap.size w w' := by
  subst hn; subst hm; subst hp; exact parts_any a cap w xs hr hb
theorem number_lit (hn : n = xs.length) (hr : Row w a cap xs) (hl : xs.length ≤ 1000000) (h0 : 0 < xs.length) {m : Nat} {ps : List Cel} (hp : numL xs = ps) (hm : m = ps.length) :
    Calls Try.prog 30 #[.slice a n cap] w fun e w' => ∃ a' cap', e = .returned (.slice a' m cap') ∧ Row w' a' cap' ps ∧ Below w.heap.size w w' := by
  subst hn; subst hm; subst hp; exact number_any a cap w xs hr hl h0
theorem vars_lit (hn : n = xs.length) (hr : Row w a cap xs) (hl : xs.length ≤ 1000000) {m : Nat} {ps : List Int} (hp : varsL xs = ps) (hm : m = ps.length) :
    Calls Try.prog 21 #[.slice a n cap] w fun e w' => ∃ a' cap', e = .returned (.slice a' m cap') ∧ Row w' a' cap' ps ∧ Below w.heap.size w w' := by
  subst hn; subst hm; subst hp; exact vars_any a cap w xs hr hl
theorem shift_lit (d : Int) (hn : n = xs.length) (hr : Row w a cap xs) (hl : xs.length ≤ 1000000) (h0 : 0 < xs.length) {m : Nat} {ps : List Cel} (hp : shiftL xs d = ps) (hm : m = ps.length) :
    Calls Try.prog 28 #[.slice a n cap, .int .i64 d] w fun e w' => ∃ a' cap', e = .returned (.slice a' m cap') ∧ Row w' a' cap' ps ∧ Below w.heap.size w w' := by
  subst hn; subst hm; subst hp; exact shift_any a cap d w xs hr hl h0
theorem make_lit (nm : ByteArray) {l : List (List Cel)} (hn : n = l.length) (hr : Row w a cap l) (hl : l.length ≤ 1000) (hs : nm.size ≤ 9223372036854775807) {m : Nat} {ps : List Cel} (hp : makeL nm l = ps) (hm : m = ps.length) :
    Calls Try.prog 34 #[.string nm, .slice a n cap] w fun e w' => ∃ a' cap', e = .returned (.slice a' m cap') ∧ Row w' a' cap' ps ∧ Below w.heap.size w w' := by
  subst hn; subst hm; subst hp; exact make_any a cap nm w l hr hl hs
theorem ground_lit (hn : n = xs.length) (hr : Row w a cap xs) {b : Bool} (hb : groundB xs = b) :
    Calls Try.prog 23 #[.slice a n cap] w fun e w' => e = .returned (.bool b) ∧ Below w.heap.size w w' := by
  subst hn; subst hb; exact ground_any a cap w xs hr
theorem compare_lit {m : Nat} {ys : List Cel} {a' : Option Addr} {cap' : Nat} (hn : n = xs.length) (hr : Row w a cap xs) (hm : m = ys.length) (hr' : Row w a' cap' ys) {d : Int} (hd : compP xs ys = d) :
    Calls Try.prog 32 #[.slice a n cap, .slice a' m cap'] w fun e w' => e = .returned (.int .i64 d) ∧ Below w.heap.size w w' := by
  subst hn; subst hm; subst hd; exact compare_any a cap a' cap' w xs ys hr hr'
theorem same_lit {m : Nat} {ys : List Cel} {a' : Option Addr} {cap' : Nat} (hn : n = xs.length) (hr : Row w a cap xs) (hm : m = ys.length) (hr' : Row w a' cap' ys) {d : Bool} (hd : decide (xs = ys) = d) :
    Calls Try.prog 16 #[.slice a n cap, .slice a' m cap'] w fun e w' => e = .returned (.bool d) ∧ Below w.heap.size w w' := by
  subst hn; subst hm; subst hd; exact same_any a cap a' cap' w xs ys hr hr'
theorem depth_lit {t : Tm} (hx : t.flat = xs) (ht : t.ok) (hn : n = xs.length) (hl : xs.length ≤ 200) (hr : Row w a cap xs) {d : Nat} (hd : t.depth = d) :
    Calls Try.prog 18 #[.slice a n cap] w fun e w' => e = .returned (.int .i64 d) ∧ Below w.heap.size w w' := by
  subst hn; subst hx; subst hd; exact depth_any t ht hl a cap w hr
end lit

set_option maxHeartbeats 4000000 in
set_option maxRecDepth 100000 in
theorem head_any (w : World) :
    Calls Try.prog 12 #[] w fun e w' => e = .returned (.bool true) ∧ Below w.heap.size w w' := by
  go_enter Try.func12, Try.ntmps12
  go_wp2_with fail
  refine (one_any _).mono ?_
  rintro e w1 ⟨a1, cap1, rfl, r1, hb1⟩
  go_wp2_with fail
  refine (parts_lit rfl r1 one_right one_parts (m := 3) rfl).mono ?_
  rintro e w2 ⟨a2, cap2, rfl, r2, hb2⟩
  have r1' := r1.below hb2
  go_wp2_with fail
  refine (number_lit rfl r1' (by decide) (by decide) one_num (m := 5) rfl).mono ?_
  rintro e w3 ⟨a3, cap3, rfl, r3, hb3⟩
  have r1'' := r1'.below hb3
  go_wp2_with fail
  refine (vars_lit rfl r1'' (by decide) one_vars (m := 2) rfl).mono ?_
  rintro e w4 ⟨a4, cap4, rfl, r4, hb4⟩
  go_wp2_with fail
  refine (shift_lit 2 rfl (r1''.below hb4) (by decide) (by decide) one_shift (m := 5) rfl).mono ?_
  rintro e w5 ⟨a5, cap5, rfl, r5, hb5⟩
  go_wp2_with fail
  refine (make_lit ⟨#[97]⟩ (l := []) rfl (nilRow _) (by decide) (by decide) make_a (m := 1) rfl).mono ?_
  rintro e w6 ⟨a6, cap6, rfl, r6, hb6⟩
  have hb06 := ((((hb1.then hb2).then hb3).then hb4).then hb5).then hb6
  have ho := World.ownsRow_lit (base := w6.heap.size) (e := 40) (size := 3) w6 #[.int .i64 2, .string ⟨#[]⟩, .int .i64 7] 1 (Nat.le_refl _) (by unfold maxLen; omega) rfl
  obtain ⟨a7, cap7, e7, r7⟩ := own_row (xs := [⟨2, ⟨#[]⟩, 7⟩]) ho (by intro c hc; simp only [List.mem_cons, List.not_mem_nil, or_false] at hc; subst hc; exact ⟨by decide, by decide, by decide, by decide, by decide⟩)
  injection e7 with e7 e9 e8
  clear e9
  subst e7
  subst e8
  have hb67 := (Below.refl w6.heap.size w6).new (.cells #[.int .i64 2, .string ⟨#[]⟩, .int .i64 7] 40)
  have r6' := r6.below hb67
  have r5' := (r5.below hb6).below hb67
  have r4' := ((r4.below hb5).below hb6).below hb67
  have r3' := (((r3.below hb4).below hb5).below hb6).below hb67
  have r2' := ((((r2.below hb3).below hb4).below hb5).below hb6).below hb67
  have r1w := ((((r1''.below hb4).below hb5).below hb6)).below hb67
  have hbw := hb06.then hb67
  obtain ⟨b1, o1, rfl, _, at1⟩ := r1w.cases.resolve_left (by simp [oneL])
  obtain ⟨b2, o2, rfl, _, at2⟩ := r2'.cases.resolve_left (by simp)
  obtain ⟨b3, o3, rfl, _, at3⟩ := r3'.cases.resolve_left (by simp)
  obtain ⟨b4, o4, rfl, _, at4⟩ := r4'.cases.resolve_left (by simp)
  obtain ⟨b5, o5, rfl, _, at5⟩ := r5'.cases.resolve_left (by simp)
  have k40 : ∀ z : Later (w6.alloc (.cells #[.int .i64 2, .string ⟨#[]⟩, .int .i64 7] 40)), z.w'.cell? ⟨b4, o4, none⟩ = some (.int .i64 3) := keepL (int_at at4 (Below.refl _ _) (k := 0) (by simp)).c
  have k41 : ∀ z : Later (w6.alloc (.cells #[.int .i64 2, .string ⟨#[]⟩, .int .i64 7] 40)), z.w'.cell? ⟨b4, o4 + 1, none⟩ = some (.int .i64 1) := keepL (int_at at4 (Below.refl _ _) (k := 1) (by simp)).c
  have k31 : ∀ z : Later (w6.alloc (.cells #[.int .i64 2, .string ⟨#[]⟩, .int .i64 7] 40)), z.w'.cell? ⟨b3, o3 + 5, none⟩ = some (.int .i64 0) := keepL (cel_at at3 (Below.refl _ _) (k := 1) (by simp)).c2
  have k33 : ∀ z : Later (w6.alloc (.cells #[.int .i64 2, .string ⟨#[]⟩, .int .i64 7] 40)), z.w'.cell? ⟨b3, o3 + 11, none⟩ = some (.int .i64 1) := keepL (cel_at at3 (Below.refl _ _) (k := 3) (by simp)).c2
  have k34 : ∀ z : Later (w6.alloc (.cells #[.int .i64 2, .string ⟨#[]⟩, .int .i64 7] 40)), z.w'.cell? ⟨b3, o3 + 14, none⟩ = some (.int .i64 0) := keepL (cel_at at3 (Below.refl _ _) (k := 4) (by simp)).c2
  have k51 : ∀ z : Later (w6.alloc (.cells #[.int .i64 2, .string ⟨#[]⟩, .int .i64 7] 40)), z.w'.cell? ⟨b5, o5 + 5, none⟩ = some (.int .i64 5) := keepL (cel_at at5 (Below.refl _ _) (k := 1) (by simp)).c2
  obtain ⟨p1, cp1, kp, _⟩ := list_at at2 (Below.refl _ _) (k := 1) (by simp)
  have k21 : ∀ z : Later (w6.alloc (.cells #[.int .i64 2, .string ⟨#[]⟩, .int .i64 7] 40)), z.w'.cell? ⟨b2, o2 + 1, none⟩ = some (.slice p1 2 cp1) := keepL kp
  have rcut := r1w.slice (i := 0) (j := 4) (by omega) (by decide)
  rw [Nat.zero_mul, Nat.add_zero, Nat.sub_zero, Nat.sub_zero, List.drop_zero, show oneL.take 4 = [⟨3, ⟨#[102]⟩, 3⟩, ⟨1, ⟨#[]⟩, 3⟩, ⟨3, ⟨#[103]⟩, 1⟩, ⟨1, ⟨#[]⟩, 1⟩] from rfl] at rcut
  have hcap1 := r1w.le
  have hcap1' := r1w.max
  rw [show oneL.length = 5 from rfl] at hcap1
  clear kp at1 at2 at3 at4 at5 r2 r3 r4 r5 r6 r1 r1' r1'' r2' r3' r4' r5'
  go_wp2_with fail
  refine (right_lit rfl r1w one_right).mono ?_
  rintro e w8 ⟨rfl, hb8⟩
  obtain ⟨y1, rfl⟩ := later_first hb8
  clear hb8
  go_wp2_with fail
  refine (right_lit rfl (rcut.below y1.ok) one_cut).mono ?_
  rintro e w8 ⟨rfl, hb8⟩
  obtain ⟨y2, rfl⟩ := later_of hb8
  clear hb8
  go_wp2_with fail
  refine (right_lit (xs := []) rfl (nilRow _) nil_right).mono ?_
  rintro e w8 ⟨rfl, hb8⟩
  obtain ⟨y3, rfl⟩ := later_of hb8
  clear hb8
  go_wp2_with fail
  refine (depth_lit one_flat one_ok rfl (by decide) (r1w.below y3.ok) one_depth).mono ?_
  rintro e w8 ⟨rfl, hb8⟩
  obtain ⟨y4, rfl⟩ := later_of hb8
  clear hb8
  go_wp2_with fail
  refine (ground_lit rfl (r1w.below y4.ok) one_ground).mono ?_
  rintro e w8 ⟨rfl, hb8⟩
  obtain ⟨y5, rfl⟩ := later_of hb8
  clear hb8
  go_wp2_with fail
  refine (compare_lit rfl (r6'.below y5.ok) rfl (r7.below y5.ok) comp_a7).mono ?_
  rintro e w8 ⟨rfl, hb8⟩
  obtain ⟨y6, rfl⟩ := later_of hb8
  clear hb8
  go_wp2_with fail
  refine (compare_lit rfl (r7.below y6.ok) rfl (r7.below y6.ok) comp_77).mono ?_
  rintro e w8 ⟨rfl, hb8⟩
  obtain ⟨y7, rfl⟩ := later_of hb8
  clear hb8
  go_wp2_with fail
  refine (one_any _).mono ?_
  rintro e w8 ⟨a8, cap8, rfl, r8, hb8⟩
  obtain ⟨y8, rfl⟩ := later_of hb8
  clear hb8
  go_wp2_with fail
  refine (same_lit rfl (r1w.below y8.ok) rfl r8 (decide_eq_true rfl)).mono ?_
  rintro e w8 ⟨rfl, hb8⟩
  obtain ⟨y9, rfl⟩ := later_of hb8
  clear hb8
  go_wp2_with fail
  refine (ground_lit rfl (r6'.below y9.ok) ground_a).mono ?_
  rintro e w8 ⟨rfl, hb8⟩
  obtain ⟨y10, rfl⟩ := later_of hb8
  clear hb8
  go_wp2_with fail
  refine (shift_lit 997 rfl (r1w.below y10.ok) (by decide) (by decide) one_shift997 (m := 0) rfl).mono ?_
  rintro e w8 ⟨a9, cap9, rfl, r9, hb8⟩
  obtain ⟨y11, rfl⟩ := later_of hb8
  clear hb8
  go_wp2_with fail
  refine (make_lit ⟨#[]⟩ (l := []) rfl (nilRow _) (by decide) (by decide) make_none (m := 0) rfl).mono ?_
  rintro e w8 ⟨a10, cap10, rfl, r10, hb8⟩
  obtain ⟨y12, rfl⟩ := later_of hb8
  clear hb8
  go_wp2_with fail
  go_ret
  exact ⟨rfl, hbw.then y12.ok⟩
end Go.Proofs.Ytkbgdpgmnigcbaa
