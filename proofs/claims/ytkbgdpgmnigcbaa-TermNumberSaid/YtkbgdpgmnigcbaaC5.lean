import Derived.Test.YtkbgdpgmnigcbaaC4
import Derived.Laws.EntriesVeiled
namespace Go.Proofs.Ytkbgdpgmnigcbaa
open Go.RowKit

set_option maxHeartbeats 800000 in
theorem pass_any (xs : List Cel) (a : Option Addr) (cap b1 o1 b2 o2 : Nat) (hl : xs.length ≤ 1000000) (m : Nat) : ∀ (i : Int) (w : World), (0 ≤ i → (xs.length : Int) - i ≤ m) → -9223372036854775808 ≤ i → i ≤ 9000000000000000000 →
    Row w a cap xs → w.cell? ⟨b1, o1, none⟩ = some (.slice a xs.length cap) → w.cell? ⟨b2, o2, none⟩ = some (.func (.func 47) #[] #[.pointer (some ⟨b1, o1, none⟩), .pointer (some ⟨b2, o2, none⟩)]) →
    Calls Try.prog 47 #[.int .i64 i, .pointer (some ⟨b1, o1, none⟩), .pointer (some ⟨b2, o2, none⟩)] w fun e w' => e = .returned (.int .i64 (passI xs i)) ∧ Below w.heap.size w w' := by
  induction m with
  | zero =>
    intro i w hm hlo hhi hr h1 h2
    have HE : Hid (-1 = passI xs i) := by
      unfold Hid passI; split
      · rw [endI_out (by omega)]
      · rfl
    have hc := hr.le
    have hc2 := hr.max
    by_cases hneg : i < 0
    · go_enter Try.func47, Try.ntmps47
      go_wp2_with fail
      go_ret
      exact ⟨ret_int HE.out, Below.refl _ _⟩
    · have hge : (xs.length : Int) ≤ i := by have := hm (by omega); omega
      clear hm
      go_enter Try.func47, Try.ntmps47
      go_wp2_with fail
      go_ret
      exact ⟨ret_int HE.out, Below.refl _ _⟩
  | succ m ih =>
    intro i w hm hlo hhi hr h1 h2
    have hc := hr.le
    have hc2 := hr.max
    by_cases hneg : i < 0
    · have HE : Hid (-1 = passI xs i) := by
        unfold Hid passI; rw [if_neg (by omega)]
      clear hm
      go_enter Try.func47, Try.ntmps47
      go_wp2_with fail
      go_ret
      exact ⟨ret_int HE.out, Below.refl _ _⟩
    by_cases hge : (xs.length : Int) ≤ i
    · have HE : Hid (-1 = passI xs i) := by
        unfold Hid passI; rw [if_pos (by omega), endI_out (by omega)]
      clear hm
      go_enter Try.func47, Try.ntmps47
      go_wp2_with fail
      go_ret
      exact ⟨ret_int HE.out, Below.refl _ _⟩
    obtain ⟨k, rfl⟩ := Int.eq_ofNat_of_zero_le (show 0 ≤ i by omega)
    have hk : k < xs.length := by omega
    have hmm : xs.length - k ≤ m + 1 := by have := hm (by omega); omega
    clear hm
    obtain ⟨b, off, rfl, hb, hat⟩ := hr.cases.resolve_left (fun e => by simp [e] at hk)
    obtain ⟨c0, c1, c2, hf⟩ := cel_at hat (Below.refl _ _) hk
    cases hok : cellOk xs[k] with
    | false =>
      have HE : Hid (-1 = passI xs k) := by
        unfold Hid passI; rw [if_pos (by omega), Int.toNat_natCast, endI_bad hk hok]
      have hok' := mkHid hok
      clear hok
      go_enter Try.func47, Try.ntmps47
      go_wp2_with (go_at_call 46; refine (may_any xs[k] _ hf).mono ?_; rintro e w' ⟨rfl, hb1⟩; rw [hok'.out])
      go_ret
      exact ⟨ret_int HE.out, hb1⟩
    | true =>
      have HE : Hid (afterI xs (k + 1) (ar xs[k]) = passI xs k) := by
        unfold Hid passI; rw [if_pos (by omega), Int.toNat_natCast, endI_ok hk hok]
      have har := ar_le _ hok
      have HA := mkHid (arI_ar hok)
      have hok' := mkHid hok
      clear hok
      go_enter Try.func47, Try.ntmps47
      go_wp2_with (first
        | (go_at_call 46; refine (may_any xs[k] _ hf).mono ?_; rintro e w' ⟨rfl, hb1⟩; rw [hok'.out]; have d0 := keep c0 hb1; have d1 := keep c1 hb1; have d2 := keep c2 hb1; have k1 := keep h1 hb1; have k2 := keep h2 hb1; clear c0 c1 c2 h1 h2)
        | (go_at_call 41; refine (arguments_any xs[k] _).mono ?_; rintro e w2 ⟨rfl, hb2⟩; rw [HA.out]; clear d0 d1 d2))
      have hb12 := hb1.then hb2
      have k1' := keep k1 hb2
      have k2' := keep k2 hb2
      have hr2 := hr.below hb12
      clear k1 k2
      go_loopw [5, 29] (fun x j wr => ∃ j' : Nat, j' ≤ ar xs[k] ∧ j = .int .i64 j' ∧ x = .int .i64 (afterI xs (k + 1) j') ∧ Below w2.heap.size w2 wr) (fun x j wr => ar xs[k] - (intOf j).toNat)
      case atStart => exact ⟨0, Nat.zero_le _, rfl, by rw [afterI_zero (by omega)]; rfl, Below.refl _ _⟩
      case round =>
        obtain ⟨j, hj, rfl, rfl, hbl⟩ := hrel
        have q1 := keep k1' hbl
        have q2 := keep k2' hbl
        have hr3 := hr2.below hbl
        have hrg := afterI_range (xs := xs) (i := k + 1) (j := j) (by omega)
        have HS := mkHid (afterI_succ (xs := xs) (i := k + 1) (j := j) (by omega))
        by_cases hlt : j < ar xs[k]
        · go_wp2_with (go_at_call 47; refine (ih (afterI xs (k + 1) j) _ (by omega) (by omega) (by omega) hr3 q1 q2).mono ?_; rintro e w3 ⟨rfl, hb3⟩; rw [HS.out])
          go_round
          case rel => exact ⟨j + 1, by omega, by go_num, rfl, hbl.then hb3⟩
          case measure => simp [intOf]; omega
        · obtain rfl : j = ar xs[k] := by omega
          go_wp2
          go_ret
          exact ⟨ret_int HE.out, (hb12.then hbl)⟩

set_option maxHeartbeats 400000 in
theorem behind_any (a : Option Addr) (cap : Nat) (i : Int) (w : World) (xs : List Cel) (hr : Row w a cap xs) (hl : xs.length ≤ 1000000) (h1 : -9223372036854775808 ≤ i) (h2 : i ≤ 9000000000000000000) :
    Calls Try.prog 38 #[.slice a xs.length cap, .int .i64 i] w fun e w' => e = .returned (.int .i64 (passI xs i)) ∧ Below w.heap.size w w' := by
  have hmf : ∀ (fn : Fn) (first cap : Array Value) (w : World), (Instr.makeFunc fn first cap).run Try.prog w = .ok (.func fn first cap) w := fun _ _ _ _ => rfl
  have hc := hr.le
  have hc2 := hr.max
  go_enter Try.func38, Try.ntmps38
  go_wp2_with fail
  refine (pass_any xs a cap w.heap.size 0 (w.heap.size + 1) 0 hl xs.length i _ (by omega) h1 h2 ?_ ?_ ?_).mono ?_
  · exact hr.below (((Below.refl _ _).new _).new _)
  · go_simp
  · go_simp
  rintro e w' ⟨rfl, hb1⟩
  go_wp2
  go_ret
  exact ⟨rfl, (((Below.refl _ _).new _).new _).then hb1⟩

theorem passI_zero (xs : List Cel) : passI xs 0 = endI xs 0 := rfl

set_option maxHeartbeats 400000 in
theorem right_any (a : Option Addr) (cap : Nat) (w : World) (xs : List Cel) (hr : Row w a cap xs) :
    Calls Try.prog 14 #[.slice a xs.length cap] w fun e w' => e = .returned (.bool (rightB xs)) ∧ Below w.heap.size w w' := by
  go_enter Try.func14, Try.ntmps14
  go_wp2_with (go_at_call 38; refine (behind_any a cap 0 _ xs hr (by omega) (by omega) (by omega)).mono ?_; rintro e w' ⟨rfl, hb1⟩; rw [passI_zero])
  · go_ret
    exact ⟨ret_bool (rightB_le (by assumption)), hb1⟩
  · go_ret
    exact ⟨ret_bool (rightB_gt (by assumption)), Below.refl _ _⟩
end Go.Proofs.Ytkbgdpgmnigcbaa
