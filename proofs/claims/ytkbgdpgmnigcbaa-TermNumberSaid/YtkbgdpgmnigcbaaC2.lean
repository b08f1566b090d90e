import Derived.Test.YtkbgdpgmnigcbaaC1
namespace Go.Proofs.Ytkbgdpgmnigcbaa
open Go.RowKit

set_option maxHeartbeats 400000 in
theorem great_any (a : Option Addr) (cap : Nat) (w : World) (n : Nat) :
    Calls Try.prog 13 #[.slice a n cap] w fun e w' => e = .returned (.bool (decide (300 < (n : Int)))) ∧ Below w.heap.size w w' := by
  go_enter Try.func13, Try.ntmps13
  go_wp2
  go_ret
  exact ⟨rfl, Below.refl _ _⟩

set_option maxHeartbeats 400000 in
theorem refright_any (a : Option Addr) (cap : Nat) (w : World) (xs : List Cel) (hr : Row w a cap xs) :
    Calls Try.prog 15 #[.slice a xs.length cap] w fun e w' => e = .returned (.bool (rightB xs)) ∧ Below w.heap.size w w' := by
  by_cases h1 : xs.length < 1
  · have HF := mkHid (rightB_pos h1)
    go_enter Try.func15, Try.ntmps15
    go_wp2
    go_ret
    exact ⟨ret_bool HF.out.symm, Below.refl _ _⟩
  · go_enter Try.func15, Try.ntmps15
    go_wp2_with (go_at_call 39; refine (refend_any a cap 0 _ xs hr (by omega) (by omega)).mono ?_; rintro e w' ⟨rfl, hb1⟩)
    · go_ret
      exact ⟨ret_bool (rightB_le (by assumption)), hb1⟩
    · go_ret
      exact ⟨ret_bool (rightB_gt (by assumption)), Below.refl _ _⟩

set_option maxHeartbeats 400000 in
theorem named_any (s : ByteArray) (w : World) (hs : s.size ≤ 9223372036854775807) :
    Calls Try.prog 51 #[.string s] w fun e w' => e = .returned (.bool (nameOk s)) ∧ Below w.heap.size w w' := by
  by_cases h1 : s.size < 1
  · have HF : Hid (nameOk s = false) := by simp [Hid, nameOk]; intros; omega
    go_enter Try.func51, Try.ntmps51
    go_wp2
    go_ret
    exact ⟨ret_bool HF.out.symm, Below.refl _ _⟩
  by_cases h2 : 12 < s.size
  · have HF : Hid (nameOk s = false) := by simp [Hid, nameOk]; intros; omega
    go_enter Try.func51, Try.ntmps51
    go_wp2
    go_ret
    exact ⟨ret_bool HF.out.symm, Below.refl _ _⟩
  go_enter Try.func51, Try.ntmps51
  go_wp2
  go_loopw [15] (fun i wr => ∃ k : Nat, k ≤ s.size ∧ i = .int .i64 k ∧ Below w.heap.size w wr ∧ Hid ((s.data.toList.take k).all okByte = true)) (fun i wr => s.size - (intOf i).toNat)
  case atStart => exact ⟨0, Nat.zero_le _, rfl, Below.refl _ _, rfl⟩
  case round =>
    obtain ⟨k, hk, rfl, hbl, Hall⟩ := hrel
    by_cases hlt : k < s.size
    · cases hb : okByte s[k] with
      | true =>
        obtain ⟨b1, b2, b3⟩ := okByte_true hb
        have HT : Hid ((s.data.toList.take (k+1)).all okByte = true) := all_snoc s k hlt Hall.out hb
        clear hb Hall
        go_wp2
        go_round
        case rel => exact ⟨k + 1, by omega, by go_num, hbl, HT⟩
        case measure => simp [intOf]; omega
      | false =>
        have HF : Hid (nameOk s = false) := all_bad s k hlt hb
        have hc := okByte_false hb
        clear hb Hall
        rcases hc with h | ⟨h1, h2⟩ | ⟨h1, h2, h3⟩
        all_goals
          go_wp2
          go_ret
          exact ⟨ret_bool HF.out.symm, hbl⟩
    · have HT : Hid (nameOk s = (decide (1 ≤ (s.size : Int)) && decide ((s.size : Int) ≤ 12))) := by
        have := Hall.out
        rw [List.take_of_length_le (by simp; omega)] at this
        exact nameOk_of s this
      clear Hall
      go_wp2
      go_ret
      refine ⟨ret_bool ?_, hbl⟩
      rw [HT.out]
      simp
      omega

set_option maxHeartbeats 400000 in
theorem may_any (c : Cel) (w : World) (hf : c.fit) :
    Calls Try.prog 46 #[c.v] w fun e w' => e = .returned (.bool (cellOk c)) ∧ Below w.heap.size w w' := by
  obtain ⟨k, s, n⟩ := c
  obtain ⟨k1, k2, n1, n2, hs⟩ := hf
  dsimp only [Cel.v] at *
  go_enter Try.func46, Try.ntmps46
  have hb0 : Below w.heap.size w w := Below.refl _ _
  go_wp2_with (go_at_call 51; refine (named_any _ _ (by assumption)).mono ?_; rintro e w' ⟨rfl, hb1⟩; replace hb0 := ((Below.refl w.heap.size w).new _).then hb1)
  all_goals
    go_ret
    refine ⟨ret_bool ?_, (by first | assumption | exact (Below.refl _ _).alloc (Nat.le_refl _) _)⟩
    simp_all [cellOk]
    try omega

set_option maxHeartbeats 400000 in
theorem arguments_any (c : Cel) (w : World) :
    Calls Try.prog 41 #[c.v] w fun e w' => e = .returned (.int .i64 (arI c)) ∧ Below w.heap.size w w' := by
  obtain ⟨k, s, n⟩ := c
  dsimp only [Cel.v] at *
  go_enter Try.func41, Try.ntmps41
  go_wp2
  all_goals
    go_ret
    refine ⟨ret_int ?_, (Below.refl _ _).alloc (Nat.le_refl _) _⟩
    simp_all [arI]
end Go.Proofs.Ytkbgdpgmnigcbaa
