import Derived.Test.YtkbgdpgmnigcbaaS1
namespace Go.Proofs.Ytkbgdpgmnigcbaa
open Go.RowKit

set_option maxHeartbeats 400000 in
theorem refname_any (s : ByteArray) (w : World) (hs : s.size ≤ 9223372036854775807) :
    Calls Try.prog 52 #[.string s] w fun e w' => e = .returned (.bool (nameOk s)) ∧ w = w' := by
  go_enter Try.func52, Try.ntmps52
  go_wp2
  go_loop [3] (fun i => ∃ k : Nat, k ≤ s.size ∧ i = .int .i64 k ∧ Hid ((s.data.toList.take k).all okByte = true)) (fun i => s.size - (intOf i).toNat)
  case atStart => exact ⟨0, Nat.zero_le _, rfl, rfl⟩
  case round =>
    obtain ⟨k, hk, rfl, Hall⟩ := hrel
    by_cases hlt : k < s.size
    · cases hb : okByte s[k] with
      | true =>
        obtain ⟨b1, b2, b3⟩ := okByte_true hb
        have HT : Hid ((s.data.toList.take (k+1)).all okByte = true) := all_snoc s k hlt Hall.out hb
        clear hb Hall
        go_wp2
        go_round
        case rel => exact ⟨k + 1, by omega, by go_num, HT⟩
        case measure => simp [intOf]; omega
      | false =>
        have HF : Hid (nameOk s = false) := all_bad s k hlt hb
        have hc := okByte_false hb
        clear hb Hall
        rcases hc with h | ⟨h1, h2⟩ | ⟨h1, h2, h3⟩
        all_goals
          go_wp2
          go_ret
          exact ⟨ret_bool HF.out.symm, rfl⟩
    · have HT : Hid (nameOk s = (decide (1 ≤ (s.size : Int)) && decide ((s.size : Int) ≤ 12))) := by
        have := Hall.out
        rw [List.take_of_length_le (by simp; omega)] at this
        exact nameOk_of s this
      clear Hall
      go_wp2
      all_goals
        go_ret
        refine ⟨ret_bool ?_, rfl⟩
        rw [HT.out]
        simp
        try omega

set_option maxHeartbeats 400000 in
theorem refcell_any (c : Cel) (w : World) (hf : c.fit) :
    Calls Try.prog 48 #[c.v] w fun e w' => e = .returned (.bool (cellOk c)) ∧ Below w.heap.size w w' := by
  obtain ⟨k, s, n⟩ := c
  obtain ⟨k1, k2, n1, n2, hs⟩ := hf
  dsimp only [Cel.v] at *
  go_enter Try.func48, Try.ntmps48
  go_wp2_with (go_at_call 52; refine (refname_any _ _ (by assumption)).mono ?_; rintro e w' ⟨rfl, rfl⟩)
  all_goals
    go_ret
    refine ⟨ret_bool ?_, (Below.refl _ _).alloc (Nat.le_refl _) _⟩
    simp_all [cellOk]
    try omega


set_option maxHeartbeats 400000 in
theorem refend_any (a : Option Addr) (cap : Nat) (i0 : Nat) (w : World) (xs : List Cel) (hr : Row w a cap xs) (hl : xs.length ≤ 1048576) (h0 : i0 ≤ 1048576) :
    Calls Try.prog 39 #[.slice a xs.length cap, .int .i64 i0] w fun e w' => e = .returned (.int .i64 (endI xs i0)) ∧ Below w.heap.size w w' := by
  rcases hr.cases with rfl | ⟨b, off, rfl, hb, hat⟩
  · have HE : Hid (endI [] i0 = -1) := endI_none (sk_end 0 [] i0 (by simp))
    have hcap := hr.max
    go_enter Try.func39, Try.ntmps39
    go_wp2
    go_loopw [5, 6] (fun o i wr => ∃ k : Nat, i = .int .i64 k ∧ Below w.heap.size w wr) (fun o i wr => 0)
    case atStart => exact ⟨i0, rfl, Below.refl _ _⟩
    case round =>
      obtain ⟨k, rfl, hbl⟩ := hrel
      go_wp2
      go_ret
      exact ⟨ret_int HE.out.symm, hbl⟩
  · go_enter Try.func39, Try.ntmps39
    go_wp2
    go_loopw [5, 6] (fun o i wr => ∃ k m : Nat, k ≤ 1048576 ∧ m ≤ 6 * k ∧ i = .int .i64 k ∧ o = .int .i64 (m + 1) ∧ Below w.heap.size w wr ∧ Hid (sk 1 (xs.drop i0) = sk (m + 1) (xs.drop k))) (fun o i wr => 1048576 - (intOf i).toNat)
    case atStart => exact ⟨i0, 0, h0, Nat.zero_le _, rfl, rfl, Below.refl _ _, rfl⟩
    case round =>
      obtain ⟨k, m, hk, hm, rfl, rfl, hbl, HS⟩ := hrel
      by_cases hlt : k < xs.length
      · obtain ⟨c0, c1, c2, hf⟩ := cel_at hat hbl hlt
        have n1 := hf.n1
        have n2 := hf.n2
        have HA : Hid (cellOk xs[k] = true → (xs[k].k == 3) = true → 0 ≤ xs[k].n ∧ xs[k].n ≤ 6) := cellOk_fun _
        go_wp2_with (go_at_call 48; refine (refcell_any xs[k] _ hf).mono ?_; rintro e w' ⟨rfl, hb1⟩; have d0 := keep c0 hb1; have d2 := keep c2 hb1; clear c0 c1 c2; cases hok : cellOk xs[k])
        · go_ret
          exact ⟨ret_int (end_l1 HS.out hlt hok).symm, hbl.then hb1⟩
        · have h3 : (xs[k].k == 3) = true := by assumption
          have hz : (wrap64 ((m : Int) + xs[k].n) == 0) = true := by assumption
          go_ret
          exact ⟨ret_int (end_l2 hm hk HS.out hlt hok h3 hz).symm, hbl.then hb1⟩
        · have h3 : (xs[k].k == 3) = true := by assumption
          have hz : (wrap64 ((m : Int) + xs[k].n) == 0) = false := by assumption
          obtain ⟨m', e1, e2, e3⟩ := end_l3 hm hk HS.out hlt hok h3 hz
          go_round
          case rel => exact ⟨k + 1, m', by omega, by omega, by go_num, by rw [e1], hbl.then hb1, e3⟩
          case measure => simp [intOf]; omega
        · have h3 : (xs[k].k == 3) = false := by assumption
          have hz : ((m : Int) == 0) = true := by assumption
          go_ret
          exact ⟨ret_int (end_l4 HS.out hlt hok h3 hz).symm, hbl.then hb1⟩
        · have h3 : (xs[k].k == 3) = false := by assumption
          have hz : ((m : Int) == 0) = false := by assumption
          go_round
          case rel => exact ⟨k + 1, m - 1, by omega, by omega, by go_num, by simp at hz; congr 1; omega, hbl.then hb1, end_l5 HS.out hlt hok h3 hz⟩
          case measure => simp [intOf]; omega
      · have HE : Hid (endI xs i0 = -1) := endI_none (by rw [HS.out, sk_end _ _ _ (by omega)])
        go_wp2
        go_ret
        exact ⟨ret_int HE.out.symm, hbl⟩
end Go.Proofs.Ytkbgdpgmnigcbaa
