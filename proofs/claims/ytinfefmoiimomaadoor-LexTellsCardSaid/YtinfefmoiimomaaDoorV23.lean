import Derived.Test.YtinfefmoiimomaaDoorV22
import Derived.Test.YtinfefmoiimomaaDoorV28
namespace Go.Proofs.YtinfefmoiimomaaDoor
open Go.RowKit

/-- what the document's token tells -/
def refV (p : Nat) : Step → Value
  | .pass _ => .tuple #[]
  | .tok k t n len => .tuple #[.agg #[.int .i64 k, .string (mkB t), .int .i64 n, .int .i64 (p : Int)], .int .i64 ((p + len : Nat) : Int), .int .i64 0]
  | .err e => .tuple #[noTok, .int .i64 (p : Int), .int .i64 e]
theorem cut_span (s : ByteArray) (a : Nat) (p : UInt8 → Bool) : s.extract a (a + span p (s.data.toList.drop a)) = mkB ((s.data.toList.drop a).takeWhile p) := by
  rw [← take_span]
  exact cut_eq (by rw [Nat.add_sub_cancel_left])
set_option maxRecDepth 20000 in
theorem rShort_no (s : ByteArray) (a b : Nat) (k : Int) (w : World) (hs : s.size ≤ 1000000) (hab : a ≤ b) (hb : b ≤ s.size) (h : 12 < b - a) :
    Calls Tryd.prog 45 #[.string s, .int .i64 (a : Int), .int .i64 (b : Int), .int .i64 k] w fun e w' => e = .returned (.tuple #[noTok, .int .i64 (a : Int), .int .i64 2]) ∧ Below w.heap.size w w' := by
  have t : decide ((12 : Int) < (b : Int) - (a : Int)) = true := by simp; omega
  have hb0 := (Below.refl w.heap.size w).new (.cells #[.int .i64 0, .string ⟨#[]⟩, .int .i64 0, .int .i64 0] 30)
  go_enter Tryd.func45, Tryd.ntmps45
  go_wp2
  refine bodyPost_ret (v := .tuple #[noTok, .int .i64 (a : Int), .int .i64 2]) (by simp [results, Tryd.results45, go_sem]) rfl ⟨rfl, ?_⟩
  exact hb0
set_option maxRecDepth 20000 in
theorem rShort_yes (s : ByteArray) (a b : Nat) (k : Int) (w : World) (hs : s.size ≤ 1000000) (hab : a ≤ b) (hb : b ≤ s.size) (h : b - a ≤ 12) :
    Calls Tryd.prog 45 #[.string s, .int .i64 (a : Int), .int .i64 (b : Int), .int .i64 k] w fun e w' => e = .returned (.tuple #[.agg #[.int .i64 k, .string (s.extract a b), .int .i64 0, .int .i64 (a : Int)], .int .i64 (b : Int), .int .i64 0]) ∧ Below w.heap.size w w' := by
  have t : decide ((12 : Int) < (b : Int) - (a : Int)) = false := by simp; omega
  have c1 : (a : Int) ≤ (b : Int) := by omega
  have c2 : (b : Int) ≤ (s.size : Int) := by omega
  have hb0 := (Below.refl w.heap.size w).new (.cells #[.int .i64 k, .string (s.extract a b), .int .i64 0, .int .i64 (a : Int)] 30)
  go_enter Tryd.func45, Tryd.ntmps45
  go_wp2
  refine bodyPost_ret (v := .tuple #[.agg #[.int .i64 k, .string (s.extract a b), .int .i64 0, .int .i64 (a : Int)], .int .i64 (b : Int), .int .i64 0]) (by simp [results, Tryd.results45, go_sem]) rfl ⟨rfl, ?_⟩
  exact hb0

/-! ### the document's number -/
theorem decFrom_app (n : Nat) (l m : List UInt8) : decFrom n (l ++ m) = decFrom (decFrom n l) m := by
  unfold decFrom; rw [List.foldl_append]
theorem decN_snoc (l : List UInt8) (c : UInt8) : decN (l ++ [c]) = decN l * 10 + (c.toNat - 48) := by
  show decFrom 0 (l ++ [c]) = _
  rw [decFrom_app]; rfl
theorem decN_take_le (l : List UInt8) (k : Nat) : decN (l.take k) ≤ decN l := by
  show _ ≤ decFrom 0 l
  rw [← List.take_append_drop k l, decFrom_app]
  simp only [List.take_append_drop]
  exact decFrom_le _ _
set_option maxHeartbeats 3200000 in
set_option maxRecDepth 20000 in
theorem rNumber (s : ByteArray) (a : Nat) (w : World) (hs : s.size ≤ 1000000) (ha : a ≤ s.size) :
    Calls Tryd.prog 47 #[.string s, .int .i64 (a : Int)] w fun e w' => e = .returned (refV a (numS (s.data.toList.drop a))) ∧ Below w.heap.size w w' := by
  obtain ⟨D, hD⟩ : ∃ D, D = (s.data.toList.drop a).takeWhile digitB := ⟨_, rfl⟩
  obtain ⟨N, hN⟩ : ∃ N, N = span digitB (s.data.toList.drop a) := ⟨_, rfl⟩
  have hDl : D.length = N := by rw [hD, hN]; rfl
  have hNs : a + N ≤ s.size := by
    have h1 := span_le digitB (s.data.toList.drop a)
    rw [List.length_drop, size_list, ← hN] at h1; omega
  have hx : s.extract a (a + N) = mkB D := by rw [hN, hD]; exact cut_span s a digitB
  have hnum : numS (s.data.toList.drop a) = if 2147483647 < decN D then .err 2 else .tok 3 D (decN D) N := by unfold numS; rw [← hD, ← hN]
  have hall : D.all digitB = true := by rw [hD]; exact takeWhile_all _
  have hget : ∀ i (hi : a ≤ i) (hj : i < a + N), ∃ h : i < s.size, D.take (i + 1 - a) = D.take (i - a) ++ [s[i]] ∧ digitB (s[i]) = true := by
    intro i hi hj
    obtain ⟨j, rfl⟩ : ∃ j, i = a + j := ⟨i - a, by omega⟩
    rw [show a + j + 1 - a = j + 1 by omega, show a + j - a = j by omega]
    have hj : j < N := by omega
    have h : a + j < s.size := by omega
    have hjD : j < D.length := by omega
    have e : D[j] = s[a + j] := by
      have h1 : D.take N = (s.data.toList.drop a).take N := by rw [List.take_of_length_le (by omega), hD, hN, take_span]
      have h2 : (D.take N)[j]? = ((s.data.toList.drop a).take N)[j]? := by rw [h1]
      rw [List.getElem?_take_of_lt hj, List.getElem?_take_of_lt hj, List.getElem?_drop, List.getElem?_eq_getElem hjD] at h2
      have h3 : s.data.toList[a + j]? = some s[a + j] := by
        rw [List.getElem?_eq_getElem (by rw [size_list]; exact h)]; rfl
      rw [h3] at h2
      exact Option.some.inj h2
    refine ⟨h, by rw [List.take_succ_eq_append_getElem hjD, e], ?_⟩
    rw [← e]
    exact List.all_eq_true.1 hall _ (List.getElem_mem hjD)
  have HG := mkHid hget
  have HX := mkHid hx
  have HN := mkHid hnum
  have HDl := mkHid hDl
  have HNN := mkHid hN
  have hb0 := (Below.refl w.heap.size w).new (.cells #[.int .i64 0, .string ⟨#[]⟩, .int .i64 0, .int .i64 0] 30)
  clear hD hN hDl hx hnum hall hget
  go_enter Tryd.func47, Tryd.ntmps47
  go_wp2_with fail
  refine (rRow2 s a _ hs ha).mono ?_; rintro e w1 ⟨rfl, rfl⟩
  rw [← HNN.out]
  go_wp2
  go_loop [8, 9] (fun n i => ∃ k m : Nat, a ≤ k ∧ k ≤ a + N ∧ i = .int .i64 (k : Int) ∧ n = .int .i64 (m : Int) ∧ m ≤ 2147483647 ∧ Hid (m = decN (D.take (k - a)))) (fun n i => N + a - (intOf i).toNat)
  case atStart => exact ⟨a, 0, Nat.le_refl _, by omega, rfl, rfl, by omega, by rw [Hid, Nat.sub_self]; rfl⟩
  case round =>
    obtain ⟨k, m, hak, hk, rfl, rfl, hm, HM⟩ := hrel
    by_cases hlt : k < a + N
    · obtain ⟨hks, htk, hdg⟩ := HG.out k hak hlt
      have hd := digit_nat hdg
      have hdec : decN (D.take (k + 1 - a)) = m * 10 + (s[k].toNat - 48) := by rw [htk, decN_snoc, HM.out]
      have i2 : (k : Int) < (a : Int) + (N : Int) := by omega
      have hdi0 : (48 : Int) ≤ (s[k].toNat : Int) := by omega
      have hdi1 : (s[k].toNat : Int) ≤ 57 := by omega
      have HD := mkHid hdec
      obtain ⟨m', hm'⟩ : ∃ m', m' = m * 10 + (s[k].toNat - 48) := ⟨_, rfl⟩
      have hmi : (m : Int) * 10 + ((s[k].toNat : Int) - 48) = (m' : Int) := by omega
      rw [← hm'] at HD
      clear htk hdg hd hm' hdec
      by_cases hbig : 2147483647 < m'
      · have HR : Hid (numS (s.data.toList.drop a) = .err 2) := by
          rw [Hid, HN.out, if_pos]
          have := decN_take_le D (k + 1 - a)
          rw [HD.out] at this
          omega
        have tb : decide ((2147483647 : Int) < (m : Int) * 10 + ((s[k].toNat : Int) - 48)) = true := by rw [hmi]; simp; omega
        clear hmi HM
        go_wp2
        rw [HR.out]
        refine bodyPost_ret (v := refV a (.err 2)) (by simp [refV, results, Tryd.results47, go_sem]) rfl ⟨rfl, ?_⟩
        exact hb0
      · have HM' : Hid (m' = decN (D.take (k + 1 - a))) := HD.out.symm
        have tb : decide ((2147483647 : Int) < (m : Int) * 10 + ((s[k].toNat : Int) - 48)) = false := by rw [hmi]; simp; omega
        have HMI := mkHid hmi
        clear hmi HM HD
        go_wp2
        go_round
        case rel => exact ⟨k + 1, m', by omega, by omega, by go_num, by rw [HMI.out], by omega, HM'⟩
        case measure => simp [intOf]; omega
    · obtain rfl : k = a + N := by omega
      have hml : m = decN D := by
        have h := HM.out
        rw [Nat.add_sub_cancel_left, List.take_of_length_le (by rw [HDl.out]; omega)] at h
        exact h
      have HR : Hid (numS (s.data.toList.drop a) = .tok 3 D m N) := by rw [Hid, HN.out, if_neg (by omega), hml]
      have c1 : (a : Int) ≤ (a : Int) + (N : Int) := by omega
      have c2 : (a : Int) + (N : Int) ≤ (s.size : Int) := by omega
      have c3 : ((a : Int) + (N : Int)).toNat = a + N := by omega
      have hbN := (Below.refl w.heap.size w).new (.cells #[.int .i64 3, .string (s.extract a (a + N)), .int .i64 (m : Int), .int .i64 (a : Int)] 30)
      clear hml HM
      go_wp2
      rw [HR.out]
      refine bodyPost_ret (v := refV a (.tok 3 D m N)) (by simp [refV, results, Tryd.results47, go_sem, HX.out]) rfl ⟨rfl, ?_⟩
      exact hbN
end Go.Proofs.YtinfefmoiimomaaDoor
