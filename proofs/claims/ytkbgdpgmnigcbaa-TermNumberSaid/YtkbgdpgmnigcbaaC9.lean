import Derived.Test.YtkbgdpgmnigcbaaC8
namespace Go.Proofs.Ytkbgdpgmnigcbaa
open Go.RowKit

set_option maxHeartbeats 400000 in
theorem run_eql_cel (x y : Cel) (w : World) : (binOp .eql 40 (.agg #[.int .i64 x.k, .string x.s, .int .i64 x.n]) (.agg #[.int .i64 y.k, .string y.s, .int .i64 y.n])).run Try.prog w = .ok (.bool (decide (x = y))) w := by
  by_cases h1 : x.k = y.k
  · by_cases h2 : x.s = y.s
    · by_cases h3 : x.n = y.n
      · go_simp
        exact (Cel.eq_iff x y).2 ⟨h1, h2, h3⟩
      · have h4 : ¬ x = y := fun e => h3 (by rw [e])
        have h5 : (x.n == y.n) = false := by simp [h3]
        go_simp
    · have h4 : ¬ x = y := fun e => h2 (by rw [e])
      have h5 : (x.s.toList == y.s.toList) = false := by simp [toList_inj, h2]
      go_simp
  · have h4 : ¬ x = y := fun e => h1 (by rw [e])
    have h5 : (x.k == y.k) = false := by simp [h1]
    go_simp

def compR : List Cel → List Cel → Int
  | x :: xs, y :: ys => if x = y then compR xs ys else cellCmp x y
  | _, _ => 0
theorem compR_step {xs ys : List Cel} {k : Nat} (hx : k < xs.length) (hy : k < ys.length) : compR (xs.drop k) (ys.drop k) = if xs[k] = ys[k] then compR (xs.drop (k + 1)) (ys.drop (k + 1)) else cellCmp xs[k] ys[k] := by
  rw [List.drop_eq_getElem_cons hx, List.drop_eq_getElem_cons hy]; rfl
theorem compR_end {xs ys : List Cel} {k : Nat} (h : xs.length ≤ k ∨ ys.length ≤ k) : compR (xs.drop k) (ys.drop k) = 0 := by
  rcases h with h | h
  · rw [List.drop_eq_nil_of_le h]; simp [compR]
  · rw [List.drop_eq_nil_of_le h]; cases xs.drop k <;> simp [compR]
theorem cmp_neg {x y : Cel} (h : x.k < y.k ∨ x.k = y.k ∧ (x.n < y.n ∨ x.n = y.n ∧ Op.bytesLess x.s.toList y.s.toList = true)) : cellCmp x y = -1 := by
  unfold cellCmp cmpI cmpS
  rcases h with h | ⟨h1, h | ⟨h2, h3⟩⟩
  · rw [if_neg (by omega), if_pos h]
  · rw [if_pos h1, if_neg (by omega), if_pos h]
  · rw [if_pos h1, if_pos h2, if_pos h3]
theorem cmp_pos {x y : Cel} (he : ¬ x = y) (h1 : ¬ x.k < y.k) (h : ¬ x.k = y.k ∨ ¬ x.n < y.n ∧ (¬ x.n = y.n ∨ Op.bytesLess x.s.toList y.s.toList = false)) : cellCmp x y = 1 := by
  unfold cellCmp cmpI cmpS
  by_cases h2 : x.k = y.k
  · rw [if_pos h2]
    obtain ⟨h3, h4⟩ := h.resolve_left (fun h => h h2)
    by_cases h5 : x.n = y.n
    · rw [if_pos h5, if_neg (by rw [h4.resolve_left (fun h => h h5)]; simp)]
      rw [if_neg]
      intro e
      exact he ((Cel.eq_iff x y).2 ⟨h2, e, h5⟩)
    · rw [if_neg h5, if_neg h3, if_pos (by omega)]
  · rw [if_neg h2, if_neg h1, if_pos (by omega)]

set_option maxHeartbeats 1600000 in
theorem refcompare_any (a : Option Addr) (cap : Nat) (a' : Option Addr) (cap' : Nat) (w : World) (xs ys : List Cel) (hx : Row w a cap xs) (hy : Row w a' cap' ys) :
    Calls Try.prog 33 #[.slice a xs.length cap, .slice a' ys.length cap'] w fun e w' => e = .returned (.int .i64 (compR xs ys)) ∧ Below w.heap.size w w' := by
  have hm := hx.max
  have hm2 := hx.le
  have hm3 := hy.max
  have hm4 := hy.le
  go_enter Try.func33, Try.ntmps33
  go_wp2_with fail
  go_loopw [5] (fun i wr => ∃ k : Nat, k ≤ xs.length ∧ k ≤ ys.length ∧ i = .int .i64 k ∧ Below w.heap.size w wr ∧ Hid (compR xs ys = compR (xs.drop k) (ys.drop k))) (fun i wr => xs.length - (intOf i).toNat)
  case atStart => exact ⟨0, Nat.zero_le _, Nat.zero_le _, rfl, Below.refl _ _, rfl⟩
  case round =>
    obtain ⟨k, hk, hk', rfl, hbl, HS⟩ := hrel
    by_cases h1 : k < xs.length
    · by_cases h2 : k < ys.length
      · obtain ⟨b, off, rfl, hb, hat⟩ := hx.cases.resolve_left (fun e => by simp [e] at h1)
        obtain ⟨b', off', rfl, hb', hat'⟩ := hy.cases.resolve_left (fun e => by simp [e] at h2)
        obtain ⟨c0, c1, c2, hf⟩ := cel_at hat hbl h1
        obtain ⟨d0, d1, d2, hf2⟩ := cel_at hat' hbl h2
        have hst := compR_step h1 h2
        have heq := fun w => run_eql_cel xs[k] ys[k] w
        have hbl2 := (hbl.new (.cells #[.int .i64 xs[k].k, .string xs[k].s, .int .i64 xs[k].n] 40)).new (.cells #[.int .i64 ys[k].k, .string ys[k].s, .int .i64 ys[k].n] 40)
        have l1 := cell_lt d0
        by_cases he : xs[k] = ys[k]
        · have HT : Hid (compR xs ys = compR (xs.drop (k + 1)) (ys.drop (k + 1))) := by rw [Hid, HS.out, hst, if_pos he]
          rw [decide_eq_true he] at heq
          clear he HS hst
          go_wp2
          go_round
          case rel => exact ⟨k + 1, by omega, by omega, by go_num, hbl2, HT⟩
          case measure => simp [intOf]; omega
        · have HT : Hid (compR xs ys = cellCmp xs[k] ys[k]) := by rw [Hid, HS.out, hst, if_neg he]
          have HE := mkHid he
          rw [decide_eq_false he] at heq
          clear he HS hst
          by_cases g1 : xs[k].k < ys[k].k
          · have HZ : Hid (cellCmp xs[k] ys[k] = -1) := cmp_neg (.inl g1)
            go_wp2
            go_ret
            exact ⟨ret_int (by rw [HT.out, HZ.out]), hbl2⟩
          by_cases g2 : xs[k].k = ys[k].k
          · have t2 : (xs[k].k == ys[k].k) = true := by simp [g2]
            by_cases g3 : xs[k].n < ys[k].n
            · have HZ : Hid (cellCmp xs[k] ys[k] = -1) := cmp_neg (.inr ⟨g2, .inl g3⟩)
              clear g2
              go_wp2
              go_ret
              exact ⟨ret_int (by rw [HT.out, HZ.out]), hbl2⟩
            by_cases g4 : xs[k].n = ys[k].n
            · have t4 : (xs[k].n == ys[k].n) = true := by simp [g4]
              cases g5 : Op.bytesLess xs[k].s.toList ys[k].s.toList with
              | true =>
                have HZ : Hid (cellCmp xs[k] ys[k] = -1) := cmp_neg (.inr ⟨g2, .inr ⟨g4, g5⟩⟩)
                clear g2 g4
                go_wp2
                go_ret
                exact ⟨ret_int (by rw [HT.out, HZ.out]), hbl2⟩
              | false =>
                have HZ : Hid (cellCmp xs[k] ys[k] = 1) := cmp_pos HE.out g1 (.inr ⟨g3, .inr g5⟩)
                clear g2 g4
                go_wp2
                go_ret
                exact ⟨ret_int (by rw [HT.out, HZ.out]), hbl2⟩
            · have t4 : (xs[k].n == ys[k].n) = false := by simp [g4]
              have HZ : Hid (cellCmp xs[k] ys[k] = 1) := cmp_pos HE.out g1 (.inr ⟨g3, .inl g4⟩)
              clear g2 g4
              go_wp2
              go_ret
              exact ⟨ret_int (by rw [HT.out, HZ.out]), hbl2⟩
          · have t2 : (xs[k].k == ys[k].k) = false := by simp [g2]
            have HZ : Hid (cellCmp xs[k] ys[k] = 1) := cmp_pos HE.out g1 (.inl g2)
            clear g2
            go_wp2
            go_ret
            exact ⟨ret_int (by rw [HT.out, HZ.out]), hbl2⟩
      · have HT : Hid (compR xs ys = 0) := by rw [Hid, HS.out, compR_end (by omega)]
        clear HS
        go_wp2
        go_ret
        exact ⟨ret_int HT.out.symm, hbl⟩
    · have HT : Hid (compR xs ys = 0) := by rw [Hid, HS.out, compR_end (by omega)]
      clear HS
      go_wp2
      go_ret
      exact ⟨ret_int HT.out.symm, hbl⟩

theorem ground_take {xs : List Cel} {k : Nat} (h : k < xs.length) (h1 : groundB (xs.take k) = true) (h2 : ¬ xs[k].k = 1) : groundB (xs.take (k + 1)) = true := by
  rw [List.take_succ_eq_append_getElem h]
  unfold groundB at h1 ⊢
  rw [List.all_append, h1]; simp [h2]
theorem ground_bad {xs : List Cel} {k : Nat} (h : k < xs.length) (h2 : xs[k].k = 1) : groundB xs = false := by
  unfold groundB
  rw [List.all_eq_false]
  exact ⟨xs[k], List.getElem_mem h, by simp [h2]⟩

set_option maxHeartbeats 400000 in
theorem ground_any (a : Option Addr) (cap : Nat) (w : World) (xs : List Cel) (hx : Row w a cap xs) :
    Calls Try.prog 23 #[.slice a xs.length cap] w fun e w' => e = .returned (.bool (groundB xs)) ∧ Below w.heap.size w w' := by
  have hm := hx.max
  have hm2 := hx.le
  go_enter Try.func23, Try.ntmps23
  go_wp2
  go_loopw [7] (fun i wr => ∃ k : Nat, k ≤ xs.length ∧ i = .int .i64 k ∧ Below w.heap.size w wr ∧ Hid (groundB (xs.take k) = true)) (fun i wr => xs.length - (intOf i).toNat)
  case atStart => exact ⟨0, Nat.zero_le _, rfl, Below.refl _ _, rfl⟩
  case round =>
    obtain ⟨k, hk, rfl, hbl, HS⟩ := hrel
    by_cases hlt : k < xs.length
    · obtain ⟨b, off, rfl, hb, hat⟩ := hx.cases.resolve_left (fun e => by simp [e] at hlt)
      obtain ⟨c0, c1, c2, hf⟩ := cel_at hat hbl hlt
      have hbl2 := hbl.new (.cells #[.int .i64 xs[k].k, .string xs[k].s, .int .i64 xs[k].n] 40)
      by_cases he : xs[k].k = 1
      · have HE : Hid (groundB xs = false) := ground_bad hlt he
        have ht : (xs[k].k == 1) = true := by simp [he]
        clear he HS
        go_wp2
        go_ret
        exact ⟨ret_bool HE.out.symm, hbl2⟩
      · have HT : Hid (groundB (xs.take (k + 1)) = true) := ground_take hlt HS.out he
        have ht : (xs[k].k == 1) = false := by simp [he]
        clear he HS
        go_wp2
        go_round
        case rel => exact ⟨k + 1, by omega, by go_num, hbl2, HT⟩
        case measure => simp [intOf]; omega
    · have HE : Hid (groundB xs = true) := by
        have := HS.out
        rwa [List.take_of_length_le (by omega)] at this
      clear HS
      go_wp2
      go_ret
      exact ⟨ret_bool HE.out.symm, hbl⟩

set_option maxHeartbeats 400000 in
theorem refground_any (a : Option Addr) (cap : Nat) (w : World) (xs : List Cel) (hx : Row w a cap xs) (hl : xs.length ≤ 1000000) :
    Calls Try.prog 24 #[.slice a xs.length cap] w fun e w' => e = .returned (.bool (groundB xs)) ∧ Below w.heap.size w w' := by
  have HE : Hid (groundB xs = (((varsL xs).length : Int) == 0)) := by
    rw [Hid, ground_vars]; by_cases h : (varsL xs).length = 0 <;> simp [h]
  have hvl := varsGo_length xs []
  go_enter Try.func24, Try.ntmps24
  go_wp2_with (go_at_call 22; refine (refvars_any a cap _ xs hx hl).mono ?_; rintro e w' ⟨a', cap', rfl, hr', hb1⟩)
  go_ret
  exact ⟨ret_bool HE.out.symm, hb1⟩
end Go.Proofs.Ytkbgdpgmnigcbaa
