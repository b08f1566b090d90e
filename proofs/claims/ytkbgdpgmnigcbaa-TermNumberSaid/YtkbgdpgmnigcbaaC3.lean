import Derived.Test.YtkbgdpgmnigcbaaC2
namespace Go.Proofs.Ytkbgdpgmnigcbaa
open Go.RowKit

def placeI (l : List Int) (n : Int) : Int := if n ∈ l then (l.idxOf n : Int) else -1
theorem not_mem_snoc {xs : List Int} {n : Int} {k : Nat} (hlt : k < xs.length) (h : n ∉ xs.take k) (he : ¬ xs[k] = n) : n ∉ xs.take (k + 1) := by
  rw [List.take_succ_eq_append_getElem hlt, List.mem_append]
  simp only [List.mem_singleton]
  rintro (h' | h')
  · exact h h'
  · exact he h'.symm
theorem idxOf_at {xs : List Int} {n : Int} {k : Nat} (hlt : k < xs.length) (h : n ∉ xs.take k) (he : xs[k] = n) : placeI xs n = k := by
  have hm : n ∈ xs := he ▸ List.getElem_mem hlt
  have hs : xs = xs.take k ++ (xs[k] :: xs.drop (k + 1)) := by
    rw [← List.drop_eq_getElem_cons hlt, List.take_append_drop]
  unfold placeI
  rw [if_pos hm, hs, List.idxOf_append, if_neg h, he]
  simp
  omega

set_option maxHeartbeats 400000 in
theorem refin_any (a : Option Addr) (cap : Nat) (n : Int) (w : World) (xs : List Int) (hx : Row w a cap xs) :
    Calls Try.prog 36 #[.slice a xs.length cap, .int .i64 n] w fun e w' => e = .returned (.bool (decide (n ∈ xs))) ∧ Below w.heap.size w w' := by
  have hm := hx.max
  have hm2 := hx.le
  go_enter Try.func36, Try.ntmps36
  go_wp2
  go_loopw [5] (fun i wr => ∃ k : Nat, k ≤ xs.length ∧ i = .int .i64 k ∧ Below w.heap.size w wr ∧ Hid (n ∉ xs.take k)) (fun i wr => xs.length - (intOf i).toNat)
  case atStart => exact ⟨0, Nat.zero_le _, rfl, Below.refl _ _, by simp [Hid]⟩
  case round =>
    obtain ⟨k, hk, rfl, hbl, HS⟩ := hrel
    by_cases hlt : k < xs.length
    · obtain ⟨b, off, rfl, hb, hat⟩ := hx.cases.resolve_left (fun e => by simp [e] at hlt)
      obtain ⟨c0, _, _⟩ := int_at hat hbl hlt
      by_cases he : xs[k] = n
      · have HE : Hid (true = (decide (n ∈ xs))) := by rw [← he]; simp [Hid]
        have ht : (xs[k] == n) = true := by simp [he]
        clear he HS
        go_wp2
        go_ret
        exact ⟨ret_bool HE.out, hbl⟩
      · have ht : (xs[k] == n) = false := by simp [he]
        have HT : Hid (n ∉ xs.take (k + 1)) := not_mem_snoc hlt HS.out he
        clear he HS
        go_wp2
        go_round
        case rel => exact ⟨k + 1, by omega, by go_num, hbl, HT⟩
        case measure => simp [intOf]; omega
    · have HE : Hid (false = (decide (n ∈ xs))) := by
        have := HS.out
        rw [List.take_of_length_le (by omega)] at this
        simp [Hid, this]
      clear HS
      go_wp2
      go_ret
      exact ⟨ret_bool HE.out, hbl⟩

set_option maxHeartbeats 400000 in
theorem refplace_any (a : Option Addr) (cap : Nat) (n : Int) (w : World) (xs : List Int) (hx : Row w a cap xs) :
    Calls Try.prog 43 #[.slice a xs.length cap, .int .i64 n] w fun e w' => e = .returned (.int .i64 (placeI xs n)) ∧ Below w.heap.size w w' := by
  have hm := hx.max
  have hm2 := hx.le
  go_enter Try.func43, Try.ntmps43
  go_wp2
  go_loopw [5] (fun i wr => ∃ k : Nat, k ≤ xs.length ∧ i = .int .i64 k ∧ Below w.heap.size w wr ∧ Hid (n ∉ xs.take k)) (fun i wr => xs.length - (intOf i).toNat)
  case atStart => exact ⟨0, Nat.zero_le _, rfl, Below.refl _ _, by simp [Hid]⟩
  case round =>
    obtain ⟨k, hk, rfl, hbl, HS⟩ := hrel
    by_cases hlt : k < xs.length
    · obtain ⟨b, off, rfl, hb, hat⟩ := hx.cases.resolve_left (fun e => by simp [e] at hlt)
      obtain ⟨c0, _, _⟩ := int_at hat hbl hlt
      by_cases he : xs[k] = n
      · have HE : Hid ((k : Int) = (placeI xs n)) := by exact (idxOf_at hlt HS.out he).symm
        have ht : (xs[k] == n) = true := by simp [he]
        clear he HS
        go_wp2
        go_ret
        exact ⟨ret_int HE.out, hbl⟩
      · have ht : (xs[k] == n) = false := by simp [he]
        have HT : Hid (n ∉ xs.take (k + 1)) := not_mem_snoc hlt HS.out he
        clear he HS
        go_wp2
        go_round
        case rel => exact ⟨k + 1, by omega, by go_num, hbl, HT⟩
        case measure => simp [intOf]; omega
    · have HE : Hid (-1 = (placeI xs n)) := by
        have := HS.out
        rw [List.take_of_length_le (by omega)] at this
        simp [Hid, placeI, this]
      clear HS
      go_wp2
      go_ret
      exact ⟨ret_int HE.out, hbl⟩

set_option maxHeartbeats 400000 in
theorem refsame_any (a : Option Addr) (cap : Nat) (a' : Option Addr) (cap' : Nat) (w : World) (xs ys : List Cel) (hx : Row w a cap xs) (hy : Row w a' cap' ys) :
    Calls Try.prog 17 #[.slice a xs.length cap, .slice a' ys.length cap'] w fun e w' => e = .returned (.bool (decide (xs = ys))) ∧ Below w.heap.size w w' := by
  have hm := hx.max
  have hm2 := hx.le
  have hm3 := hy.max
  have hm4 := hy.le
  by_cases hlen : xs.length = ys.length
  · have hlt2 : ys.length ≤ xs.length := by omega
    have hlt3 : xs.length ≤ ys.length := by omega
    have hne : ((xs.length : Int) != (ys.length : Int)) = false := by simp [hlen]
    clear hlen
    go_enter Try.func17, Try.ntmps17
    go_wp2
    go_loopw [5] (fun i wr => ∃ k : Nat, k ≤ xs.length ∧ i = .int .i64 k ∧ Below w.heap.size w wr ∧ Hid (xs.take k = ys.take k)) (fun i wr => xs.length - (intOf i).toNat)
    case atStart => exact ⟨0, Nat.zero_le _, rfl, Below.refl _ _, rfl⟩
    case round =>
      obtain ⟨k, hk, rfl, hbl, HS⟩ := hrel
      by_cases hlt : k < xs.length
      · have hlt' : k < ys.length := by omega
        obtain ⟨b, off, rfl, hb, hat⟩ := hx.cases.resolve_left (fun e => by simp [e] at hlt)
        obtain ⟨b', off', rfl, hb', hat'⟩ := hy.cases.resolve_left (fun e => by simp [e] at hlt')
        obtain ⟨c0, c1, c2, hf⟩ := cel_at hat hbl hlt
        obtain ⟨d0, d1, d2, hf2⟩ := cel_at hat' hbl hlt'
        by_cases he : xs[k] = ys[k]
        · have HT : Hid (xs.take (k + 1) = ys.take (k + 1)) := take_eq_snoc HS.out hlt hlt' he
          have hd : decide (xs[k] = ys[k]) = true := decide_eq_true he
          have hne := fun w => run_neq_cel xs[k] ys[k] w
          rw [hd] at hne
          clear he HS hd
          go_wp2
          go_quiet (fail)
          go_wp2
          go_round
          case rel => exact ⟨k + 1, by omega, by go_num, ⟨hbl.os, hbl.tape, hbl.output, hbl.size, hbl.block⟩, HT⟩
          case measure => simp [intOf]; omega
        · have HE : Hid (false = decide (xs = ys)) := by
            rw [Hid, decide_eq_false]; intro e; subst e; exact he rfl
          have hd : decide (xs[k] = ys[k]) = false := decide_eq_false he
          have hne := fun w => run_neq_cel xs[k] ys[k] w
          rw [hd] at hne
          clear he HS hd
          go_wp2
          go_quiet (fail)
          go_wp2
          go_ret
          exact ⟨ret_bool HE.out, ⟨hbl.os, hbl.tape, hbl.output, hbl.size, hbl.block⟩⟩
      · have HE : Hid (true = decide (xs = ys)) := by
          rw [Hid, decide_eq_true (take_all HS.out (by omega) (by omega))]
        clear HS
        go_wp2
        go_ret
        exact ⟨ret_bool HE.out, hbl⟩
  · have HE : Hid (false = decide (xs = ys)) := by
      rw [Hid, decide_eq_false]; intro e; rw [e] at hlen; exact hlen rfl
    have hne : ((xs.length : Int) != (ys.length : Int)) = true := by simp; omega
    clear hlen
    go_enter Try.func17, Try.ntmps17
    go_wp2
    go_ret
    exact ⟨ret_bool HE.out, Below.refl _ _⟩

set_option maxHeartbeats 400000 in
theorem same_any (a : Option Addr) (cap : Nat) (a' : Option Addr) (cap' : Nat) (w : World) (xs ys : List Cel) (hx : Row w a cap xs) (hy : Row w a' cap' ys) :
    Calls Try.prog 16 #[.slice a xs.length cap, .slice a' ys.length cap'] w fun e w' => e = .returned (.bool (decide (xs = ys))) ∧ Below w.heap.size w w' := by
  have hm := hx.max
  have hm2 := hx.le
  have hm3 := hy.max
  have hm4 := hy.le
  by_cases hlen : xs.length = ys.length
  · have hlt2 : ys.length ≤ xs.length := by omega
    have hlt3 : xs.length ≤ ys.length := by omega
    have hne : ((xs.length : Int) != (ys.length : Int)) = false := by simp [hlen]
    clear hlen
    go_enter Try.func16, Try.ntmps16
    go_wp2
    go_loopw [13] (fun i wr => ∃ k : Nat, k ≤ xs.length ∧ i = .int .i64 k ∧ Below w.heap.size w wr ∧ Hid (xs.take k = ys.take k)) (fun i wr => xs.length - (intOf i).toNat)
    case atStart => exact ⟨0, Nat.zero_le _, rfl, Below.refl _ _, rfl⟩
    case round =>
      obtain ⟨k, hk, rfl, hbl, HS⟩ := hrel
      by_cases hlt : k < xs.length
      · have hlt' : k < ys.length := by omega
        obtain ⟨b, off, rfl, hb, hat⟩ := hx.cases.resolve_left (fun e => by simp [e] at hlt)
        obtain ⟨b', off', rfl, hb', hat'⟩ := hy.cases.resolve_left (fun e => by simp [e] at hlt')
        obtain ⟨c0, c1, c2, hf⟩ := cel_at hat hbl hlt
        obtain ⟨d0, d1, d2, hf2⟩ := cel_at hat' hbl hlt'
        by_cases he : xs[k] = ys[k]
        · have HT : Hid (xs.take (k + 1) = ys.take (k + 1)) := take_eq_snoc HS.out hlt hlt' he
          have hd : decide (xs[k] = ys[k]) = true := decide_eq_true he
          have hne := fun w => run_neq_cel xs[k] ys[k] w
          rw [hd] at hne
          clear he HS hd
          go_wp2
          go_quiet (fail)
          go_wp2
          go_round
          case rel => exact ⟨k + 1, by omega, by go_num, ⟨hbl.os, hbl.tape, hbl.output, hbl.size, hbl.block⟩, HT⟩
          case measure => simp [intOf]; omega
        · have HE : Hid (false = decide (xs = ys)) := by
            rw [Hid, decide_eq_false]; intro e; subst e; exact he rfl
          have hd : decide (xs[k] = ys[k]) = false := decide_eq_false he
          have hne := fun w => run_neq_cel xs[k] ys[k] w
          rw [hd] at hne
          clear he HS hd
          go_wp2
          go_quiet (fail)
          go_wp2
          go_ret
          exact ⟨ret_bool HE.out, ⟨hbl.os, hbl.tape, hbl.output, hbl.size, hbl.block⟩⟩
      · have HE : Hid (true = decide (xs = ys)) := by
          rw [Hid, decide_eq_true (take_all HS.out (by omega) (by omega))]
        clear HS
        go_wp2
        go_ret
        exact ⟨ret_bool HE.out, hbl⟩
  · have HE : Hid (false = decide (xs = ys)) := by
      rw [Hid, decide_eq_false]; intro e; rw [e] at hlen; exact hlen rfl
    have hne : ((xs.length : Int) != (ys.length : Int)) = true := by simp; omega
    clear hlen
    go_enter Try.func16, Try.ntmps16
    go_wp2
    go_ret
    exact ⟨ret_bool HE.out, Below.refl _ _⟩

set_option maxHeartbeats 400000 in
theorem ints_any (a : Option Addr) (cap : Nat) (a' : Option Addr) (cap' : Nat) (w : World) (xs ys : List Int) (hx : Row w a cap xs) (hy : Row w a' cap' ys) :
    Calls Try.prog 20 #[.slice a xs.length cap, .slice a' ys.length cap'] w fun e w' => e = .returned (.bool (decide (xs = ys))) ∧ Below w.heap.size w w' := by
  have hm := hx.max
  have hm2 := hx.le
  have hm3 := hy.max
  have hm4 := hy.le
  by_cases hlen : xs.length = ys.length
  · have hlt2 : ys.length ≤ xs.length := by omega
    have hlt3 : xs.length ≤ ys.length := by omega
    have hne : ((xs.length : Int) != (ys.length : Int)) = false := by simp [hlen]
    clear hlen
    go_enter Try.func20, Try.ntmps20
    go_wp2
    go_loopw [5] (fun i wr => ∃ k : Nat, k ≤ xs.length ∧ i = .int .i64 k ∧ Below w.heap.size w wr ∧ Hid (xs.take k = ys.take k)) (fun i wr => xs.length - (intOf i).toNat)
    case atStart => exact ⟨0, Nat.zero_le _, rfl, Below.refl _ _, rfl⟩
    case round =>
      obtain ⟨k, hk, rfl, hbl, HS⟩ := hrel
      by_cases hlt : k < xs.length
      · have hlt' : k < ys.length := by omega
        obtain ⟨b, off, rfl, hb, hat⟩ := hx.cases.resolve_left (fun e => by simp [e] at hlt)
        obtain ⟨b', off', rfl, hb', hat'⟩ := hy.cases.resolve_left (fun e => by simp [e] at hlt')
        obtain ⟨c0, _, _⟩ := int_at hat hbl hlt
        obtain ⟨d0, _, _⟩ := int_at hat' hbl hlt'
        by_cases he : xs[k] = ys[k]
        · have HT : Hid (xs.take (k + 1) = ys.take (k + 1)) := take_eq_snoc HS.out hlt hlt' he
          have hd : decide (xs[k] = ys[k]) = true := decide_eq_true he
          have hne : (xs[k] != ys[k]) = (!decide (xs[k] = ys[k])) := rfl
          rw [hd] at hne
          clear he HS hd
          go_wp2
          go_quiet (fail)
          go_wp2
          go_round
          case rel => exact ⟨k + 1, by omega, by go_num, ⟨hbl.os, hbl.tape, hbl.output, hbl.size, hbl.block⟩, HT⟩
          case measure => simp [intOf]; omega
        · have HE : Hid (false = decide (xs = ys)) := by
            rw [Hid, decide_eq_false]; intro e; subst e; exact he rfl
          have hd : decide (xs[k] = ys[k]) = false := decide_eq_false he
          have hne : (xs[k] != ys[k]) = (!decide (xs[k] = ys[k])) := rfl
          rw [hd] at hne
          clear he HS hd
          go_wp2
          go_quiet (fail)
          go_wp2
          go_ret
          exact ⟨ret_bool HE.out, ⟨hbl.os, hbl.tape, hbl.output, hbl.size, hbl.block⟩⟩
      · have HE : Hid (true = decide (xs = ys)) := by
          rw [Hid, decide_eq_true (take_all HS.out (by omega) (by omega))]
        clear HS
        go_wp2
        go_ret
        exact ⟨ret_bool HE.out, hbl⟩
  · have HE : Hid (false = decide (xs = ys)) := by
      rw [Hid, decide_eq_false]; intro e; rw [e] at hlen; exact hlen rfl
    have hne : ((xs.length : Int) != (ys.length : Int)) = true := by simp; omega
    clear hlen
    go_enter Try.func20, Try.ntmps20
    go_wp2
    go_ret
    exact ⟨ret_bool HE.out, Below.refl _ _⟩
end Go.Proofs.Ytkbgdpgmnigcbaa
