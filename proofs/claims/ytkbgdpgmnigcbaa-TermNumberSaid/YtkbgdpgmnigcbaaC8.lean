import Derived.Test.YtkbgdpgmnigcbaaC7
import Derived.Test.YtkbgdpgmnigcbaaCalm
import Derived.WalkLawsBesides
namespace Go.Proofs.Ytkbgdpgmnigcbaa
open Go.RowKit

set_option maxHeartbeats 400000 in
theorem isnanI_any (a : Int) (w : World) :
    Calls Try.prog 50 #[.int .i64 a] w fun e w' => e = .returned (.bool false) ∧ w = w' := by
  go_enter Try.func50, Try.ntmps50
  go_wp2
  go_ret
  exact ⟨rfl, rfl⟩
set_option maxHeartbeats 400000 in
theorem isnanS_any (s : ByteArray) (w : World) :
    Calls Try.prog 53 #[.string s] w fun e w' => e = .returned (.bool false) ∧ w = w' := by
  go_enter Try.func53, Try.ntmps53
  go_wp2
  go_ret
  exact ⟨rfl, rfl⟩
def cmpI (a b : Int) : Int := if a < b then -1 else if b < a then 1 else 0
set_option maxHeartbeats 400000 in
theorem cmpI_any (a b : Int) (w : World) :
    Calls Try.prog 45 #[.int .i64 a, .int .i64 b] w fun e w' => e = .returned (.int .i64 (cmpI a b)) ∧ w = w' := by
  go_enter Try.func45, Try.ntmps45
  go_wp2_with (go_at_call 50; refine (isnanI_any _ _).mono ?_; rintro e w' ⟨rfl, rfl⟩)
  all_goals
    go_ret
    refine ⟨ret_int ?_, rfl⟩
    unfold cmpI
    split <;> (try split) <;> omega
theorem bytesLess_irrefl (l : List UInt8) : Op.bytesLess l l = false := by
  induction l with
  | nil => rfl
  | cons a l ih => simp [Op.bytesLess, ih]
def cmpS (s t : ByteArray) : Int := if Op.bytesLess s.toList t.toList then -1 else if s = t then 0 else 1
def cellCmp (x y : Cel) : Int := if x.k = y.k then (if x.n = y.n then cmpS x.s y.s else cmpI x.n y.n) else cmpI x.k y.k
set_option maxHeartbeats 400000 in
theorem cmpS_any (s t : ByteArray) (w : World) :
    Calls Try.prog 49 #[.string s, .string t] w fun e w' => e = .returned (.int .i64 (cmpS s t)) ∧ w = w' := by
  go_enter Try.func49, Try.ntmps49
  go_wp2_with (go_at_call 53; refine (isnanS_any _ _).mono ?_; rintro e w' ⟨rfl, rfl⟩)
  · go_ret
    refine ⟨ret_int ?_, rfl⟩
    unfold cmpS; rw [if_pos (by assumption)]
  · have h1 : Op.bytesLess s.toList t.toList = false := by assumption
    have h2 : (!s.toList == t.toList) = true := by assumption
    go_ret
    refine ⟨ret_int ?_, rfl⟩
    simp [toList_inj] at h2
    simp [cmpS, h1, h2]
  · have h2 : (!s.toList == t.toList) = false := by assumption
    go_ret
    refine ⟨ret_int ?_, rfl⟩
    simp [toList_inj] at h2
    simp [cmpS, h2, bytesLess_irrefl]

set_option maxHeartbeats 400000 in
theorem order_any (x y : Cel) (w : World) :
    Calls Try.prog 44 #[x.v, y.v] w fun e w' => e = .returned (.int .i64 (cellCmp x y)) ∧ Below w.heap.size w w' := by
  obtain ⟨k, s, n⟩ := x
  obtain ⟨k', s', n'⟩ := y
  have hb := ((Below.refl w.heap.size w).new (.cells #[.int .i64 k, .string s, .int .i64 n] 40)).new (.cells #[.int .i64 k', .string s', .int .i64 n'] 40)
  dsimp only [Cel.v] at *
  go_enter Try.func44, Try.ntmps44
  go_wp2_with (first
    | (go_at_call 45; refine (cmpI_any _ _ _).mono ?_; rintro e w' ⟨rfl, rfl⟩)
    | (go_at_call 49; refine (cmpS_any _ _ _).mono ?_; rintro e w' ⟨rfl, rfl⟩))
  all_goals
    go_ret
    refine ⟨ret_int ?_, hb⟩
    simp_all [cellCmp]

def compP : List Cel → List Cel → Int
  | [], [] => 0
  | [], _ :: _ => -1
  | _ :: _, [] => 1
  | x :: xs, y :: ys => if x = y then compP xs ys else cellCmp x y
theorem compP_step {xs ys : List Cel} {k : Nat} (hx : k < xs.length) (hy : k < ys.length) : compP (xs.drop k) (ys.drop k) = if xs[k] = ys[k] then compP (xs.drop (k + 1)) (ys.drop (k + 1)) else cellCmp xs[k] ys[k] := by
  rw [List.drop_eq_getElem_cons hx, List.drop_eq_getElem_cons hy]; rfl
theorem compP_end {xs ys : List Cel} {k : Nat} (h : k = min xs.length ys.length) : compP (xs.drop k) (ys.drop k) = cmpI xs.length ys.length := by
  by_cases hx : xs.length ≤ k
  · rw [List.drop_eq_nil_of_le hx]
    by_cases hy : ys.length ≤ k
    · rw [List.drop_eq_nil_of_le hy]; unfold cmpI compP; rw [if_neg (by omega), if_neg (by omega)]
    · rw [List.drop_eq_getElem_cons (by omega : k < ys.length)]; unfold cmpI compP; rw [if_pos (by omega)]
  · have hy : ys.length ≤ k := by omega
    rw [List.drop_eq_nil_of_le hy, List.drop_eq_getElem_cons (by omega : k < xs.length)]; unfold cmpI compP; rw [if_neg (by omega), if_pos (by omega)]
theorem min_i (a b : Nat) : min (a : Int) b = ((min a b : Nat) : Int) := by omega

set_option maxHeartbeats 800000 in
theorem compare_any (a : Option Addr) (cap : Nat) (a' : Option Addr) (cap' : Nat) (w : World) (xs ys : List Cel) (hx : Row w a cap xs) (hy : Row w a' cap' ys) :
    Calls Try.prog 32 #[.slice a xs.length cap, .slice a' ys.length cap'] w fun e w' => e = .returned (.int .i64 (compP xs ys)) ∧ Below w.heap.size w w' := by
  have hm := hx.max
  have hm2 := hx.le
  have hm3 := hy.max
  have hm4 := hy.le
  have hle := Nat.lt_or_ge ys.length xs.length
  rcases hle with hle | hle
  all_goals
    go_enter Try.func32, Try.ntmps32
    go_wp2_with fail
    go_loopw [11] (fun i wr => ∃ k : Nat, k ≤ xs.length ∧ k ≤ ys.length ∧ i = .int .i64 k ∧ Below w.heap.size w wr ∧ Hid (compP xs ys = compP (xs.drop k) (ys.drop k))) (fun i wr => xs.length - (intOf i).toNat)
    case atStart => exact ⟨0, Nat.zero_le _, Nat.zero_le _, rfl, Below.refl _ _, rfl⟩
    case round =>
      obtain ⟨k, hk, hk', rfl, hbl, HS⟩ := hrel
      by_cases hlt : k < xs.length ∧ k < ys.length
      · obtain ⟨h1, h2⟩ := hlt
        obtain ⟨b, off, rfl, hb, hat⟩ := hx.cases.resolve_left (fun e => by simp [e] at h1)
        obtain ⟨b', off', rfl, hb', hat'⟩ := hy.cases.resolve_left (fun e => by simp [e] at h2)
        obtain ⟨c0, c1, c2, hf⟩ := cel_at hat hbl h1
        obtain ⟨d0, d1, d2, hf2⟩ := cel_at hat' hbl h2
        have hst := compP_step h1 h2
        have hne := fun w => run_neq_cel xs[k] ys[k] w
        by_cases he : xs[k] = ys[k]
        · have HT : Hid (compP xs ys = compP (xs.drop (k + 1)) (ys.drop (k + 1))) := by rw [Hid, HS.out, hst, if_pos he]
          rw [decide_eq_true he] at hne
          clear he HS hst
          go_wp2
          go_quiet (fail)
          go_wp2
          go_round
          case rel => exact ⟨k + 1, by omega, by omega, by go_num, ⟨hbl.os, hbl.tape, hbl.output, hbl.size, hbl.block⟩, HT⟩
          case measure => simp [intOf]; omega
        · have HT : Hid (compP xs ys = cellCmp xs[k] ys[k]) := by rw [Hid, HS.out, hst, if_neg he]
          rw [decide_eq_false he] at hne
          clear he HS hst
          go_wp2
          go_quiet (fail)
          have e0 : ∀ x : Later (wr.drewN nq), x.w'.cell? ⟨b, off + k * 3, none⟩ = some (.int .i64 xs[k].k) := keepL (w := wr.drewN nq) c0
          have e1 : ∀ x : Later (wr.drewN nq), x.w'.cell? ⟨b, off + k * 3 + 1, none⟩ = some (.string xs[k].s) := keepL (w := wr.drewN nq) c1
          have e2 : ∀ x : Later (wr.drewN nq), x.w'.cell? ⟨b, off + k * 3 + 2, none⟩ = some (.int .i64 xs[k].n) := keepL (w := wr.drewN nq) c2
          have f0 : ∀ x : Later (wr.drewN nq), x.w'.cell? ⟨b', off' + k * 3, none⟩ = some (.int .i64 ys[k].k) := keepL (w := wr.drewN nq) d0
          have f1 : ∀ x : Later (wr.drewN nq), x.w'.cell? ⟨b', off' + k * 3 + 1, none⟩ = some (.string ys[k].s) := keepL (w := wr.drewN nq) d1
          have f2 : ∀ x : Later (wr.drewN nq), x.w'.cell? ⟨b', off' + k * 3 + 2, none⟩ = some (.int .i64 ys[k].n) := keepL (w := wr.drewN nq) d2
          go_wp2
          refine wp_region_calm (by kernel_rfl) (by kernel_rfl) ?_
          repeat (go_big_quiet_step (exact Calls.calm_of (order_any xs[k] ys[k] _)))
          refine wpQuiet_nil ?_
          rintro _ ⟨x, rfl⟩
          go_wp2
          go_ret
          exact ⟨ret_int HT.out.symm, (Below.then (b := wr.drewN nq) ⟨hbl.os, hbl.tape, hbl.output, hbl.size, hbl.block⟩ x.ok)⟩
      · have HT : Hid (compP xs ys = cmpI xs.length ys.length) := by rw [Hid, HS.out, compP_end (by omega)]
        clear HS
        go_wp2_with (go_at_call 45; refine (cmpI_any _ _ _).mono ?_; rintro e w' ⟨rfl, rfl⟩)
        go_ret
        exact ⟨ret_int HT.out.symm, hbl⟩
end Go.Proofs.Ytkbgdpgmnigcbaa
