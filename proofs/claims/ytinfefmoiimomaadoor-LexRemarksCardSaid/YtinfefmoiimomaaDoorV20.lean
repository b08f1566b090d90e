import Derived.Test.YtinfefmoiimomaaDoorV17
import Derived.Test.YtinfefmoiimomaaDoorVP4
namespace Go.Proofs.YtinfefmoiimomaaDoor
open Go.RowKit

set_option maxHeartbeats 1600000 in
set_option maxRecDepth 20000 in
theorem alike_yes (a : Option Addr) (cap : Nat) (a' : Option Addr) (cap' m : Nat) (w : World) (xs ys : List Tok) (hx : Row w a cap xs) (hy : Row w a' cap' ys) (hm : m = ys.length) (h : xs.map Tok.bare = ys.map Tok.bare) (hl : xs.length ≤ 1000000) :
    Calls Tryd.prog 16 #[.slice a xs.length cap, .slice a' m cap'] w fun e w' => e = .returned (.bool true) ∧ Below w.heap.size w w' := by
  have hlen : xs.length = ys.length := by have := congrArg List.length h; simpa using this
  obtain rfl : m = xs.length := by omega
  have H := mkHid h
  have HLEN := mkHid hlen
  have HX := mkHid hx
  have HY := mkHid hy
  clear h hlen hx hy hm
  go_enter Tryd.func16, Tryd.ntmps16
  go_wp2
  go_loopw [5] (fun i wr => ∃ k : Nat, k ≤ xs.length ∧ i = .int .i64 k ∧ Below w.heap.size w wr) (fun i wr => xs.length - (intOf i).toNat)
  case atStart => exact ⟨0, Nat.zero_le _, rfl, Below.refl _ _⟩
  case round =>
    obtain ⟨k, hk, rfl, hbl⟩ := hrel
    by_cases hlt : k < xs.length
    · have hlt2 : k < ys.length := by have := HLEN.out; omega
      obtain ⟨b, off, rfl, _⟩ := HX.out.cases.resolve_left (fun e => by simp [e] at hlt)
      obtain ⟨b', off', rfl, _⟩ := HY.out.cases.resolve_left (fun e => by simp [e] at hlt2)
      obtain ⟨c0, c1, c2, c3, hf⟩ := tok_at HX.out hbl hlt
      have hyk : ys[k] = ⟨xs[k].k, xs[k].s, xs[k].n, ys[k].p⟩ := by
        have h1 : (xs.map Tok.bare)[k]? = (ys.map Tok.bare)[k]? := by rw [H.out]
        rw [List.getElem?_map, List.getElem?_map, List.getElem?_eq_getElem hlt, List.getElem?_eq_getElem hlt2] at h1
        simp only [Option.map_some, Option.some.injEq, Tok.bare, Tok.mk.injEq] at h1
        obtain ⟨e1, e2, e3, _⟩ := h1
        rw [e1, e2, e3]
      obtain ⟨z, hz⟩ : ∃ z, z = ys[k].p := ⟨_, rfl⟩
      rw [← hz] at hyk
      have e0 := tok_at HY.out hbl hlt2
      rw [hyk] at e0
      have hbz := hbl.new (.cells #[.int .i64 xs[k].k, .string xs[k].s, .int .i64 xs[k].n, .int .i64 xs[k].p] 30)
      have hbn := hbl.new (.cells #[.int .i64 xs[k].k, .string xs[k].s, .int .i64 xs[k].n, .int .i64 z] 30)
      have e0' := e0.keeps (Keeps.of ((Below.refl _ _).new (.cells #[.int .i64 xs[k].k, .string xs[k].s, .int .i64 xs[k].n, .int .i64 z] 30)))
      have e0'' := e0.keeps (Keeps.of ((Below.refl _ _).new (.cells #[.int .i64 xs[k].k, .string xs[k].s, .int .i64 xs[k].n, .int .i64 xs[k].p] 30)))
      obtain ⟨d0, d1, d2, d3, _⟩ := e0'
      obtain ⟨_, _, _, g3, _⟩ := e0''
      simp only at d0 d1 d2 d3 g3
      have hne := fun W => run_neq_tok ⟨xs[k].k, xs[k].s, xs[k].n, z⟩ ⟨xs[k].k, xs[k].s, xs[k].n, z⟩ W
      simp only [decide_true, Bool.not_true] at hne
      clear e0 hyk hz hbz
      go_wp2
      go_quiet (fail)
      go_wp2
      go_roundw
      case rel => exact ⟨k + 1, by omega, by go_num, ⟨hbn.os, hbn.tape, hbn.output, hbn.size, hbn.block⟩⟩
      case measure => simp [intOf]; omega
    · go_wp2
      go_ret
      exact ⟨rfl, hbl⟩
theorem alike_yes2 {a : Option Addr} {cap : Nat} {a' : Option Addr} {cap' n m : Nat} {w : World} {xs ys : List Tok} (hn : n = xs.length) (hx : Row w a cap xs) (hy : Row w a' cap' ys) (hm : m = ys.length) (h : xs.map Tok.bare = ys.map Tok.bare) (hl : xs.length ≤ 1000000) :
    Calls Tryd.prog 16 #[.slice a n cap, .slice a' m cap'] w fun e w' => e = .returned (.bool true) ∧ Below w.heap.size w w' := by
  subst hn; exact alike_yes a cap a' cap' m w xs ys hx hy hm h hl

/-- some blanks -/
def wideL : Nat → List UInt8
  | 0 => []
  | k + 1 => wideL k ++ [32, 9, 13, 10]
def wideS (k : Nat) : ByteArray := mkB (wideL k)
theorem wideS_succ (k : Nat) : wideS k ++ ⟨#[32, 9, 13, 10]⟩ = wideS (k + 1) := by
  apply ByteArray.ext
  simp [wideS, wideL, mkB]
theorem wide_blank (k : Nat) : (wideL k).all blankB = true := by
  induction k with
  | zero => rfl
  | succ k ih => rw [wideL, List.all_append, ih]; decide
theorem wide_len (k : Nat) : (wideL k).length = 4 * k := by
  induction k with
  | zero => rfl
  | succ k ih => rw [wideL, List.length_append, ih]; simp; omega
end Go.Proofs.YtinfefmoiimomaaDoor
