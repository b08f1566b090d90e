import Derived.Test.YtinfefmoiimomaaDoorV15
import Derived.Test.YtinfefmoiimomaaDoorVP1
namespace Go.Proofs.YtinfefmoiimomaaDoor
open Go.RowKit

theorem tok_at {w wr : World} {b off cap : Nat} {xs : List Tok} (h : Row w (some ⟨b, off, none⟩) cap xs) (hb : Below w.heap.size w wr) {k : Nat} (hk : k < xs.length) : TokAt wr b (off + k * 4) xs[k] :=
  h.tok hb (List.getElem?_eq_getElem hk)
set_option maxHeartbeats 1600000 in
set_option maxRecDepth 20000 in
theorem same_yes (a : Option Addr) (cap : Nat) (a' : Option Addr) (cap' d m : Nat) (w : World) (xs ys : List Tok) (hx : Row w a cap xs) (hy : Row w a' cap' ys) (hm : m = ys.length) (h : xs.map (Tok.add d) = ys) (hd : d ≤ 1000000) (hp : ∀ t ∈ xs, 0 ≤ t.p ∧ t.p ≤ 1000000) (hl : xs.length ≤ 1000000) :
    Calls Tryd.prog 14 #[.slice a xs.length cap, .slice a' m cap', .int .i64 (d : Int)] w fun e w' => e = .returned (.bool true) ∧ Below w.heap.size w w' := by
  have hlen : xs.length = ys.length := by rw [← h]; simp
  obtain rfl : m = xs.length := by omega
  have H := mkHid h
  have HP := mkHid hp
  have HLEN := mkHid hlen
  have HX := mkHid hx
  have HY := mkHid hy
  clear h hp hlen hx hy hm
  go_enter Tryd.func14, Tryd.ntmps14
  go_wp2
  go_loopw [7] (fun i wr => ∃ k : Nat, k ≤ xs.length ∧ i = .int .i64 k ∧ Below w.heap.size w wr) (fun i wr => xs.length - (intOf i).toNat)
  case atStart => exact ⟨0, Nat.zero_le _, rfl, Below.refl _ _⟩
  case round =>
    obtain ⟨k, hk, rfl, hbl⟩ := hrel
    by_cases hlt : k < xs.length
    · have hlt2 : k < ys.length := by have := HLEN.out; omega
      obtain ⟨b, off, rfl, _⟩ := HX.out.cases.resolve_left (fun e => by simp [e] at hlt)
      obtain ⟨b', off', rfl, _⟩ := HY.out.cases.resolve_left (fun e => by simp [e] at hlt2)
      obtain ⟨c0, c1, c2, c3, hf⟩ := tok_at HX.out hbl hlt
      obtain ⟨p1, p2⟩ := HP.out xs[k] (List.getElem_mem hlt)
      have hyk : ys[k] = Tok.add d xs[k] := by
        have := H.out
        subst this
        simp
      have hbn := hbl.new (.cells #[.int .i64 xs[k].k, .string xs[k].s, .int .i64 xs[k].n, .int .i64 (xs[k].p + d)] 30)
      have e0 := tok_at HY.out hbl hlt2
      rw [hyk] at e0
      have e0' := e0.keeps (Keeps.of ((Below.refl _ _).new (.cells #[.int .i64 xs[k].k, .string xs[k].s, .int .i64 xs[k].n, .int .i64 (xs[k].p + d)] 30)))
      obtain ⟨d0, d1, d2, d3, _⟩ := e0'
      simp only [Tok.add] at d0 d1 d2 d3
      have hne := fun W => run_neq_tok ⟨xs[k].k, xs[k].s, xs[k].n, xs[k].p + d⟩ ⟨xs[k].k, xs[k].s, xs[k].n, xs[k].p + d⟩ W
      simp only [decide_true, Bool.not_true] at hne
      have hd0 : (0 : Int) ≤ (d : Int) := by omega
      clear e0 hyk
      go_wp2
      go_quiet (fail)
      go_wp2
      go_roundw
      case rel => exact ⟨k + 1, by omega, by go_num, ⟨hbn.os, hbn.tape, hbn.output, hbn.size, hbn.block⟩⟩
      case measure => simp [intOf]; omega
    · go_wp2
      go_ret
      exact ⟨rfl, hbl⟩
end Go.Proofs.YtinfefmoiimomaaDoor
