import Derived.Test.YtkbgdpgmnigcbaaC3
namespace Go.Proofs.Ytkbgdpgmnigcbaa
open Go.RowKit

theorem Try.infoCell : (Try.prog.info? 40).map (fun i => (i.zero, i.size, i.bytes)) = some (some (.agg #[.int .i64 0, .string ⟨#[]⟩, .int .i64 0]), 3, 32) := by kernel_rfl

set_option maxHeartbeats 400000 in
theorem clone_any (a : Option Addr) (cap : Nat) (w : World) (xs : List Cel) (hx : Row w a cap xs) (hl : xs.length ≤ 1000000) :
    Calls Try.prog 42 #[.slice a xs.length cap] w fun e w' => ∃ v, e = .returned v ∧ w'.ownsRow w.heap.size 40 3 v xs.length (flat xs) ∧ Below w.heap.size w w' := by
  have hsrc := hx.src
  cases a with
  | none =>
    have h0 := (hsrc.nil rfl).1
    obtain rfl : xs = [] := List.eq_nil_of_length_eq_zero h0
    have hc := hx.nil rfl
    subst hc
    have hnil := fun w' : World => Lib.run_eql_slice_nil (P := Try.prog) w' 22 40 none 0 0 0 0 Try.underlying22
    go_enter Try.func42, Try.ntmps42
    go_wp2
    go_ret
    exact ⟨_, rfl, World.ownsRow_nil _ _ _ _, Below.refl _ _⟩
  | some ad =>
    have hnil := fun w' : World => Lib.run_eql_slice_nil (P := Try.prog) w' 22 40 (some ad) xs.length cap 0 0 Try.underlying22
    have hm := World.ownsRow_made (base := w.heap.size) (e := 40) (size := 3) w #[] 0 (Nat.le_refl _) (by unfold maxLen; omega) rfl
    have hb0 := (Below.refl w.heap.size w).new (.cells #[] 40)
    have hs : Src (w.alloc (.cells #[] 40)) 3 (some ad) xs.length cap (flat xs) := (hx.below hb0).src
    go_enter Try.func42, Try.ntmps42
    go_wp2_with (at_builtin; refine wpList_app rfl _ _ 22 rfl w.heap.size 40 3 32 _ Try.underlying22 Try.infoCell rfl (by decide) (by decide) _ 0 [] rfl hm (some ad) xs.length cap (flat xs) rfl hs (by omega) (by simp) ?_; intro v' w' hown _ hb1)
    go_ret
    refine ⟨_, rfl, by simpa using hown, ?_⟩
    exact hb0.trans hb1
theorem clone_any' (n : Nat) (a : Option Addr) (cap : Nat) (w : World) (xs : List Cel) (hn : n = xs.length) (hx : Row w a cap xs) (hl : xs.length ≤ 1000000) :
    Calls Try.prog 42 #[.slice a n cap] w fun e w' => ∃ v, e = .returned v ∧ w'.ownsRow w.heap.size 40 3 v xs.length (flat xs) ∧ Below w.heap.size w w' := by
  subst hn; exact clone_any a cap w xs hx hl
end Go.Proofs.Ytkbgdpgmnigcbaa
