import Derived.Test.YtinfefmoiimomaaDoorVL
import Derived.Test.YtinfefmoiimomaaDoorCalm
import Derived.Deep.RegionHeld3
namespace Go.Proofs.YtinfefmoiimomaaDoor
open Go.RowKit

/-- a block that stands whole -/
structure Res4 (w : World) (g : Nat) (a b c d : Value) : Prop where
  c0 : w.cell? ⟨g, 0, none⟩ = some a
  c1 : w.cell? ⟨g, 1, none⟩ = some b
  c2 : w.cell? ⟨g, 2, none⟩ = some c
  c3 : w.cell? ⟨g, 3, none⟩ = some d
  f0 : w.frozen? ⟨g, 0, none⟩ = false
  f1 : w.frozen? ⟨g, 1, none⟩ = false
  f2 : w.frozen? ⟨g, 2, none⟩ = false
  f3 : w.frozen? ⟨g, 3, none⟩ = false
theorem Res4.new (w : World) (a b c d : Value) (T : Nat) : Res4 (w.alloc (.cells #[a, b, c, d] T)) w.heap.size a b c d :=
  ⟨by simp [go_sem], by simp [go_sem], by simp [go_sem], by simp [go_sem], by simp [go_sem], by simp [go_sem], by simp [go_sem], by simp [go_sem]⟩
theorem Res4.below {w w' : World} {g : Nat} {a b c d : Value} (h : Res4 w g a b c d) (hb : Below w.heap.size w w') : Res4 w' g a b c d :=
  have hl := cell_lt h.c0
  ⟨keep h.c0 hb, keep h.c1 hb, keep h.c2 hb, keep h.c3 hb, (hb.frozen (p := ⟨g, 0, none⟩) hl).trans h.f0, (hb.frozen (p := ⟨g, 1, none⟩) hl).trans h.f1, (hb.frozen (p := ⟨g, 2, none⟩) hl).trans h.f2, (hb.frozen (p := ⟨g, 3, none⟩) hl).trans h.f3⟩
theorem below_set4 {w w1 : World} (h : Below w.heap.size w w1) {g : Nat} (hg : w.heap.size ≤ g) (a b c d : Value) :
    Below w.heap.size w ((((w1.setCell ⟨g, 0, none⟩ a).setCell ⟨g, 1, none⟩ b).setCell ⟨g, 2, none⟩ c).setCell ⟨g, 3, none⟩ d) :=
  (((h.setCell hg _).setCell hg _).setCell hg _).setCell hg _

theorem token_any (k n : Int) (s : ByteArray) (w : World) (hs : s.size ≤ 1000000) :
    Calls Tryd.prog 59 #[.int .i64 k, .string s, .int .i64 n] w fun e w' => e = .returned (.agg #[.int .i64 k, .string s, .int .i64 n, .int .i64 0]) ∧ Below w.heap.size w w' := by
  go_enter Tryd.func59, Tryd.ntmps59
  go_wp2_with fail
  refine (cloneS_any s _ hs).mono ?_; rintro e w1 ⟨rfl, hb⟩
  obtain ⟨c0, c1, c2, c3, f0, f1, f2, f3⟩ := (Res4.new w (.int .i64 0) (.string ⟨#[]⟩) (.int .i64 0) (.int .i64 0) 30).below hb
  have hb0 := ((Below.refl w.heap.size w).new (.cells #[.int .i64 0, .string ⟨#[]⟩, .int .i64 0, .int .i64 0] 30)).then hb
  go_wp2
  refine bodyPost_ret (v := .agg #[.int .i64 k, .string s, .int .i64 n, .int .i64 0]) (by simp [results, Tryd.results59, go_sem, c0, c1, c2, c3]) rfl ⟨rfl, ?_⟩
  exact below_set4 hb0 (Nat.le_refl _) _ _ _ _
end Go.Proofs.YtinfefmoiimomaaDoor
