import Derived.Test.YtinfefmoiimomaaDoorV14
namespace Go.Proofs.YtinfefmoiimomaaDoor
open Go.RowKit

theorem LexOut.ok {w' : World} {e : Ending} {r : Res} {ts : List Tok} (h : LexOut w' e r) (hr : r = .ok ts) : ∃ a cap, e = .returned (.tuple #[.slice a ts.length cap, .int .i64 0, .int .i64 0]) ∧ Row w' a cap ts ∧ Head a cap := by subst hr; exact h
theorem LexOut.err {w' : World} {e : Ending} {r : Res} {p : Nat} {er : Int} (h : LexOut w' e r) (hr : r = .error (p, er)) : e = .returned (.tuple #[.slice none 0 0, .int .i64 (p : Int), .int .i64 er]) := by subst hr; exact h
def headT0 : List Tok := [⟨1, ⟨#[112]⟩, 0, 0⟩, ⟨5, ⟨#[40]⟩, 0, 1⟩, ⟨2, ⟨#[88, 49]⟩, 0, 2⟩, ⟨5, ⟨#[41]⟩, 0, 4⟩, ⟨4, ⟨#[58, 45]⟩, 0, 6⟩, ⟨1, ⟨#[105, 116, 32, 105, 115]⟩, 0, 9⟩, ⟨4, ⟨#[61]⟩, 0, 16⟩, ⟨3, ⟨#[48, 55]⟩, 7, 17⟩, ⟨6, ⟨#[46]⟩, 0, 19⟩, ⟨5, ⟨#[124]⟩, 0, 26⟩]
theorem headE0 : lexL (⟨#[112, 40, 88, 49, 41, 32, 58, 45, 32, 39, 105, 116, 32, 105, 115, 39, 61, 48, 55, 46, 32, 37, 32, 115, 111, 10, 124]⟩ : ByteArray).data.toList = .ok headT0 := by kernel_rfl
theorem headC0 (w : World) (hw : LibVars w) : Calls Tryd.prog 12 #[.string ⟨#[112, 40, 88, 49, 41, 32, 58, 45, 32, 39, 105, 116, 32, 105, 115, 39, 61, 48, 55, 46, 32, 37, 32, 115, 111, 10, 124]⟩] w fun e w' => ∃ b off cap, e = .returned (.tuple #[.slice (some ⟨b, off, none⟩) 10 cap, .int .i64 0, .int .i64 0]) ∧ Row w' (some ⟨b, off, none⟩) cap headT0 ∧ Below w.heap.size w w' :=
  (lexAll_any _ w (by decide) hw).mono fun e w' ⟨h, hb⟩ => by
    obtain ⟨a, cap, he, hr, _⟩ := h.ok headE0
    obtain ⟨b, off, rfl, _⟩ := hr.cases.resolve_left (fun e => by simp [headT0] at e)
    exact ⟨b, off, cap, he, hr, hb⟩
def headT1 : List Tok := [⟨1, ⟨#[97]⟩, 0, 0⟩, ⟨4, ⟨#[46]⟩, 0, 1⟩, ⟨1, ⟨#[98]⟩, 0, 2⟩, ⟨6, ⟨#[46]⟩, 0, 3⟩]
theorem headE1 : lexL (⟨#[97, 46, 98, 46]⟩ : ByteArray).data.toList = .ok headT1 := by kernel_rfl
theorem headC1 (w : World) (hw : LibVars w) : Calls Tryd.prog 12 #[.string ⟨#[97, 46, 98, 46]⟩] w fun e w' => ∃ b off cap, e = .returned (.tuple #[.slice (some ⟨b, off, none⟩) 4 cap, .int .i64 0, .int .i64 0]) ∧ Row w' (some ⟨b, off, none⟩) cap headT1 ∧ Below w.heap.size w w' :=
  (lexAll_any _ w (by decide) hw).mono fun e w' ⟨h, hb⟩ => by
    obtain ⟨a, cap, he, hr, _⟩ := h.ok headE1
    obtain ⟨b, off, rfl, _⟩ := hr.cases.resolve_left (fun e => by simp [headT1] at e)
    exact ⟨b, off, cap, he, hr, hb⟩
theorem headF0 : lexL (⟨#[97, 98, 32, 195, 169]⟩ : ByteArray).data.toList = .error (3, 40) := by kernel_rfl
theorem headD0 (w : World) (hw : LibVars w) : Calls Tryd.prog 12 #[.string ⟨#[97, 98, 32, 195, 169]⟩] w fun e w' => e = .returned (.tuple #[.slice none 0 0, .int .i64 3, .int .i64 40]) ∧ Below w.heap.size w w' :=
  (lexAll_any _ w (by decide) hw).mono fun e w' ⟨h, hb⟩ => ⟨h.err headF0, hb⟩
theorem headF1 : lexL (⟨#[32, 39, 120]⟩ : ByteArray).data.toList = .error (1, 41) := by kernel_rfl
theorem headD1 (w : World) (hw : LibVars w) : Calls Tryd.prog 12 #[.string ⟨#[32, 39, 120]⟩] w fun e w' => e = .returned (.tuple #[.slice none 0 0, .int .i64 1, .int .i64 41]) ∧ Below w.heap.size w w' :=
  (lexAll_any _ w (by decide) hw).mono fun e w' ⟨h, hb⟩ => ⟨h.err headF1, hb⟩
theorem headF2 : lexL (⟨#[51, 48, 48, 48, 48, 48, 48, 48, 48, 48]⟩ : ByteArray).data.toList = .error (0, 2) := by kernel_rfl
theorem headD2 (w : World) (hw : LibVars w) : Calls Tryd.prog 12 #[.string ⟨#[51, 48, 48, 48, 48, 48, 48, 48, 48, 48]⟩] w fun e w' => e = .returned (.tuple #[.slice none 0 0, .int .i64 0, .int .i64 2]) ∧ Below w.heap.size w w' :=
  (lexAll_any _ w (by decide) hw).mono fun e w' ⟨h, hb⟩ => ⟨h.err headF2, hb⟩
set_option maxHeartbeats 3200000 in
set_option maxRecDepth 100000 in
theorem head_any (w : World) (hw : LibVars w) : Calls Tryd.prog 11 #[] w fun e w' => e = .returned (.bool true) ∧ Below w.heap.size w w' := by
  go_enter Tryd.func11, Tryd.ntmps11
  go_wp2_with fail
  refine (headC0 _ hw).mono ?_; rintro e w1 ⟨b, off, cap, rfl, hr, hb1⟩
  replace hw := hw.below hb1
  go_wp2_with fail
  refine (headD0 _ hw).mono ?_; rintro e w2 ⟨rfl, hb2⟩
  replace hw := hw.below hb2
  go_wp2_with fail
  refine (headD1 _ hw).mono ?_; rintro e w3 ⟨rfl, hb3⟩
  replace hw := hw.below hb3
  go_wp2_with fail
  refine (headD2 _ hw).mono ?_; rintro e w4 ⟨rfl, hb4⟩
  replace hw := hw.below hb4
  go_wp2_with fail
  refine (headC1 _ hw).mono ?_; rintro e w5 ⟨b', off', cap', rfl, hr', hb5⟩
  have hb := ((hb2.then hb3).then hb4).then hb5
  obtain ⟨c00, c01, c02, c03, _⟩ := hr.tok hb (i := 0) (t := ⟨1, ⟨#[112]⟩, 0, 0⟩) rfl
  obtain ⟨c20, c21, c22, c23, _⟩ := hr.tok hb (i := 2) (t := ⟨2, ⟨#[88, 49]⟩, 0, 2⟩) rfl
  obtain ⟨c40, c41, c42, c43, _⟩ := hr.tok hb (i := 4) (t := ⟨4, ⟨#[58, 45]⟩, 0, 6⟩) rfl
  obtain ⟨c50, c51, c52, c53, _⟩ := hr.tok hb (i := 5) (t := ⟨1, ⟨#[105, 116, 32, 105, 115]⟩, 0, 9⟩) rfl
  obtain ⟨c70, c71, c72, c73, _⟩ := hr.tok hb (i := 7) (t := ⟨3, ⟨#[48, 55]⟩, 7, 17⟩) rfl
  obtain ⟨c80, c81, c82, c83, _⟩ := hr.tok hb (i := 8) (t := ⟨6, ⟨#[46]⟩, 0, 19⟩) rfl
  obtain ⟨c90, c91, c92, c93, _⟩ := hr.tok hb (i := 9) (t := ⟨5, ⟨#[124]⟩, 0, 26⟩) rfl
  obtain ⟨d10, d11, d12, d13, _⟩ := hr'.tok (Below.refl _ _) (i := 1) (t := ⟨4, ⟨#[46]⟩, 0, 1⟩) rfl
  obtain ⟨d30, d31, d32, d33, _⟩ := hr'.tok (Below.refl _ _) (i := 3) (t := ⟨6, ⟨#[46]⟩, 0, 3⟩) rfl
  simp only [Nat.reduceMul, Nat.zero_mul, Nat.one_mul, Nat.add_zero, Nat.add_assoc, Nat.reduceAdd] at c00 c01 c02 c03 c20 c21 c22 c23 c40 c41 c42 c43 c50 c51 c52 c53 c70 c71 c72 c73 c80 c81 c82 c83 c90 c91 c92 c93 d10 d11 d12 d13 d30 d31 d32 d33
  have hbb := hb1.then hb
  clear hr hr' hw hb1 hb2 hb3 hb4 hb5 hb
  go_wp2
  go_ret
  exact ⟨rfl, hbb⟩
end Go.Proofs.YtinfefmoiimomaaDoor
