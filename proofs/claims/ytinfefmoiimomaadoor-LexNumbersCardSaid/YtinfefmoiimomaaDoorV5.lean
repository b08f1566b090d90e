import Derived.Test.YtinfefmoiimomaaDoorV4
namespace Go.Proofs.YtinfefmoiimomaaDoor
open Go.RowKit

abbrev noTok : Value := .agg #[.int .i64 0, .string ⟨#[]⟩, .int .i64 0, .int .i64 0]
def stepV : Step → Value
  | .pass n => .tuple #[noTok, .int .i64 (n : Int), .int .i64 0]
  | .tok k t n len => .tuple #[.agg #[.int .i64 k, .string (mkB t), .int .i64 n, .int .i64 0], .int .i64 (len : Int), .int .i64 0]
  | .err e => .tuple #[noTok, .int .i64 0, .int .i64 e]
theorem ret_val {a b : Value} (h : a = b) : Ending.returned a = .returned b := by rw [h]
theorem mkB_take (s : ByteArray) (p : UInt8 → Bool) : s.extract 0 (span p s.data.toList) = mkB (s.data.toList.takeWhile p) := by
  rw [← take_span]
  apply ByteArray.ext
  simp [mkB, ByteArray.data_extract]
  rw [← Array.toList_inj]
  simp
theorem span_leS (p : UInt8 → Bool) (s : ByteArray) : span p s.data.toList ≤ s.size := by
  have := span_le p s.data.toList
  simpa using this
set_option maxRecDepth 20000 in
theorem pass1_any (s : ByteArray) (B F : Nat) (caps : Array Value) (p : UInt8 → Bool) (w : World) (hs : s.size ≤ 1000000) (hf : IsFn w B F caps p) :
    Calls Tryd.prog 54 #[.string s, .pointer (some ⟨B, 0, none⟩)] w fun e w' => e = .returned (stepV (.pass (span p s.data.toList))) ∧ Below w.heap.size w w' := by
  have hc1 := hf.cell
  have hl := cell_lt hc1
  obtain ⟨c0, c1, c2, c3, f0, f1, f2, f3⟩ := Res4.new w (.int .i64 0) (.string ⟨#[]⟩) (.int .i64 0) (.int .i64 0) 30
  have hb0 := (Below.refl w.heap.size w).new (.cells #[.int .i64 0, .string ⟨#[]⟩, .int .i64 0, .int .i64 0] 30)
  have HF := mkHid hf
  clear hf
  go_enter Tryd.func54, Tryd.ntmps54
  go_wp2_with fail
  refine (length_any s F caps p _ hs HF.out.ent (HF.out.tells _ hb0)).mono ?_; rintro e w1 ⟨rfl, rfl⟩
  go_wp2
  refine bodyPost_ret (v := stepV (.pass (span p s.data.toList))) (by simp [stepV, results, Tryd.results54, go_sem]) rfl ⟨rfl, ?_⟩
  exact hb0
set_option maxRecDepth 20000 in
theorem one1_any (s : ByteArray) (B : Nat) (k : Int) (w : World) (h1 : 1 ≤ s.size) (hs : s.size ≤ 1000000) (hc : w.cell? ⟨B, 0, none⟩ = some (.int .i64 k)) :
    Calls Tryd.prog 63 #[.string s, .pointer (some ⟨B, 0, none⟩)] w fun e w' => e = .returned (stepV (.tok k (s.data.toList.take 1) 0 1)) ∧ Below w.heap.size w w' := by
  have hl := cell_lt hc
  have c1 : (1 : Int) ≤ (s.size : Int) := by omega
  have hx : (s.extract 0 1) = mkB (s.data.toList.take 1) := by
    apply ByteArray.ext
    simp [mkB, ByteArray.data_extract]
    rw [← Array.toList_inj]
    simp
  have HX := mkHid hx
  have hxs : (s.extract 0 1).size ≤ 1000000 := by rw [ByteArray.size_extract]; omega
  clear hx
  have hb0 := (Below.refl w.heap.size w).new (.cells #[.int .i64 0, .string ⟨#[]⟩, .int .i64 0, .int .i64 0] 30)
  go_enter Tryd.func63, Tryd.ntmps63
  go_wp2
  go_region_with (go_at_call 59; refine (token_any _ _ _ _ hxs).mono ?_; rintro e w1 ⟨rfl, hb⟩; obtain ⟨c0, c1, c2, c3, f0, f1, f2, f3⟩ := (Res4.new w (.int .i64 0) (.string ⟨#[]⟩) (.int .i64 0) (.int .i64 0) 30).below (w' := w1) ⟨hb.os, hb.tape, hb.output, hb.size, hb.block⟩)
  all_goals
    go_wp2
    refine bodyPost_ret (v := stepV (.tok k (s.data.toList.take 1) 0 1)) (by simp [stepV, results, Tryd.results63, go_sem, c0, c1, c2, c3, HX.out]) rfl ⟨rfl, ?_⟩
    exact below_set4 (hb0.trans (Below.mono ⟨hb.os, hb.tape, hb.output, hb.size, hb.block⟩ (by simp))) (Nat.le_refl _) _ _ _ _
end Go.Proofs.YtinfefmoiimomaaDoor
