import Derived.Test.YtinfefmoiimomaaDoorV5
namespace Go.Proofs.YtinfefmoiimomaaDoor
open Go.RowKit

set_option maxHeartbeats 800000 in
set_option maxRecDepth 20000 in
theorem run1_any (s : ByteArray) (B M K F : Nat) (caps : Array Value) (p : UInt8 → Bool) (k : Int) (most : Nat) (w : World) (hs : s.size ≤ 1000000) (_hm : most ≤ 1000000) (hf : IsFn w B F caps p)
    (hM : w.cell? ⟨M, 0, none⟩ = some (.int .i64 most)) (hK : w.cell? ⟨K, 0, none⟩ = some (.int .i64 k)) :
    Calls Tryd.prog 58 #[.string s, .pointer (some ⟨B, 0, none⟩), .pointer (some ⟨M, 0, none⟩), .pointer (some ⟨K, 0, none⟩)] w fun e w' => e = .returned (stepV (runS k p most s.data.toList)) ∧ Below w.heap.size w w' := by
  have hc1 := hf.cell
  have hl := cell_lt hc1
  have hlM := cell_lt hM
  have hlK := cell_lt hK
  have hsp := span_leS p s
  have hb0 := (Below.refl w.heap.size w).new (.cells #[.int .i64 0, .string ⟨#[]⟩, .int .i64 0, .int .i64 0] 30)
  obtain ⟨n, hn⟩ : ∃ n, n = span p s.data.toList := ⟨_, rfl⟩
  have hT := mkB_take s p
  rw [← hn] at hsp hT
  have HF := mkHid hf
  have HN := mkHid hn
  have HT := mkHid hT
  clear hf hn hT
  by_cases hlt : most < n
  · have HR : Hid (runS k p most s.data.toList = .err 2) := by rw [Hid]; unfold runS; rw [if_pos (by rw [← HN.out]; exact hlt)]
    obtain ⟨c0, c1, c2, c3, f0, f1, f2, f3⟩ := Res4.new w (.int .i64 0) (.string ⟨#[]⟩) (.int .i64 0) (.int .i64 0) 30
    go_enter Tryd.func58, Tryd.ntmps58
    go_wp2_with fail
    refine (length_any s F caps p _ hs HF.out.ent (HF.out.tells _ hb0)).mono ?_; rintro e w1 ⟨rfl, rfl⟩; rw [← HN.out]
    go_wp2
    rw [HR.out]
    refine bodyPost_ret (v := stepV (.err 2)) (by simp [stepV, results, Tryd.results58, go_sem]) rfl ⟨rfl, ?_⟩
    exact hb0
  · have HR : Hid (runS k p most s.data.toList = .tok k (s.data.toList.takeWhile p) 0 n) := by rw [Hid]; unfold runS; rw [if_neg (by rw [← HN.out]; exact hlt), ← HN.out]
    have hxs : (s.extract 0 n).size ≤ 1000000 := by rw [ByteArray.size_extract]; omega
    go_enter Tryd.func58, Tryd.ntmps58
    go_wp2_with fail
    refine (length_any s F caps p _ hs HF.out.ent (HF.out.tells _ hb0)).mono ?_; rintro e w1 ⟨rfl, rfl⟩; rw [← HN.out]
    go_wp2
    go_region_with (go_at_call 59; refine (token_any _ _ _ _ hxs).mono ?_; rintro e w1 ⟨rfl, hb⟩; obtain ⟨c0, c1, c2, c3, f0, f1, f2, f3⟩ := (Res4.new w (.int .i64 0) (.string ⟨#[]⟩) (.int .i64 0) (.int .i64 0) 30).below (w' := w1) ⟨hb.os, hb.tape, hb.output, hb.size, hb.block⟩)
    all_goals
      go_wp2
      rw [HR.out]
      refine bodyPost_ret (v := stepV (.tok k (s.data.toList.takeWhile p) 0 n)) (by simp [stepV, results, Tryd.results58, go_sem, c0, c1, c2, c3, HT.out]) rfl ⟨rfl, ?_⟩
      exact below_set4 (hb0.trans (Below.mono ⟨hb.os, hb.tape, hb.output, hb.size, hb.block⟩ (by simp))) (Nat.le_refl _) _ _ _ _
end Go.Proofs.YtinfefmoiimomaaDoor
