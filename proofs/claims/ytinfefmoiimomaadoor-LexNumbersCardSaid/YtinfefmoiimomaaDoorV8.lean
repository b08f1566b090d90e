import Derived.Test.YtinfefmoiimomaaDoorV7
import Derived.Lib.AtoiAllCases
namespace Go.Proofs.YtinfefmoiimomaaDoor
open Go.RowKit

theorem mkB_list (l : List UInt8) : (mkB l).data.toList = l := by simp [mkB]
theorem mkB_size (l : List UInt8) : (mkB l).size = l.length := by
  show (mkB l).data.size = _
  simp [mkB]
set_option maxHeartbeats 800000 in
set_option maxRecDepth 20000 in
theorem number_any (s : ByteArray) (w : World) (hs : s.size ≤ 1000000) (hw : LibVars w) (hd : headP digitB s.data.toList = true) :
    Calls Tryd.prog 40 #[.string s] w fun e w' => e = .returned (stepV (numS s.data.toList)) ∧ Below w.heap.size w w' := by
  have hb0 := (Below.refl w.heap.size w).new (.cells #[.int .i64 0, .string ⟨#[]⟩, .int .i64 0, .int .i64 0] 30)
  have hsp := span_leS digitB s
  have hT := mkB_take s digitB
  obtain ⟨n, hn⟩ : ∃ n, n = span digitB s.data.toList := ⟨_, rfl⟩
  obtain ⟨D, hD⟩ : ∃ D, D = s.data.toList.takeWhile digitB := ⟨_, rfl⟩
  have hall : D.all digitB = true := by rw [hD]; exact takeWhile_all _
  have hne : D ≠ [] := by
    rw [hD]
    cases hl : s.data.toList with
    | nil => rw [hl] at hd; cases hd
    | cons c r => rw [hl] at hd; rw [List.takeWhile_cons_of_pos (show digitB c = true from hd)]; simp
  have hlen : D.length = n := by rw [hD, hn]; rfl
  have HS : Hid (numS s.data.toList = if 2147483647 < decN D then .err 2 else .tok 3 D (decN D) n) := by
    rw [Hid]; unfold numS; rw [← hn, ← hD]
  rw [← hn, ← hD] at hT
  rw [← hn] at hsp
  have HT := mkHid hT
  have hxs : (s.extract 0 n).size ≤ 1000000 := by rw [ByteArray.size_extract]; omega
  have hxl : (s.extract 0 n).data.toList = D := by rw [hT, mkB_list]
  have HL := mkHid hxl
  have HN := mkHid hn
  have hA := atoi_digits D hall hne
  clear hT hxl hn hD hall hne hlen
  rcases hA with hA | ⟨hA, hbig⟩
  · have HA : Hid (Lib.atoiAll (s.extract 0 n).data.toList = .ok (decN D : Int)) := by rw [Hid, HL.out]; exact hA
    obtain ⟨v, hv⟩ : ∃ v : Nat, v = decN D := ⟨_, rfl⟩
    rw [← hv] at HA HS
    clear hA hv
    obtain ⟨vb0, vb1⟩ := Lib.atoiAll_bounds HA.out
    by_cases hbig : 2147483647 < v
    · have HR : Hid (numS s.data.toList = .err 2) := by rw [Hid, HS.out, if_pos hbig]
      go_enter Tryd.func40, Tryd.ntmps40
      go_wp2_with fail
      refine (length_any s _ #[] digitB _ hs digit_enters (digit_tells _)).mono ?_; rintro e w1 ⟨rfl, rfl⟩; rw [← HN.out]
      go_wp2_with fail
      refine (atoi_ok _ _ hxs _ HA.out).mono ?_; rintro e w1 ⟨rfl, hb⟩
      obtain ⟨c0, c1, c2, c3, f0, f1, f2, f3⟩ := (Res4.new w (.int .i64 0) (.string ⟨#[]⟩) (.int .i64 0) (.int .i64 0) 30).below hb
      go_wp2
      rw [HR.out]
      refine bodyPost_ret (v := stepV (.err 2)) (by simp [stepV, results, Tryd.results40, go_sem, c0, c1, c2, c3]) rfl ⟨rfl, ?_⟩
      exact below_set4 (hb0.then hb) (Nat.le_refl _) _ _ _ _
    · have HR : Hid (numS s.data.toList = .tok 3 D v n) := by rw [Hid, HS.out, if_neg hbig]
      go_enter Tryd.func40, Tryd.ntmps40
      go_wp2_with fail
      refine (length_any s _ #[] digitB _ hs digit_enters (digit_tells _)).mono ?_; rintro e w1 ⟨rfl, rfl⟩; rw [← HN.out]
      go_wp2_with fail
      refine (atoi_ok _ _ hxs _ HA.out).mono ?_; rintro e w1 ⟨rfl, hb⟩
      go_wp2_with fail
      refine (token_any _ _ _ _ hxs).mono ?_; rintro e w2 ⟨rfl, hb2⟩
      obtain ⟨c0, c1, c2, c3, f0, f1, f2, f3⟩ := ((Res4.new w (.int .i64 0) (.string ⟨#[]⟩) (.int .i64 0) (.int .i64 0) 30).below hb).below hb2
      go_wp2
      rw [HR.out]
      refine bodyPost_ret (v := stepV (.tok 3 D v n)) (by simp [stepV, results, Tryd.results40, go_sem, c0, c1, c2, c3, HT.out]) rfl ⟨rfl, ?_⟩
      exact below_set4 ((hb0.then hb).then hb2) (Nat.le_refl _) _ _ _ _
  · have HA : Hid (Lib.atoiAll (s.extract 0 n).data.toList = .range) := by rw [Hid, HL.out]; exact hA
    have HR : Hid (numS s.data.toList = .err 2) := by rw [Hid, HS.out, if_pos hbig]
    clear hA hbig HS
    go_enter Tryd.func40, Tryd.ntmps40
    go_wp2_with fail
    refine (length_any s _ #[] digitB _ hs digit_enters (digit_tells _)).mono ?_; rintro e w1 ⟨rfl, rfl⟩; rw [← HN.out]
    go_wp2_with fail
    refine (atoi_range _ _ hxs (hw.below hb0) HA.out).mono ?_; rintro e w1 ⟨t, p, rfl, hb⟩
    obtain ⟨c0, c1, c2, c3, f0, f1, f2, f3⟩ := (Res4.new w (.int .i64 0) (.string ⟨#[]⟩) (.int .i64 0) (.int .i64 0) 30).below hb
    go_wp2
    rw [HR.out]
    refine bodyPost_ret (v := stepV (.err 2)) (by simp [stepV, results, Tryd.results40, go_sem, c0, c1, c2, c3]) rfl ⟨rfl, ?_⟩
    exact below_set4 (hb0.then hb) (Nat.le_refl _) _ _ _ _
end Go.Proofs.YtinfefmoiimomaaDoor
