import Derived.Test.YtinfefmoiimomaaDoorV8
import Derived.Lib.IndexBytes
namespace Go.Proofs.YtinfefmoiimomaaDoor
open Go.RowKit

theorem indexQ (r : List UInt8) : (span notQ r < r.length → Lib.indexByte r 39 = span notQ r) ∧ (¬ span notQ r < r.length → Lib.indexByte r 39 = -1) := by
  induction r with
  | nil => exact ⟨fun h => by simp [span] at h, fun _ => rfl⟩
  | cons c r ih =>
    by_cases hc : c = 39
    · subst hc
      have : span notQ (39 :: r) = 0 := by simp [span, show notQ 39 = false by decide]
      rw [this]
      exact ⟨fun _ => by simp [Lib.indexByte], fun h => absurd (by simp) h⟩
    · have h1 : notQ c = true := by simp [notQ, hc]
      have : span notQ (c :: r) = span notQ r + 1 := by simp [span, h1]
      rw [this, List.length_cons]
      refine ⟨fun h => ?_, fun h => ?_⟩
      · have h2 := ih.1 (by omega)
        simp only [Lib.indexByte]
        rw [if_neg (by simpa using hc), h2, if_neg (by simp)]
        omega
      · have h2 := ih.2 (by omega)
        simp only [Lib.indexByte]
        rw [if_neg (by simpa using hc), h2]
        simp
theorem cut_hit {r : List UInt8} (h : span notQ r < r.length) : (Lib.cut r [39]).1 = r.takeWhile notQ ∧ (Lib.cut r [39]).2.2 = true := by
  have h1 : Lib.index r [39] = span notQ r := by rw [Lib.index_one]; exact (indexQ r).1 h
  unfold Lib.cut
  rw [if_pos (by rw [h1]; omega), h1]
  refine ⟨?_, rfl⟩
  rw [Int.toNat_natCast]; exact take_span _ _
theorem cut_miss {r : List UInt8} (h : ¬ span notQ r < r.length) : (Lib.cut r [39]).2.2 = false := by
  have h1 : Lib.index r [39] = -1 := by rw [Lib.index_one]; exact (indexQ r).2 h
  unfold Lib.cut
  rw [if_neg (by rw [h1]; omega)]
theorem seen_enters : Enters 62 := fun _ _ => by kernel_rfl
theorem seen_tells (w : World) : Tells 62 #[] seenB w := fun c => seen_any c w
theorem all_span (p : UInt8 → Bool) (l : List UInt8) : (span p l < l.length) = ¬ (l.all p = true) := by
  rw [eq_iff_iff]
  induction l with
  | nil => simp [span]
  | cons c r ih =>
    by_cases h : p c = true
    · have : span p (c :: r) = span p r + 1 := by simp [span, h]
      rw [this, List.length_cons, List.all_cons, h, Bool.true_and, ← ih]; omega
    · simp [span, h]
set_option maxHeartbeats 1600000 in
set_option maxRecDepth 20000 in
theorem quoted_any (s : ByteArray) (w : World) (h1 : 1 ≤ s.size) (hs : s.size ≤ 1000000) (hw : LibVars w) :
    Calls Tryd.prog 41 #[.string s] w fun e w' => e = .returned (stepV (quoS (s.data.toList.drop 1))) ∧ Below w.heap.size w w' := by
  have hb0 := (Below.refl w.heap.size w).new (.cells #[.int .i64 0, .string ⟨#[]⟩, .int .i64 0, .int .i64 0] 30)
  have hx : (s.extract 1 s.size).data.toList = s.data.toList.drop 1 := by
    simp [ByteArray.data_extract, List.extract]
    rw [List.take_of_length_le (by simp)]
  have hxs : (s.extract 1 s.size).size ≤ 1000000 := by rw [ByteArray.size_extract]; omega
  have c1 : (1 : Int) ≤ (s.size : Int) := by omega
  obtain ⟨r, hr⟩ : ∃ r, r = s.data.toList.drop 1 := ⟨_, rfl⟩
  rw [← hr] at hx ⊢
  have hrl : r.length ≤ 1000000 := by rw [hr, List.length_drop]; simp; omega
  obtain ⟨x, hx'⟩ : ∃ x, x = s.extract 1 s.size := ⟨_, rfl⟩
  have HX := mkHid hx'
  rw [← hx'] at hx hxs
  have HXL := mkHid hx
  clear hx hx' hr
  by_cases hsp : span notQ r < r.length
  · obtain ⟨k1, k2⟩ := cut_hit hsp
    obtain ⟨q, hq⟩ : ∃ q, q = mkB (r.takeWhile notQ) := ⟨_, rfl⟩
    have hql : q.data.toList = r.takeWhile notQ := by rw [hq, mkB_list]
    have hqs : q.size = span notQ r := by rw [hq, mkB_size]; rfl
    have hqb : q.size ≤ 1000000 := by omega
    have HQ : Hid ((⟨(Lib.cut r [39]).1.toArray⟩ : ByteArray) = q) := by rw [Hid, k1, hq]; rfl
    have HK2 := mkHid k2
    have HB : Hid (quoS r = if decide (1 ≤ q.size) && decide (q.size ≤ 12) && q.data.toList.all seenB then .tok 1 (r.takeWhile notQ) 0 (q.size + 2) else .err 41) := by
      rw [Hid]; unfold quoS quoB; rw [hqs, hql, decide_eq_true hsp, Bool.true_and]
    have HQB := mkHid hq
    clear k1 k2 hq hql hqs hsp
    by_cases z0 : q.size = 0
    · have HR : Hid (quoS r = .err 41) := by rw [Hid, HB.out, z0]; rfl
      have hq0 : q = ⟨#[]⟩ := ByteArray.ext (Array.eq_empty_of_size_eq_zero z0)
      clear z0 HB
      go_enter Tryd.func41, Tryd.ntmps41
      go_wp2_with fail
      rw [← HX.out]
      refine (cut_any _ _ hxs (hw.below hb0)).mono ?_; rintro e w1 ⟨rfl, hb⟩; rw [HXL.out, HK2.out, HQ.out, hq0]
      obtain ⟨c0, c1, c2, c3, f0, f1, f2, f3⟩ := (Res4.new w (.int .i64 0) (.string ⟨#[]⟩) (.int .i64 0) (.int .i64 0) 30).below hb
      clear hq0
      go_wp2
      rw [HR.out]
      refine bodyPost_ret (v := stepV (.err 41)) (by simp [stepV, results, Tryd.results41, go_sem, c0, c1, c2, c3]) rfl ⟨rfl, ?_⟩
      exact below_set4 (hb0.then hb) (Nat.le_refl _) _ _ _ _
    · have z1 : 1 ≤ q.size := by omega
      have e1 : q.toList.isEmpty = false := by
        rw [ByteArray.toList_eq]
        have : q.data.toList.length = q.size := size_list q
        cases hq : q.data.toList with
        | nil => rw [hq] at this; simp at this; omega
        | cons => rfl
      clear z0
      by_cases z2 : 12 < q.size
      · have HR : Hid (quoS r = .err 41) := by rw [Hid, HB.out, decide_eq_false (show ¬ q.size ≤ 12 by omega)]; simp
        clear HB
        go_enter Tryd.func41, Tryd.ntmps41
        go_wp2_with fail
        rw [← HX.out]
        refine (cut_any _ _ hxs (hw.below hb0)).mono ?_; rintro e w1 ⟨rfl, hb⟩; rw [HXL.out, HK2.out, HQ.out]
        obtain ⟨c0, c1, c2, c3, f0, f1, f2, f3⟩ := (Res4.new w (.int .i64 0) (.string ⟨#[]⟩) (.int .i64 0) (.int .i64 0) 30).below hb
        go_wp2
        rw [HR.out]
        refine bodyPost_ret (v := stepV (.err 41)) (by simp [stepV, results, Tryd.results41, go_sem, c0, c1, c2, c3]) rfl ⟨rfl, ?_⟩
        exact below_set4 (hb0.then hb) (Nat.le_refl _) _ _ _ _
      · obtain ⟨n, hn⟩ : ∃ n, n = span seenB q.data.toList := ⟨_, rfl⟩
        have hnq : n ≤ q.size := by rw [hn]; exact span_leS _ _
        have hall := all_span seenB q.data.toList
        rw [← hn, size_list] at hall
        have HN := mkHid hn
        clear hn
        by_cases z3 : n < q.size
        · have HR : Hid (quoS r = .err 41) := by
            rw [Hid, HB.out]
            have : q.data.toList.all seenB = false := by rw [eq_iff_iff] at hall; simpa using hall.1 z3
            rw [this]; simp
          clear HB hall
          go_enter Tryd.func41, Tryd.ntmps41
          go_wp2_with fail
          rw [← HX.out]
          refine (cut_any _ _ hxs (hw.below hb0)).mono ?_; rintro e w1 ⟨rfl, hb⟩; rw [HXL.out, HK2.out, HQ.out]
          obtain ⟨c0, c1, c2, c3, f0, f1, f2, f3⟩ := (Res4.new w (.int .i64 0) (.string ⟨#[]⟩) (.int .i64 0) (.int .i64 0) 30).below hb
          go_wp2_with fail
          refine (length_any q _ #[] seenB _ hqb seen_enters (seen_tells _)).mono ?_; rintro e w2 ⟨rfl, rfl⟩; rw [← HN.out]
          go_wp2
          rw [HR.out]
          refine bodyPost_ret (v := stepV (.err 41)) (by simp [stepV, results, Tryd.results41, go_sem, c0, c1, c2, c3]) rfl ⟨rfl, ?_⟩
          exact below_set4 (hb0.then hb) (Nat.le_refl _) _ _ _ _
        · have HR : Hid (quoS r = .tok 1 (r.takeWhile notQ) 0 (q.size + 2)) := by
            rw [Hid, HB.out]
            have h3 : q.data.toList.all seenB = true := by
              rw [eq_iff_iff] at hall
              cases h : q.data.toList.all seenB with
              | true => rfl
              | false => exact absurd (hall.2 (by rw [h]; simp)) z3
            rw [h3, decide_eq_true z1, decide_eq_true (show q.size ≤ 12 by omega)]; rfl
          clear HB hall
          go_enter Tryd.func41, Tryd.ntmps41
          go_wp2_with fail
          rw [← HX.out]
          refine (cut_any _ _ hxs (hw.below hb0)).mono ?_; rintro e w1 ⟨rfl, hb⟩; rw [HXL.out, HK2.out, HQ.out]
          go_wp2_with fail
          refine (length_any q _ #[] seenB _ hqb seen_enters (seen_tells _)).mono ?_; rintro e w2 ⟨rfl, rfl⟩; rw [← HN.out]
          go_wp2_with fail
          refine (token_any _ _ _ _ hqb).mono ?_; rintro e w2 ⟨rfl, hb2⟩
          obtain ⟨c0, c1, c2, c3, f0, f1, f2, f3⟩ := ((Res4.new w (.int .i64 0) (.string ⟨#[]⟩) (.int .i64 0) (.int .i64 0) 30).below hb).below hb2
          go_wp2
          rw [HR.out]
          refine bodyPost_ret (v := stepV (.tok 1 (r.takeWhile notQ) 0 (q.size + 2))) (by simp [stepV, results, Tryd.results41, go_sem, c0, c1, c2, c3, HQB.out]) rfl ⟨rfl, ?_⟩
          exact below_set4 ((hb0.then hb).then hb2) (Nat.le_refl _) _ _ _ _
  · have HK2 := mkHid (cut_miss hsp)
    have HR : Hid (quoS r = .err 41) := by
      rw [Hid]; unfold quoS quoB; rw [decide_eq_false hsp]; rfl
    clear hsp
    go_enter Tryd.func41, Tryd.ntmps41
    go_wp2_with fail
    rw [← HX.out]
    refine (cut_any _ _ hxs (hw.below hb0)).mono ?_; rintro e w1 ⟨rfl, hb⟩; rw [HXL.out, HK2.out]
    obtain ⟨c0, c1, c2, c3, f0, f1, f2, f3⟩ := (Res4.new w (.int .i64 0) (.string ⟨#[]⟩) (.int .i64 0) (.int .i64 0) 30).below hb
    go_wp2
    rw [HR.out]
    refine bodyPost_ret (v := stepV (.err 41)) (by simp [stepV, results, Tryd.results41, go_sem, c0, c1, c2, c3]) rfl ⟨rfl, ?_⟩
    exact below_set4 (hb0.then hb) (Nat.le_refl _) _ _ _ _
end Go.Proofs.YtinfefmoiimomaaDoor
