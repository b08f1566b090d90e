import Derived.Test.YtinfefmoiimomaaDoorV24
namespace Go.Proofs.YtinfefmoiimomaaDoor
open Go.RowKit

theorem rPunct_lit {c : UInt8} {w : World} {b : Bool} (hb : punctB c = b) : Calls Tryd.prog 28 #[.string ⟨#[40, 41, 91, 93, 44, 124]⟩, .int .u8 (c.toNat : Int)] w fun e w' => e = .returned (.bool b) ∧ w = w' := by
  subst hb; exact rIn ⟨#[40, 41, 91, 93, 44, 124]⟩ c w (by decide)
set_option maxHeartbeats 1600000 in
set_option maxRecDepth 20000 in
theorem rTok_name (s : ByteArray) (a : Nat) (w : World) (hs : s.size ≤ 20000) (ha : a < s.size) (g1 : smallB s[a] = true) :
    Calls Tryd.prog 27 #[.string s, .int .i64 (a : Int)] w fun e w' => e = .returned (refV a (tokL (s.data.toList.drop a))) ∧ Below w.heap.size w w' := by
  have hd := drop_consB s a ha
  have hs2 : s.size ≤ 1000000 := by omega
  have hb0 := (Below.refl w.heap.size w).new (.cells #[.int .i64 0, .string ⟨#[]⟩, .int .i64 0, .int .i64 0] 30)
  have r0 := Res4.new w (.int .i64 0) (.string ⟨#[]⟩) (.int .i64 0) (.int .i64 0) 30
  obtain ⟨N, hN⟩ : ∃ N, N = span letterB (s.data.toList.drop a) := ⟨_, rfl⟩
  have hNs : a + N ≤ s.size := by
    have h1 := span_le letterB (s.data.toList.drop a)
    rw [List.length_drop, size_list, ← hN] at h1; omega
  have hx : s.extract a (a + N) = mkB ((s.data.toList.drop a).takeWhile letterB) := by rw [hN]; exact cut_span s a letterB
  have ht : tokL (s.data.toList.drop a) = runS 1 letterB 12 (s.data.toList.drop a) := by
    rw [hd]; simp only [tokL, g1]; rfl
  have HNN := mkHid hN
  have HX := mkHid hx
  have G1 := mkHid g1
  have aN : (a : Int) ≤ (a : Int) + (N : Int) := by omega
  clear hd
  go_enter Tryd.func27, Tryd.ntmps27
  by_cases hl : 12 < N
  · have HR : Hid (tokL (s.data.toList.drop a) = .err 2) := by rw [Hid, ht, runS, ← hN, if_pos hl]
    clear ht hN hx
    go_wp2_with (first | (go_at_call 18; refine (rSmall_lit G1.out).mono ?_; rintro e w' ⟨rfl, rfl⟩) | (go_at_call 46; refine (rRow1 s a _ hs2 (by omega)).mono ?_; rintro e w1 ⟨rfl, rfl⟩; rw [← HNN.out]) | (go_at_call 45; fail))
    refine (rShort_no s a (a + N) 1 _ hs2 (by omega) hNs (by omega)).mono ?_; rintro e w2 ⟨rfl, hb⟩
    obtain ⟨c0, c1, c2, c3, f0, f1, f2, f3⟩ := r0.below hb
    go_wp2
    rw [HR.out]
    refine bodyPost_ret (v := refV a (.err 2)) (by simp [refV, results, Tryd.results27, go_sem, c0, c1, c2, c3]) rfl ⟨rfl, ?_⟩
    exact below_set4 (hb0.then hb) (Nat.le_refl _) _ _ _ _
  · have HR : Hid (tokL (s.data.toList.drop a) = .tok 1 ((s.data.toList.drop a).takeWhile letterB) 0 N) := by rw [Hid, ht, runS, ← hN, if_neg hl]
    clear ht hN hx
    go_wp2_with (first | (go_at_call 18; refine (rSmall_lit G1.out).mono ?_; rintro e w' ⟨rfl, rfl⟩) | (go_at_call 46; refine (rRow1 s a _ hs2 (by omega)).mono ?_; rintro e w1 ⟨rfl, rfl⟩; rw [← HNN.out]) | (go_at_call 45; fail))
    refine (rShort_yes s a (a + N) 1 _ hs2 (by omega) hNs (by omega)).mono ?_; rintro e w2 ⟨rfl, hb⟩
    obtain ⟨c0, c1, c2, c3, f0, f1, f2, f3⟩ := r0.below hb
    go_wp2
    rw [HR.out]
    refine bodyPost_ret (v := refV a (.tok 1 ((s.data.toList.drop a).takeWhile letterB) 0 N)) (by simp [refV, results, Tryd.results27, go_sem, c0, c1, c2, c3, HX.out]) rfl ⟨rfl, ?_⟩
    exact below_set4 (hb0.then hb) (Nat.le_refl _) _ _ _ _
set_option maxHeartbeats 1600000 in
set_option maxRecDepth 20000 in
theorem rTok_var (s : ByteArray) (a : Nat) (w : World) (hs : s.size ≤ 20000) (ha : a < s.size) (g1 : smallB s[a] = false) (g2 : greatB s[a] = true) :
    Calls Tryd.prog 27 #[.string s, .int .i64 (a : Int)] w fun e w' => e = .returned (refV a (tokL (s.data.toList.drop a))) ∧ Below w.heap.size w w' := by
  have hd := drop_consB s a ha
  have hs2 : s.size ≤ 1000000 := by omega
  have hb0 := (Below.refl w.heap.size w).new (.cells #[.int .i64 0, .string ⟨#[]⟩, .int .i64 0, .int .i64 0] 30)
  have r0 := Res4.new w (.int .i64 0) (.string ⟨#[]⟩) (.int .i64 0) (.int .i64 0) 30
  obtain ⟨N, hN⟩ : ∃ N, N = span letterB (s.data.toList.drop a) := ⟨_, rfl⟩
  have hNs : a + N ≤ s.size := by
    have h1 := span_le letterB (s.data.toList.drop a)
    rw [List.length_drop, size_list, ← hN] at h1; omega
  have hx : s.extract a (a + N) = mkB ((s.data.toList.drop a).takeWhile letterB) := by rw [hN]; exact cut_span s a letterB
  have HR : Hid (tokL (s.data.toList.drop a) = .tok 2 ((s.data.toList.drop a).takeWhile letterB) 0 N) := by
    have ht : tokL (s.data.toList.drop a) = runS 2 letterB 20000 (s.data.toList.drop a) := by
      rw [hd]; simp only [tokL, g1, g2]; rfl
    rw [Hid, ht, runS, ← hN, if_neg (by omega)]
  have HNN := mkHid hN
  have HX := mkHid hx
  have G1 := mkHid g1
  have G2 := mkHid g2
  have c1' : (a : Int) ≤ (a : Int) + (N : Int) := by omega
  have c2' : (a : Int) + (N : Int) ≤ (s.size : Int) := by omega
  have c3' : ((a : Int) + (N : Int)).toNat = a + N := by omega
  clear g1 g2 hN hx
  clear hd
  go_enter Tryd.func27, Tryd.ntmps27
  go_wp2_with (first | (go_at_call 18; refine (rSmall_lit G1.out).mono ?_; rintro e w' ⟨rfl, rfl⟩) | (go_at_call 19; refine (rGreat_lit G2.out).mono ?_; rintro e w' ⟨rfl, rfl⟩) | (go_at_call 46; refine (rRow1 s a _ hs2 (by omega)).mono ?_; rintro e w1 ⟨rfl, rfl⟩; rw [← HNN.out]))
  rw [HR.out]
  obtain ⟨c0, c1, c2, c3, f0, f1, f2, f3⟩ := r0
  refine bodyPost_ret (v := refV a (.tok 2 ((s.data.toList.drop a).takeWhile letterB) 0 N)) (by simp [refV, results, Tryd.results27, go_sem, HX.out]) rfl ⟨rfl, ?_⟩
  exact (Below.refl w.heap.size w).new _
set_option maxHeartbeats 1600000 in
set_option maxRecDepth 20000 in
theorem rTok_num (s : ByteArray) (a : Nat) (w : World) (hs : s.size ≤ 20000) (ha : a < s.size) (g1 : smallB s[a] = false) (g2 : greatB s[a] = false) (g3 : digitB s[a] = true) :
    Calls Tryd.prog 27 #[.string s, .int .i64 (a : Int)] w fun e w' => e = .returned (refV a (tokL (s.data.toList.drop a))) ∧ Below w.heap.size w w' := by
  have hd := drop_consB s a ha
  have hs2 : s.size ≤ 1000000 := by omega
  have hb0 := (Below.refl w.heap.size w).new (.cells #[.int .i64 0, .string ⟨#[]⟩, .int .i64 0, .int .i64 0] 30)
  have r0 := Res4.new w (.int .i64 0) (.string ⟨#[]⟩) (.int .i64 0) (.int .i64 0) 30
  have ht : tokL (s.data.toList.drop a) = numS (s.data.toList.drop a) := by
    rw [hd]; simp only [tokL, g1, g2, g3]; rfl
  have HT := mkHid ht
  have G1 := mkHid g1
  have G2 := mkHid g2
  have G3 := mkHid g3
  have hnp : (∃ k t n len, numS (s.data.toList.drop a) = .tok k t n len) ∨ ∃ e, numS (s.data.toList.drop a) = .err e := by
    unfold numS; split
    · exact .inr ⟨_, rfl⟩
    · exact .inl ⟨_, _, _, _, rfl⟩
  clear g1 g2 g3 ht
  clear hd
  go_enter Tryd.func27, Tryd.ntmps27
  rcases hnp with ⟨k, t, n, len, hn⟩ | ⟨er, hn⟩
  · have HN := mkHid hn
    clear hn
    go_wp2_with (first | (go_at_call 18; refine (rSmall_lit G1.out).mono ?_; rintro e w' ⟨rfl, rfl⟩) | (go_at_call 19; refine (rGreat_lit G2.out).mono ?_; rintro e w' ⟨rfl, rfl⟩) | (go_at_call 20; refine (rDigit_lit G3.out).mono ?_; rintro e w' ⟨rfl, rfl⟩) | (go_at_call 47; fail))
    refine (rNumber s a _ hs2 (by omega)).mono ?_; rintro e w2 ⟨rfl, hb⟩
    rw [HN.out]
    simp only [refV]
    obtain ⟨c0, c1, c2, c3, f0, f1, f2, f3⟩ := r0.below hb
    go_wp2
    rw [HT.out, HN.out]
    refine bodyPost_ret (v := refV a (.tok k t n len)) (by simp [refV, results, Tryd.results27, go_sem, c0, c1, c2, c3]) rfl ⟨rfl, ?_⟩
    exact below_set4 (hb0.then hb) (Nat.le_refl _) _ _ _ _
  · have HN := mkHid hn
    clear hn
    go_wp2_with (first | (go_at_call 18; refine (rSmall_lit G1.out).mono ?_; rintro e w' ⟨rfl, rfl⟩) | (go_at_call 19; refine (rGreat_lit G2.out).mono ?_; rintro e w' ⟨rfl, rfl⟩) | (go_at_call 20; refine (rDigit_lit G3.out).mono ?_; rintro e w' ⟨rfl, rfl⟩) | (go_at_call 47; fail))
    refine (rNumber s a _ hs2 (by omega)).mono ?_; rintro e w2 ⟨rfl, hb⟩
    rw [HN.out]
    simp only [refV]
    obtain ⟨c0, c1, c2, c3, f0, f1, f2, f3⟩ := r0.below hb
    go_wp2
    rw [HT.out, HN.out]
    refine bodyPost_ret (v := refV a (.err er)) (by simp [refV, results, Tryd.results27, go_sem, c0, c1, c2, c3]) rfl ⟨rfl, ?_⟩
    exact below_set4 (hb0.then hb) (Nat.le_refl _) _ _ _ _
set_option maxHeartbeats 1600000 in
set_option maxRecDepth 20000 in
theorem rTok_quo (s : ByteArray) (a : Nat) (w : World) (hs : s.size ≤ 20000) (ha : a < s.size) (g39 : s[a] = 39) :
    Calls Tryd.prog 27 #[.string s, .int .i64 (a : Int)] w fun e w' => e = .returned (refV a (tokL (s.data.toList.drop a))) ∧ Below w.heap.size w w' := by
  have hd := drop_consB s a ha
  have hs2 : s.size ≤ 1000000 := by omega
  have hb0 := (Below.refl w.heap.size w).new (.cells #[.int .i64 0, .string ⟨#[]⟩, .int .i64 0, .int .i64 0] 30)
  have r0 := Res4.new w (.int .i64 0) (.string ⟨#[]⟩) (.int .i64 0) (.int .i64 0) 30
  have ht : tokL (s.data.toList.drop a) = quoS (s.data.toList.drop (a + 1)) := by
    have g1 : smallB 39 = false := by decide
    have g2 : greatB 39 = false := by decide
    have g3 : digitB 39 = false := by decide
    rw [hd, g39]; simp only [tokL, g1, g2, g3]; rfl
  have HT := mkHid ht
  have G1 := mkHid (show smallB s[a] = false by rw [g39]; decide)
  have G2 := mkHid (show greatB s[a] = false by rw [g39]; decide)
  have G3 := mkHid (show digitB s[a] = false by rw [g39]; decide)
  have h39 : ((s[a].toNat : Int) == 39) = true := (eqU s[a] 39).trans (by rw [g39]; rfl)
  have hnp : (∃ k t n len, quoS (s.data.toList.drop (a + 1)) = .tok k t n len) ∨ ∃ e, quoS (s.data.toList.drop (a + 1)) = .err e := by
    unfold quoS; split
    · exact .inl ⟨_, _, _, _, rfl⟩
    · exact .inr ⟨_, rfl⟩
  clear g39 ht
  clear hd
  go_enter Tryd.func27, Tryd.ntmps27
  rcases hnp with ⟨k, t, n, len, hn⟩ | ⟨er, hn⟩
  · have HN := mkHid hn
    clear hn
    go_wp2_with (first | (go_at_call 18; refine (rSmall_lit G1.out).mono ?_; rintro e w' ⟨rfl, rfl⟩) | (go_at_call 19; refine (rGreat_lit G2.out).mono ?_; rintro e w' ⟨rfl, rfl⟩) | (go_at_call 20; refine (rDigit_lit G3.out).mono ?_; rintro e w' ⟨rfl, rfl⟩) | (go_at_call 48; fail))
    refine (rQuoted s a _ hs2 ha).mono ?_; rintro e w2 ⟨rfl, hb⟩
    rw [HN.out]
    simp only [refV]
    obtain ⟨c0, c1, c2, c3, f0, f1, f2, f3⟩ := r0.below hb
    go_wp2
    rw [HT.out, HN.out]
    refine bodyPost_ret (v := refV a (.tok k t n len)) (by simp [refV, results, Tryd.results27, go_sem, c0, c1, c2, c3]) rfl ⟨rfl, ?_⟩
    exact below_set4 (hb0.then hb) (Nat.le_refl _) _ _ _ _
  · have HN := mkHid hn
    clear hn
    go_wp2_with (first | (go_at_call 18; refine (rSmall_lit G1.out).mono ?_; rintro e w' ⟨rfl, rfl⟩) | (go_at_call 19; refine (rGreat_lit G2.out).mono ?_; rintro e w' ⟨rfl, rfl⟩) | (go_at_call 20; refine (rDigit_lit G3.out).mono ?_; rintro e w' ⟨rfl, rfl⟩) | (go_at_call 48; fail))
    refine (rQuoted s a _ hs2 ha).mono ?_; rintro e w2 ⟨rfl, hb⟩
    rw [HN.out]
    simp only [refV]
    obtain ⟨c0, c1, c2, c3, f0, f1, f2, f3⟩ := r0.below hb
    go_wp2
    rw [HT.out, HN.out]
    refine bodyPost_ret (v := refV a (.err er)) (by simp [refV, results, Tryd.results27, go_sem, c0, c1, c2, c3]) rfl ⟨rfl, ?_⟩
    exact below_set4 (hb0.then hb) (Nat.le_refl _) _ _ _ _
set_option maxHeartbeats 1600000 in
set_option maxRecDepth 20000 in
theorem rTok_punct (s : ByteArray) (a : Nat) (w : World) (hs : s.size ≤ 20000) (ha : a < s.size) (g1 : smallB s[a] = false) (g2 : greatB s[a] = false) (g3 : digitB s[a] = false) (g4 : (s[a] == 39) = false) (gp : punctB s[a] = true) :
    Calls Tryd.prog 27 #[.string s, .int .i64 (a : Int)] w fun e w' => e = .returned (refV a (tokL (s.data.toList.drop a))) ∧ Below w.heap.size w w' := by
  have hd := drop_consB s a ha
  have hs2 : s.size ≤ 1000000 := by omega
  have hb0 := (Below.refl w.heap.size w).new (.cells #[.int .i64 0, .string ⟨#[]⟩, .int .i64 0, .int .i64 0] 30)
  have r0 := Res4.new w (.int .i64 0) (.string ⟨#[]⟩) (.int .i64 0) (.int .i64 0) 30
  have hx : s.extract a (a + 1) = mkB [s[a]] := cut_eq (by rw [Nat.add_sub_cancel_left, hd]; rfl)
  have HX := mkHid hx
  have a1 : (a : Int) + 1 = ((a + 1 : Nat) : Int) := by omega
  have HR : Hid (tokL (s.data.toList.drop a) = .tok 5 [s[a]] 0 1) := by rw [Hid, hd]; simp only [tokL, g1, g2, g3, g4, gp, Bool.false_eq_true, if_false, if_true]
  have G1 := mkHid g1
  have G2 := mkHid g2
  have G3 := mkHid g3
  have h39 : ((s[a].toNat : Int) == 39) = false := (eqU s[a] 39).trans g4
  have GP := mkHid gp
  clear g1 g2 g3 g4 gp
  have HA1 := mkHid a1
  clear hx a1
  clear hd
  go_enter Tryd.func27, Tryd.ntmps27
  go_wp2_with (first | (go_at_call 18; refine (rSmall_lit G1.out).mono ?_; rintro e w' ⟨rfl, rfl⟩) | (go_at_call 19; refine (rGreat_lit G2.out).mono ?_; rintro e w' ⟨rfl, rfl⟩) | (go_at_call 20; refine (rDigit_lit G3.out).mono ?_; rintro e w' ⟨rfl, rfl⟩) | (go_at_call 28; refine (rPunct_lit GP.out).mono ?_; rintro e w' ⟨rfl, rfl⟩) | (go_at_call 45; fail))
  have cS := rShort_yes s a (a + 1) 5 (w.alloc (.cells #[.int .i64 0, .string ⟨#[]⟩, .int .i64 0, .int .i64 0] 30)) hs2 (by omega) (by omega) (by omega)
  rw [← HA1.out] at cS
  refine cS.mono ?_; rintro e w2 ⟨rfl, hb⟩
  clear cS
  obtain ⟨c0, c1, c2, c3, f0, f1, f2, f3⟩ := r0.below hb
  go_wp2
  rw [HR.out]
  refine bodyPost_ret (v := refV a (.tok 5 [s[a]] 0 1)) (by simp [refV, results, Tryd.results27, go_sem, c0, c1, c2, c3, HX.out]) rfl ⟨rfl, ?_⟩
  exact below_set4 (hb0.then hb) (Nat.le_refl _) _ _ _ _
set_option maxHeartbeats 1600000 in
set_option maxRecDepth 20000 in
theorem rTok_stop1 (s : ByteArray) (a : Nat) (w : World) (hs : s.size ≤ 20000) (ha : a < s.size) (g1 : smallB s[a] = false) (g2 : greatB s[a] = false) (g3 : digitB s[a] = false) (g4 : (s[a] == 39) = false) (gp : punctB s[a] = false) (g46 : (s[a] == 46) = true) (hl : a + 1 = s.size) :
    Calls Tryd.prog 27 #[.string s, .int .i64 (a : Int)] w fun e w' => e = .returned (refV a (tokL (s.data.toList.drop a))) ∧ Below w.heap.size w w' := by
  have hd := drop_consB s a ha
  have hs2 : s.size ≤ 1000000 := by omega
  have hb0 := (Below.refl w.heap.size w).new (.cells #[.int .i64 0, .string ⟨#[]⟩, .int .i64 0, .int .i64 0] 30)
  have r0 := Res4.new w (.int .i64 0) (.string ⟨#[]⟩) (.int .i64 0) (.int .i64 0) 30
  have hx : s.extract a (a + 1) = mkB [s[a]] := cut_eq (by rw [Nat.add_sub_cancel_left, hd]; rfl)
  have HX := mkHid hx
  have a1 : (a : Int) + 1 = ((a + 1 : Nat) : Int) := by omega
  have HR : Hid (tokL (s.data.toList.drop a) = .tok 6 [s[a]] 0 1) := by
    have hst : stopL (s.data.toList.drop (a + 1)) = true := by rw [List.drop_of_length_le (by simp; omega)]; rfl
    rw [Hid, hd]; simp only [tokL, g1, g2, g3, g4, gp, g46, hst, Bool.and_self, Bool.false_eq_true, if_false, if_true]
  have h46 : ((s[a].toNat : Int) == 46) = true := (eqU s[a] 46).trans g46
  have e1 : ((a : Int) + 1 == (s.size : Int)) = true := by simp; omega
  have G1 := mkHid g1
  have G2 := mkHid g2
  have G3 := mkHid g3
  have h39 : ((s[a].toNat : Int) == 39) = false := (eqU s[a] 39).trans g4
  have GP := mkHid gp
  clear g1 g2 g3 g4 gp g46 hl
  have HA1 := mkHid a1
  clear hx a1
  clear hd
  go_enter Tryd.func27, Tryd.ntmps27
  go_wp2_with (first | (go_at_call 18; refine (rSmall_lit G1.out).mono ?_; rintro e w' ⟨rfl, rfl⟩) | (go_at_call 19; refine (rGreat_lit G2.out).mono ?_; rintro e w' ⟨rfl, rfl⟩) | (go_at_call 20; refine (rDigit_lit G3.out).mono ?_; rintro e w' ⟨rfl, rfl⟩) | (go_at_call 28; refine (rPunct_lit GP.out).mono ?_; rintro e w' ⟨rfl, rfl⟩) | (go_at_call 45; fail))
  have cS := rShort_yes s a (a + 1) 6 (w.alloc (.cells #[.int .i64 0, .string ⟨#[]⟩, .int .i64 0, .int .i64 0] 30)) hs2 (by omega) (by omega) (by omega)
  rw [← HA1.out] at cS
  refine cS.mono ?_; rintro e w2 ⟨rfl, hb⟩
  clear cS
  obtain ⟨c0, c1, c2, c3, f0, f1, f2, f3⟩ := r0.below hb
  go_wp2
  rw [HR.out]
  refine bodyPost_ret (v := refV a (.tok 6 [s[a]] 0 1)) (by simp [refV, results, Tryd.results27, go_sem, c0, c1, c2, c3, HX.out]) rfl ⟨rfl, ?_⟩
  exact below_set4 (hb0.then hb) (Nat.le_refl _) _ _ _ _
set_option maxHeartbeats 1600000 in
set_option maxRecDepth 20000 in
theorem rTok_stop2 (s : ByteArray) (a : Nat) (w : World) (hs : s.size ≤ 20000) (ha : a < s.size) (g1 : smallB s[a] = false) (g2 : greatB s[a] = false) (g3 : digitB s[a] = false) (g4 : (s[a] == 39) = false) (gp : punctB s[a] = false) (g46 : (s[a] == 46) = true) (hl : a + 1 < s.size) (gb : blankB s[a + 1] = true) :
    Calls Tryd.prog 27 #[.string s, .int .i64 (a : Int)] w fun e w' => e = .returned (refV a (tokL (s.data.toList.drop a))) ∧ Below w.heap.size w w' := by
  have hd := drop_consB s a ha
  have hs2 : s.size ≤ 1000000 := by omega
  have hb0 := (Below.refl w.heap.size w).new (.cells #[.int .i64 0, .string ⟨#[]⟩, .int .i64 0, .int .i64 0] 30)
  have r0 := Res4.new w (.int .i64 0) (.string ⟨#[]⟩) (.int .i64 0) (.int .i64 0) 30
  have hx : s.extract a (a + 1) = mkB [s[a]] := cut_eq (by rw [Nat.add_sub_cancel_left, hd]; rfl)
  have HX := mkHid hx
  have a1 : (a : Int) + 1 = ((a + 1 : Nat) : Int) := by omega
  have HR : Hid (tokL (s.data.toList.drop a) = .tok 6 [s[a]] 0 1) := by
    have hst : stopL (s.data.toList.drop (a + 1)) = true := by rw [drop_consB s (a + 1) hl]; simp [stopL, gb]
    rw [Hid, hd]; simp only [tokL, g1, g2, g3, g4, gp, g46, hst, Bool.and_self, Bool.false_eq_true, if_false, if_true]
  have h46 : ((s[a].toNat : Int) == 46) = true := (eqU s[a] 46).trans g46
  have e1 : ((a : Int) + 1 == (s.size : Int)) = false := by simp; omega
  have h37 : ((s[a + 1].toNat : Int) == 37) = (s[a + 1] == 37) := eqU s[a + 1] 37
  have hi1 : (a : Int) + 1 < (s.size : Int) := by omega
  have GB := mkHid gb
  have G1 := mkHid g1
  have G2 := mkHid g2
  have G3 := mkHid g3
  have h39 : ((s[a].toNat : Int) == 39) = false := (eqU s[a] 39).trans g4
  have GP := mkHid gp
  clear g1 g2 g3 g4 gp g46 gb
  have HA1 := mkHid a1
  clear hx a1
  clear hd
  go_enter Tryd.func27, Tryd.ntmps27
  go_wp2_with (first | (go_at_call 18; refine (rSmall_lit G1.out).mono ?_; rintro e w' ⟨rfl, rfl⟩) | (go_at_call 19; refine (rGreat_lit G2.out).mono ?_; rintro e w' ⟨rfl, rfl⟩) | (go_at_call 20; refine (rDigit_lit G3.out).mono ?_; rintro e w' ⟨rfl, rfl⟩) | (go_at_call 28; refine (rPunct_lit GP.out).mono ?_; rintro e w' ⟨rfl, rfl⟩) | (go_at_call 23; refine (rBlank_lit GB.out).mono ?_; rintro e w' ⟨rfl, rfl⟩) | (go_at_call 45; fail))
  have cS := rShort_yes s a (a + 1) 6 (w.alloc (.cells #[.int .i64 0, .string ⟨#[]⟩, .int .i64 0, .int .i64 0] 30)) hs2 (by omega) (by omega) (by omega)
  rw [← HA1.out] at cS
  refine cS.mono ?_; rintro e w2 ⟨rfl, hb⟩
  clear cS
  obtain ⟨c0, c1, c2, c3, f0, f1, f2, f3⟩ := r0.below hb
  go_wp2
  rw [HR.out]
  refine bodyPost_ret (v := refV a (.tok 6 [s[a]] 0 1)) (by simp [refV, results, Tryd.results27, go_sem, c0, c1, c2, c3, HX.out]) rfl ⟨rfl, ?_⟩
  exact below_set4 (hb0.then hb) (Nat.le_refl _) _ _ _ _
set_option maxHeartbeats 1600000 in
set_option maxRecDepth 20000 in
theorem rTok_stop3 (s : ByteArray) (a : Nat) (w : World) (hs : s.size ≤ 20000) (ha : a < s.size) (g1 : smallB s[a] = false) (g2 : greatB s[a] = false) (g3 : digitB s[a] = false) (g4 : (s[a] == 39) = false) (gp : punctB s[a] = false) (g46 : (s[a] == 46) = true) (hl : a + 1 < s.size) (gb : blankB s[a + 1] = false) (g37 : (s[a + 1] == 37) = true) :
    Calls Tryd.prog 27 #[.string s, .int .i64 (a : Int)] w fun e w' => e = .returned (refV a (tokL (s.data.toList.drop a))) ∧ Below w.heap.size w w' := by
  have hd := drop_consB s a ha
  have hs2 : s.size ≤ 1000000 := by omega
  have hb0 := (Below.refl w.heap.size w).new (.cells #[.int .i64 0, .string ⟨#[]⟩, .int .i64 0, .int .i64 0] 30)
  have r0 := Res4.new w (.int .i64 0) (.string ⟨#[]⟩) (.int .i64 0) (.int .i64 0) 30
  have hx : s.extract a (a + 1) = mkB [s[a]] := cut_eq (by rw [Nat.add_sub_cancel_left, hd]; rfl)
  have HX := mkHid hx
  have a1 : (a : Int) + 1 = ((a + 1 : Nat) : Int) := by omega
  have HR : Hid (tokL (s.data.toList.drop a) = .tok 6 [s[a]] 0 1) := by
    have hst : stopL (s.data.toList.drop (a + 1)) = true := by rw [drop_consB s (a + 1) hl]; simp [stopL, gb, g37]
    rw [Hid, hd]; simp only [tokL, g1, g2, g3, g4, gp, g46, hst, Bool.and_self, Bool.false_eq_true, if_false, if_true]
  have h46 : ((s[a].toNat : Int) == 46) = true := (eqU s[a] 46).trans g46
  have e1 : ((a : Int) + 1 == (s.size : Int)) = false := by simp; omega
  have h37 : ((s[a + 1].toNat : Int) == 37) = (s[a + 1] == 37) := eqU s[a + 1] 37
  have hi1 : (a : Int) + 1 < (s.size : Int) := by omega
  have GB := mkHid gb
  rw [g37] at h37
  have G1 := mkHid g1
  have G2 := mkHid g2
  have G3 := mkHid g3
  have h39 : ((s[a].toNat : Int) == 39) = false := (eqU s[a] 39).trans g4
  have GP := mkHid gp
  clear g1 g2 g3 g4 gp g46 gb g37
  have HA1 := mkHid a1
  clear hx a1
  clear hd
  go_enter Tryd.func27, Tryd.ntmps27
  go_wp2_with (first | (go_at_call 18; refine (rSmall_lit G1.out).mono ?_; rintro e w' ⟨rfl, rfl⟩) | (go_at_call 19; refine (rGreat_lit G2.out).mono ?_; rintro e w' ⟨rfl, rfl⟩) | (go_at_call 20; refine (rDigit_lit G3.out).mono ?_; rintro e w' ⟨rfl, rfl⟩) | (go_at_call 28; refine (rPunct_lit GP.out).mono ?_; rintro e w' ⟨rfl, rfl⟩) | (go_at_call 23; refine (rBlank_lit GB.out).mono ?_; rintro e w' ⟨rfl, rfl⟩) | (go_at_call 45; fail))
  have cS := rShort_yes s a (a + 1) 6 (w.alloc (.cells #[.int .i64 0, .string ⟨#[]⟩, .int .i64 0, .int .i64 0] 30)) hs2 (by omega) (by omega) (by omega)
  rw [← HA1.out] at cS
  refine cS.mono ?_; rintro e w2 ⟨rfl, hb⟩
  clear cS
  obtain ⟨c0, c1, c2, c3, f0, f1, f2, f3⟩ := r0.below hb
  go_wp2
  rw [HR.out]
  refine bodyPost_ret (v := refV a (.tok 6 [s[a]] 0 1)) (by simp [refV, results, Tryd.results27, go_sem, c0, c1, c2, c3, HX.out]) rfl ⟨rfl, ?_⟩
  exact below_set4 (hb0.then hb) (Nat.le_refl _) _ _ _ _
set_option maxHeartbeats 1600000 in
set_option maxRecDepth 20000 in
theorem rTok_sign1 (s : ByteArray) (a : Nat) (w : World) (hs : s.size ≤ 20000) (ha : a < s.size) (g1 : smallB s[a] = false) (g2 : greatB s[a] = false) (g3 : digitB s[a] = false) (g4 : (s[a] == 39) = false) (gp : punctB s[a] = false) (g46 : (s[a] == 46) = false) (g5 : signB s[a] = true) :
    Calls Tryd.prog 27 #[.string s, .int .i64 (a : Int)] w fun e w' => e = .returned (refV a (tokL (s.data.toList.drop a))) ∧ Below w.heap.size w w' := by
  have hd := drop_consB s a ha
  have hs2 : s.size ≤ 1000000 := by omega
  have hb0 := (Below.refl w.heap.size w).new (.cells #[.int .i64 0, .string ⟨#[]⟩, .int .i64 0, .int .i64 0] 30)
  have r0 := Res4.new w (.int .i64 0) (.string ⟨#[]⟩) (.int .i64 0) (.int .i64 0) 30
  obtain ⟨N, hN⟩ : ∃ N, N = span signB (s.data.toList.drop a) := ⟨_, rfl⟩
  have hNs : a + N ≤ s.size := by
    have h1 := span_le signB (s.data.toList.drop a)
    rw [List.length_drop, size_list, ← hN] at h1; omega
  have hx : s.extract a (a + N) = mkB ((s.data.toList.drop a).takeWhile signB) := by rw [hN]; exact cut_span s a signB
  have ht : tokL (s.data.toList.drop a) = runS 4 signB 12 (s.data.toList.drop a) := by
    rw [hd]; simp only [tokL, g1, g2, g3, g4, gp, g46, g5, Bool.false_and]; rfl
  have HNN := mkHid hN
  have HX := mkHid hx
  have h39 : ((s[a].toNat : Int) == 39) = false := (eqU s[a] 39).trans g4
  have h46 : ((s[a].toNat : Int) == 46) = (s[a] == 46) := eqU s[a] 46
  have GP := mkHid gp
  have G1 := mkHid g1
  have G2 := mkHid g2
  have G3 := mkHid g3
  have G5 := mkHid g5
  rw [g46] at h46
  have aN : (a : Int) ≤ (a : Int) + (N : Int) := by omega
  clear hd
  go_enter Tryd.func27, Tryd.ntmps27
  by_cases hl : 12 < N
  · have HR : Hid (tokL (s.data.toList.drop a) = .err 2) := by rw [Hid, ht, runS, ← hN, if_pos hl]
    clear ht hN hx
    go_wp2_with (first | (go_at_call 18; refine (rSmall_lit G1.out).mono ?_; rintro e w' ⟨rfl, rfl⟩) | (go_at_call 19; refine (rGreat_lit G2.out).mono ?_; rintro e w' ⟨rfl, rfl⟩) | (go_at_call 20; refine (rDigit_lit G3.out).mono ?_; rintro e w' ⟨rfl, rfl⟩) | (go_at_call 28; refine (rPunct_lit GP.out).mono ?_; rintro e w' ⟨rfl, rfl⟩) | (go_at_call 21; refine (rSign_lit G5.out).mono ?_; rintro e w' ⟨rfl, rfl⟩) | (go_at_call 46; refine (rRow3 s a _ hs2 (by omega)).mono ?_; rintro e w1 ⟨rfl, rfl⟩; rw [← HNN.out]) | (go_at_call 45; fail))
    refine (rShort_no s a (a + N) 4 _ hs2 (by omega) hNs (by omega)).mono ?_; rintro e w2 ⟨rfl, hb⟩
    obtain ⟨c0, c1, c2, c3, f0, f1, f2, f3⟩ := r0.below hb
    go_wp2
    rw [HR.out]
    refine bodyPost_ret (v := refV a (.err 2)) (by simp [refV, results, Tryd.results27, go_sem, c0, c1, c2, c3]) rfl ⟨rfl, ?_⟩
    exact below_set4 (hb0.then hb) (Nat.le_refl _) _ _ _ _
  · have HR : Hid (tokL (s.data.toList.drop a) = .tok 4 ((s.data.toList.drop a).takeWhile signB) 0 N) := by rw [Hid, ht, runS, ← hN, if_neg hl]
    clear ht hN hx
    go_wp2_with (first | (go_at_call 18; refine (rSmall_lit G1.out).mono ?_; rintro e w' ⟨rfl, rfl⟩) | (go_at_call 19; refine (rGreat_lit G2.out).mono ?_; rintro e w' ⟨rfl, rfl⟩) | (go_at_call 20; refine (rDigit_lit G3.out).mono ?_; rintro e w' ⟨rfl, rfl⟩) | (go_at_call 28; refine (rPunct_lit GP.out).mono ?_; rintro e w' ⟨rfl, rfl⟩) | (go_at_call 21; refine (rSign_lit G5.out).mono ?_; rintro e w' ⟨rfl, rfl⟩) | (go_at_call 46; refine (rRow3 s a _ hs2 (by omega)).mono ?_; rintro e w1 ⟨rfl, rfl⟩; rw [← HNN.out]) | (go_at_call 45; fail))
    refine (rShort_yes s a (a + N) 4 _ hs2 (by omega) hNs (by omega)).mono ?_; rintro e w2 ⟨rfl, hb⟩
    obtain ⟨c0, c1, c2, c3, f0, f1, f2, f3⟩ := r0.below hb
    go_wp2
    rw [HR.out]
    refine bodyPost_ret (v := refV a (.tok 4 ((s.data.toList.drop a).takeWhile signB) 0 N)) (by simp [refV, results, Tryd.results27, go_sem, c0, c1, c2, c3, HX.out]) rfl ⟨rfl, ?_⟩
    exact below_set4 (hb0.then hb) (Nat.le_refl _) _ _ _ _
set_option maxHeartbeats 1600000 in
set_option maxRecDepth 20000 in
theorem rTok_sign2 (s : ByteArray) (a : Nat) (w : World) (hs : s.size ≤ 20000) (ha : a < s.size) (g1 : smallB s[a] = false) (g2 : greatB s[a] = false) (g3 : digitB s[a] = false) (g4 : (s[a] == 39) = false) (gp : punctB s[a] = false) (g46 : (s[a] == 46) = true) (g5 : signB s[a] = true) (hl1 : a + 1 < s.size) (gb : blankB s[a + 1] = false) (g37 : (s[a + 1] == 37) = false) :
    Calls Tryd.prog 27 #[.string s, .int .i64 (a : Int)] w fun e w' => e = .returned (refV a (tokL (s.data.toList.drop a))) ∧ Below w.heap.size w w' := by
  have hd := drop_consB s a ha
  have hs2 : s.size ≤ 1000000 := by omega
  have hb0 := (Below.refl w.heap.size w).new (.cells #[.int .i64 0, .string ⟨#[]⟩, .int .i64 0, .int .i64 0] 30)
  have r0 := Res4.new w (.int .i64 0) (.string ⟨#[]⟩) (.int .i64 0) (.int .i64 0) 30
  obtain ⟨N, hN⟩ : ∃ N, N = span signB (s.data.toList.drop a) := ⟨_, rfl⟩
  have hNs : a + N ≤ s.size := by
    have h1 := span_le signB (s.data.toList.drop a)
    rw [List.length_drop, size_list, ← hN] at h1; omega
  have hx : s.extract a (a + N) = mkB ((s.data.toList.drop a).takeWhile signB) := by rw [hN]; exact cut_span s a signB
  have ht : tokL (s.data.toList.drop a) = runS 4 signB 12 (s.data.toList.drop a) := by
    have hst : stopL (s.data.toList.drop (a + 1)) = false := by rw [drop_consB s (a + 1) hl1]; simp [stopL, gb, g37]
    rw [hd]; simp only [tokL, g1, g2, g3, g4, gp, g46, hst, g5, Bool.and_false]; rfl
  have HNN := mkHid hN
  have HX := mkHid hx
  have h39 : ((s[a].toNat : Int) == 39) = false := (eqU s[a] 39).trans g4
  have h46 : ((s[a].toNat : Int) == 46) = (s[a] == 46) := eqU s[a] 46
  have GP := mkHid gp
  have G1 := mkHid g1
  have G2 := mkHid g2
  have G3 := mkHid g3
  have G5 := mkHid g5
  rw [g46] at h46
  have e1 : ((a : Int) + 1 == (s.size : Int)) = false := by simp; omega
  have h37 : ((s[a + 1].toNat : Int) == 37) = false := (eqU s[a + 1] 37).trans g37
  have hi1 : (a : Int) + 1 < (s.size : Int) := by omega
  have GB := mkHid gb
  have aN : (a : Int) ≤ (a : Int) + (N : Int) := by omega
  clear hd
  go_enter Tryd.func27, Tryd.ntmps27
  by_cases hl : 12 < N
  · have HR : Hid (tokL (s.data.toList.drop a) = .err 2) := by rw [Hid, ht, runS, ← hN, if_pos hl]
    clear ht hN hx
    go_wp2_with (first | (go_at_call 18; refine (rSmall_lit G1.out).mono ?_; rintro e w' ⟨rfl, rfl⟩) | (go_at_call 19; refine (rGreat_lit G2.out).mono ?_; rintro e w' ⟨rfl, rfl⟩) | (go_at_call 20; refine (rDigit_lit G3.out).mono ?_; rintro e w' ⟨rfl, rfl⟩) | (go_at_call 28; refine (rPunct_lit GP.out).mono ?_; rintro e w' ⟨rfl, rfl⟩) | (go_at_call 21; refine (rSign_lit G5.out).mono ?_; rintro e w' ⟨rfl, rfl⟩) | (go_at_call 23; refine (rBlank_lit GB.out).mono ?_; rintro e w' ⟨rfl, rfl⟩) | (go_at_call 46; refine (rRow3 s a _ hs2 (by omega)).mono ?_; rintro e w1 ⟨rfl, rfl⟩; rw [← HNN.out]) | (go_at_call 45; fail))
    refine (rShort_no s a (a + N) 4 _ hs2 (by omega) hNs (by omega)).mono ?_; rintro e w2 ⟨rfl, hb⟩
    obtain ⟨c0, c1, c2, c3, f0, f1, f2, f3⟩ := r0.below hb
    go_wp2
    rw [HR.out]
    refine bodyPost_ret (v := refV a (.err 2)) (by simp [refV, results, Tryd.results27, go_sem, c0, c1, c2, c3]) rfl ⟨rfl, ?_⟩
    exact below_set4 (hb0.then hb) (Nat.le_refl _) _ _ _ _
  · have HR : Hid (tokL (s.data.toList.drop a) = .tok 4 ((s.data.toList.drop a).takeWhile signB) 0 N) := by rw [Hid, ht, runS, ← hN, if_neg hl]
    clear ht hN hx
    go_wp2_with (first | (go_at_call 18; refine (rSmall_lit G1.out).mono ?_; rintro e w' ⟨rfl, rfl⟩) | (go_at_call 19; refine (rGreat_lit G2.out).mono ?_; rintro e w' ⟨rfl, rfl⟩) | (go_at_call 20; refine (rDigit_lit G3.out).mono ?_; rintro e w' ⟨rfl, rfl⟩) | (go_at_call 28; refine (rPunct_lit GP.out).mono ?_; rintro e w' ⟨rfl, rfl⟩) | (go_at_call 21; refine (rSign_lit G5.out).mono ?_; rintro e w' ⟨rfl, rfl⟩) | (go_at_call 23; refine (rBlank_lit GB.out).mono ?_; rintro e w' ⟨rfl, rfl⟩) | (go_at_call 46; refine (rRow3 s a _ hs2 (by omega)).mono ?_; rintro e w1 ⟨rfl, rfl⟩; rw [← HNN.out]) | (go_at_call 45; fail))
    refine (rShort_yes s a (a + N) 4 _ hs2 (by omega) hNs (by omega)).mono ?_; rintro e w2 ⟨rfl, hb⟩
    obtain ⟨c0, c1, c2, c3, f0, f1, f2, f3⟩ := r0.below hb
    go_wp2
    rw [HR.out]
    refine bodyPost_ret (v := refV a (.tok 4 ((s.data.toList.drop a).takeWhile signB) 0 N)) (by simp [refV, results, Tryd.results27, go_sem, c0, c1, c2, c3, HX.out]) rfl ⟨rfl, ?_⟩
    exact below_set4 (hb0.then hb) (Nat.le_refl _) _ _ _ _
set_option maxHeartbeats 1600000 in
set_option maxRecDepth 20000 in
theorem rTok_bad (s : ByteArray) (a : Nat) (w : World) (hs : s.size ≤ 20000) (ha : a < s.size) (g1 : smallB s[a] = false) (g2 : greatB s[a] = false) (g3 : digitB s[a] = false) (g4 : (s[a] == 39) = false) (gp : punctB s[a] = false) (g46 : (s[a] == 46) = false) (g5 : signB s[a] = false) :
    Calls Tryd.prog 27 #[.string s, .int .i64 (a : Int)] w fun e w' => e = .returned (refV a (tokL (s.data.toList.drop a))) ∧ Below w.heap.size w w' := by
  have hd := drop_consB s a ha
  have hs2 : s.size ≤ 1000000 := by omega
  have hb0 := (Below.refl w.heap.size w).new (.cells #[.int .i64 0, .string ⟨#[]⟩, .int .i64 0, .int .i64 0] 30)
  have r0 := Res4.new w (.int .i64 0) (.string ⟨#[]⟩) (.int .i64 0) (.int .i64 0) 30
  have HR : Hid (tokL (s.data.toList.drop a) = .err 40) := by rw [Hid, hd]; simp only [tokL, g1, g2, g3, g4, gp, g46, g5, Bool.false_and, Bool.false_eq_true, if_false]
  have h39 : ((s[a].toNat : Int) == 39) = false := (eqU s[a] 39).trans g4
  have h46 : ((s[a].toNat : Int) == 46) = (s[a] == 46) := eqU s[a] 46
  have GP := mkHid gp
  have G1 := mkHid g1
  have G2 := mkHid g2
  have G3 := mkHid g3
  have G5 := mkHid g5
  rw [g46] at h46
  clear g1 g2 g3 g4 gp g46 g5
  clear hd
  go_enter Tryd.func27, Tryd.ntmps27
  go_wp2_with (first | (go_at_call 18; refine (rSmall_lit G1.out).mono ?_; rintro e w' ⟨rfl, rfl⟩) | (go_at_call 19; refine (rGreat_lit G2.out).mono ?_; rintro e w' ⟨rfl, rfl⟩) | (go_at_call 20; refine (rDigit_lit G3.out).mono ?_; rintro e w' ⟨rfl, rfl⟩) | (go_at_call 28; refine (rPunct_lit GP.out).mono ?_; rintro e w' ⟨rfl, rfl⟩) | (go_at_call 21; refine (rSign_lit G5.out).mono ?_; rintro e w' ⟨rfl, rfl⟩))
  rw [HR.out]
  refine bodyPost_ret (v := refV a (.err 40)) (by simp [refV, results, Tryd.results27, go_sem]) rfl ⟨rfl, ?_⟩
  exact hb0
theorem rToken (s : ByteArray) (a : Nat) (w : World) (hs : s.size ≤ 20000) (ha : a < s.size) :
    Calls Tryd.prog 27 #[.string s, .int .i64 (a : Int)] w fun e w' => e = .returned (refV a (tokL (s.data.toList.drop a))) ∧ Below w.heap.size w w' := by
  cases g1 : smallB s[a] with
  | true => exact rTok_name s a w hs ha g1
  | false =>
  cases g2 : greatB s[a] with
  | true => exact rTok_var s a w hs ha g1 g2
  | false =>
  cases g3 : digitB s[a] with
  | true => exact rTok_num s a w hs ha g1 g2 g3
  | false =>
  cases g4 : (s[a] == 39) with
  | true => exact rTok_quo s a w hs ha (by simpa using g4)
  | false =>
  cases gp : punctB s[a] with
  | true => exact rTok_punct s a w hs ha g1 g2 g3 g4 gp
  | false =>
  cases g46 : (s[a] == 46) with
  | true =>
    have g5 : signB s[a] = true := by
      have : s[a] = 46 := by simpa using g46
      rw [this]; decide
    by_cases hl : a + 1 = s.size
    · exact rTok_stop1 s a w hs ha g1 g2 g3 g4 gp g46 hl
    · have hl1 : a + 1 < s.size := by omega
      cases gb : blankB s[a + 1] with
      | true => exact rTok_stop2 s a w hs ha g1 g2 g3 g4 gp g46 hl1 gb
      | false =>
        cases g37 : (s[a + 1] == 37) with
        | true => exact rTok_stop3 s a w hs ha g1 g2 g3 g4 gp g46 hl1 gb g37
        | false => exact rTok_sign2 s a w hs ha g1 g2 g3 g4 gp g46 g5 hl1 gb g37
  | false =>
  cases g5 : signB s[a] with
  | true => exact rTok_sign1 s a w hs ha g1 g2 g3 g4 gp g46 g5
  | false => exact rTok_bad s a w hs ha g1 g2 g3 g4 gp g46 g5
end Go.Proofs.YtinfefmoiimomaaDoor
