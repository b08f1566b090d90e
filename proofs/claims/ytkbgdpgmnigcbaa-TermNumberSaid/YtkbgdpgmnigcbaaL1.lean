import Derived.Test.YtkbgdpgmnigcbaaC18
namespace Go.Proofs.Ytkbgdpgmnigcbaa
open Go.RowKit

theorem great_yes {a : Option Addr} {cap : Nat} {w : World} {n : Nat} (h : 300 < n) :
    Calls Try.prog 13 #[.slice a n cap] w fun e w' => e = .returned (.bool true) ∧ Below w.heap.size w w' :=
  (great_any a cap w n).mono fun e w' ⟨he, hb⟩ => ⟨by rw [he, decide_eq_true (by omega)], hb⟩
theorem great_no {a : Option Addr} {cap : Nat} {w : World} {n : Nat} (h : ¬ 300 < n) :
    Calls Try.prog 13 #[.slice a n cap] w fun e w' => e = .returned (.bool false) ∧ Below w.heap.size w w' :=
  (great_any a cap w n).mono fun e w' ⟨he, hb⟩ => ⟨by rw [he, decide_eq_false (by omega)], hb⟩

theorem flatten_flat (ts : List Tm) : (ts.map Tm.flat).flatten = flats ts := by
  induction ts with
  | nil => rfl
  | cons t ts ih => simp [flats, ih]
theorem args_right {t : Tm} (h : t.ok) (h200 : t.flat.length ≤ 200) {k : Nat} (hk : k < t.args.length) : rightB t.args[k].flat = true := by
  have hs := flat_arg_lt (List.getElem_mem hk)
  exact right_flat (oks_mem ((ok_iff t).1 h).2.2 _ (List.getElem_mem hk)) (by omega)
theorem make_flat {t : Tm} (h : t.ok) (h200 : t.flat.length ≤ 200) (h3 : t.hd.k = 3) : makeL t.hd.s (t.args.map Tm.flat) = t.flat := by
  have h' := (ok_iff t).1 h
  have hm : madeL t.hd.s (t.args.map Tm.flat) = t.flat := by
    unfold madeL
    rw [flatten_flat, flat_cons, List.length_map]
    congr 1
    have hn := arI_ar h'.1
    rw [← h'.2.1] at hn
    unfold arI at hn
    rw [if_pos h3] at hn
    exact (Cel.eq_iff _ _).2 ⟨h3.symm, rfl, hn.symm⟩
  unfold makeL
  rw [hm, if_pos]
  rw [Bool.and_eq_true, List.all_eq_true]
  refine ⟨fun p hp => ?_, right_flat h h200⟩
  obtain ⟨u, hu, rfl⟩ := List.mem_map.1 hp
  obtain ⟨k, hk, rfl⟩ := List.getElem_of_mem hu
  exact args_right h h200 hk
theorem flat_take_le (t : Tm) (k : Nat) : (flats (t.args.take k)).length + 1 ≤ t.flat.length := by
  have hs : t.args = t.args.take k ++ t.args.drop k := (List.take_append_drop _ _).symm
  have := congrArg List.length (congrArg flats hs)
  rw [flats_append, List.length_append] at this
  rw [flat_cons t, List.length_cons]; omega

set_option maxHeartbeats 1600000 in
theorem lawParts_any (w : World) (xs : List Cel) (a : Option Addr) (cap : Nat) (hr : Row w a cap xs) :
    Calls Try.prog 5 #[.slice a xs.length cap] w fun e w' => e = .returned (.bool true) ∧ Below w.heap.size w w' := by
  have hm := hr.max
  have hle := hr.le
  by_cases hg : 300 < xs.length
  · go_enter Try.func5, Try.ntmps5
    go_wp2_with (first
      | (go_at_call 12; refine (head_any _).mono ?_; rintro e w1 ⟨rfl, hb1⟩)
      | (go_at_call 13; refine (great_yes hg).mono ?_; rintro e w2 ⟨rfl, hb2⟩))
    go_ret
    exact ⟨rfl, hb1.then hb2⟩
  cases hR : rightB xs with
  | false =>
    go_enter Try.func5, Try.ntmps5
    go_wp2_with (first
      | (go_at_call 12; refine (head_any _).mono ?_; rintro e w1 ⟨rfl, hb1⟩)
      | (go_at_call 13; refine (great_no hg).mono ?_; rintro e w2 ⟨rfl, hb2⟩)
      | (go_at_call 14; refine (right_lit rfl ((hr.below hb1).below hb2) hR).mono ?_; rintro e w3 ⟨rfl, hb3⟩))
    go_ret
    exact ⟨rfl, (hb1.then hb2).then hb3⟩
  | true =>
    obtain ⟨t, ht, rfl, h200⟩ := right_tm hR
    have HP := mkHid (parts_flat ht)
    have hargs := args_le6 ht
    have h0 := flat_pos t
    have hhd : t.flat[0] = t.hd := by simp [flat_cons]
    by_cases h3 : t.hd.k = 3
    · have t3 : (t.hd.k != 3) = false := by simp [h3]
      have HM := mkHid (make_flat ht h200 h3)
      have HN : Hid (t.hd.n = t.args.length) := by
        have h' := (ok_iff t).1 ht
        have hn := arI_ar h'.1
        rw [← h'.2.1] at hn
        unfold arI at hn
        rwa [if_pos h3] at hn
      have HF : Hid (1 + (flats (t.args.take t.args.length)).length = t.flat.length) := by
        rw [Hid, List.take_length, flat_cons t, List.length_cons]; omega
      clear h3
      go_enter Try.func5, Try.ntmps5
      go_wp2_with (first
        | (go_at_call 12; refine (head_any _).mono ?_; rintro e w1 ⟨rfl, hb1⟩)
        | (go_at_call 13; refine (great_no hg).mono ?_; rintro e w2 ⟨rfl, hb2⟩)
        | (go_at_call 14; refine (right_lit rfl ((hr.below hb1).below hb2) hR).mono ?_; rintro e w3 ⟨rfl, hb3⟩)
        | (go_at_call 26; refine (parts_lit rfl (((hr.below hb1).below hb2).below hb3) hR HP.out (m := t.args.length) (by simp)).mono ?_; rintro e w4 ⟨a4, cap4, rfl, r4, hb4⟩; have hb04 := ((hb1.then hb2).then hb3).then hb4; have rw4 := hr.below hb04; obtain ⟨b, off, rfl, hb, hat⟩ := rw4.cases.resolve_left (fun e => by rw [e] at h0; simp at h0); obtain ⟨c0, c1, c2, hf⟩ := cel_at hat (Below.refl _ _) h0; rw [hhd] at c0 c1 c2 hf; simp only [Nat.zero_mul, Nat.add_zero] at c0 c1 c2))
      go_loopw [5, 6] (fun m j wr => ∃ (k : Nat), k ≤ t.args.length ∧ j = .int .i64 k ∧ m = .int .i64 ((1 + (flats (t.args.take k)).length : Nat) : Int) ∧ Below w4.heap.size w4 wr) (fun m j wr => t.args.length - (intOf j).toNat)
      case atStart => exact ⟨0, Nat.zero_le _, rfl, rfl, Below.refl _ _⟩
      case round =>
        obtain ⟨k, hk, rfl, rfl, hbl⟩ := hrel
        have htk := flat_take_le t k
        by_cases hlt : k < t.args.length
        · have hlt' : k < (t.args.map Tm.flat).length := by simpa using hlt
          obtain ⟨b', off', rfl, hb', hat'⟩ := r4.cases.resolve_left (fun e => by rw [e] at hlt'; simp at hlt')
          obtain ⟨a5, cap5, d0, r5⟩ := list_at hat' hbl hlt'
          rw [List.getElem_map] at d0 r5
          have HA := mkHid (args_right ht h200 hlt)
          have HT := mkHid (flats_take t hlt)
          have htk1 := flat_take_le t (k + 1)
          rw [HT.out] at htk1
          go_wp2_with (go_at_call 14; refine (right_lit rfl r5 HA.out).mono ?_; rintro e w5 ⟨rfl, hb5⟩; have d1 := keep d0 hb5; clear d0)
          go_round
          case rel => exact ⟨k + 1, by omega, by go_num, by rw [HT.out]; congr 1; omega, hbl.then hb5⟩
          case measure => simp [intOf]; omega
        · obtain rfl : k = t.args.length := by omega
          have e0 := keep c0 hbl
          have e1 := keep c1 hbl
          have e2 := keep c2 hbl
          rw [HN.out] at e2
          have tF : ((1 + ((flats t.args).length : Int)) == (t.flat.length : Int)) = true := by
            have := HF.out
            rw [List.take_length] at this
            simp; omega
          clear c0 c1 c2
          go_wp2_with (first
            | (go_at_call 34; refine (make_lit t.hd.s (l := t.args.map Tm.flat) (by simp) (r4.below hbl) (by simp; omega) hf.s HM.out (m := t.flat.length) rfl).mono ?_; rintro e w6 ⟨a6, cap6, rfl, r6, hb6⟩)
            | (go_at_call 16; refine (same_lit rfl r6 rfl ((rw4.below hbl).below hb6) (decide_eq_true rfl)).mono ?_; rintro e w7 ⟨rfl, hb7⟩))
          go_ret
          exact ⟨rfl, ((hb04.then hbl).then hb6).then hb7⟩
    · have t3 : (t.hd.k != 3) = true := by simp [h3]
      have ha0 : t.args.length = 0 := by
        have h' := (ok_iff t).1 ht
        rw [h'.2.1]; unfold ar; rw [if_neg h3]
      have hl1 : t.flat.length = 1 := by
        rw [flat_cons, List.eq_nil_of_length_eq_zero ha0]; rfl
      have HL := mkHid hl1
      have HA0 : Hid (0 = (t.args.map Tm.flat).length) := by rw [Hid, List.length_map, ha0]
      have hl1' : ((t.flat.length : Int) == 1) = true := by rw [hl1]; rfl
      clear h3 ha0 hl1
      go_enter Try.func5, Try.ntmps5
      go_wp2_with (first
        | (go_at_call 12; refine (head_any _).mono ?_; rintro e w1 ⟨rfl, hb1⟩)
        | (go_at_call 13; refine (great_no hg).mono ?_; rintro e w2 ⟨rfl, hb2⟩)
        | (go_at_call 14; refine (right_lit rfl ((hr.below hb1).below hb2) hR).mono ?_; rintro e w3 ⟨rfl, hb3⟩)
        | (go_at_call 26; refine (parts_lit rfl (((hr.below hb1).below hb2).below hb3) hR HP.out (m := 0) HA0.out).mono ?_; rintro e w4 ⟨a4, cap4, rfl, r4, hb4⟩; have hb04 := ((hb1.then hb2).then hb3).then hb4; have rw4 := hr.below hb04; obtain ⟨b, off, rfl, hb, hat⟩ := rw4.cases.resolve_left (fun e => by rw [e] at h0; simp at h0); obtain ⟨c0, c1, c2, hf⟩ := cel_at hat (Below.refl _ _) h0; rw [hhd] at c0 c1 c2 hf; simp only [Nat.zero_mul, Nat.add_zero] at c0 c1 c2))
      go_ret
      exact ⟨rfl, hb04⟩
end Go.Proofs.Ytkbgdpgmnigcbaa
