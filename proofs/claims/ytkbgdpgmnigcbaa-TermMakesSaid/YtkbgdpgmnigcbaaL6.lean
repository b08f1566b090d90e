import Derived.Test.YtkbgdpgmnigcbaaL4
namespace Go.Proofs.Ytkbgdpgmnigcbaa
open Go.RowKit

theorem all_trees (l : List (List Cel)) (h : l.all rightB = true) : ∃ ts : List Tm, oks ts ∧ l = ts.map Tm.flat := by
  induction l with
  | nil => exact ⟨[], trivial, rfl⟩
  | cons p l ih =>
    simp only [List.all_cons, Bool.and_eq_true] at h
    obtain ⟨t, ht, e, _⟩ := right_tm h.1
    obtain ⟨ts, hts, e2⟩ := ih h.2
    exact ⟨t :: ts, ⟨ht, hts⟩, by rw [e, e2]; rfl⟩
theorem make_parts {nm : ByteArray} {l : List (List Cel)} (h : ¬ makeL nm l = []) : rightB (makeL nm l) = true ∧ partsL (makeL nm l) = l := by
  unfold makeL at h ⊢
  by_cases hc : (l.all rightB && rightB (madeL nm l)) = true
  · rw [if_pos hc]
    simp only [Bool.and_eq_true] at hc
    refine ⟨hc.2, ?_⟩
    obtain ⟨ts, hts, e⟩ := all_trees l hc.1
    obtain ⟨c, r, e2, hok, _⟩ := right_sk hc.2
    have e3 : (⟨3, nm, l.length⟩ : Cel) = c := (List.cons.inj e2).1
    have hok' : (Tm.mk ⟨3, nm, l.length⟩ ts).ok := by
      refine ⟨by rw [e3]; exact hok, ?_, hts⟩
      unfold ar; rw [if_pos rfl, e]; simp
    have hf : madeL nm l = (Tm.mk ⟨3, nm, l.length⟩ ts).flat := by
      unfold madeL
      simp only [Tm.flat]
      congr 1
      conv => lhs; rw [e]
      exact flatten_flat ts
    rw [hf, parts_flat hok', e]
    rfl
  · rw [if_neg hc] at h; exact (h rfl).elim

set_option maxHeartbeats 2000000 in
theorem lawMakes_any (w : World) (nm : ByteArray) (hs : nm.size ≤ 9223372036854775807) (l : List (List Cel)) (a : Option Addr) (cap : Nat) (hr : Row w a cap l) :
    Calls Try.prog 4 #[.string nm, .slice a l.length cap] w fun e w' => e = .returned (.bool true) ∧ Below w.heap.size w w' := by
  have hm := hr.max
  have hle := hr.le
  by_cases h40 : 40 < nm.size
  · go_enter Try.func4, Try.ntmps4
    go_wp2_with (go_at_call 12; refine (head_any _).mono ?_; rintro e w1 ⟨rfl, hb1⟩)
    go_ret
    exact ⟨rfl, hb1⟩
  by_cases h10 : 10 < l.length
  · go_enter Try.func4, Try.ntmps4
    go_wp2_with (go_at_call 12; refine (head_any _).mono ?_; rintro e w1 ⟨rfl, hb1⟩)
    go_ret
    exact ⟨rfl, hb1⟩
  go_enter Try.func4, Try.ntmps4
  go_wp2_with (go_at_call 12; refine (head_any _).mono ?_; rintro e w1 ⟨rfl, hb1⟩)
  go_loopw [6] (fun i wr => ∃ k : Nat, k ≤ l.length ∧ i = .int .i64 k ∧ Below w.heap.size w wr) (fun i wr => l.length - (intOf i).toNat)
  case atStart => exact ⟨0, Nat.zero_le _, rfl, hb1⟩
  case round =>
    obtain ⟨k, hk, rfl, hbl⟩ := hrel
    by_cases hlt : k < l.length
    · obtain ⟨b, off, rfl, hb, hat⟩ := hr.cases.resolve_left (fun e => by simp [e] at hlt)
      obtain ⟨a1, cap1, c0, hr1⟩ := list_at hat hbl hlt
      by_cases hg : 300 < l[k].length
      · go_wp2_with (go_at_call 13; refine (great_yes hg).mono ?_; rintro e w2 ⟨rfl, hb2⟩)
        go_ret
        exact ⟨rfl, hbl.then hb2⟩
      · go_wp2_with (go_at_call 13; refine (great_no hg).mono ?_; rintro e w2 ⟨rfl, hb2⟩)
        go_round
        case rel => exact ⟨k + 1, by omega, by go_num, hbl.then hb2⟩
        case measure => simp [intOf]; omega
    · have hr1 := hr.below hbl
      by_cases hz : makeL nm l = []
      · have HZ : Hid (0 = (makeL nm l).length) := by rw [Hid, hz]; rfl
        clear hz
        go_wp2_with (first
          | (go_at_call 34; refine (make_lit nm rfl hr1 (by omega) hs rfl HZ.out).mono ?_; rintro e w2 ⟨a2, cap2, rfl, r2, hb2⟩)
          | (go_at_call 35; refine (refmake_any a cap nm _ l (hr1.below hb2) (by omega) hs).mono ?_; rintro e w3 ⟨a3, cap3, rfl, r3, hb3⟩)
          | (go_at_call 17; refine (refsame_lit HZ.out (r2.below hb3) rfl r3 (decide_eq_true rfl)).mono ?_; rintro e w4 ⟨rfl, hb4⟩))
        go_ret
        exact ⟨rfl, ((hbl.then hb2).then hb3).then hb4⟩
      · obtain ⟨hR, hP⟩ := make_parts hz
        have HP := mkHid hP
        have hz' : (((makeL nm l).length : Int) == 0) = false := by
          cases e : makeL nm l with
          | nil => exact absurd e hz
          | cons c r => simp; omega
        clear hz hP
        go_wp2_with (first
          | (go_at_call 34; refine (make_lit nm rfl hr1 (by omega) hs rfl rfl).mono ?_; rintro e w2 ⟨a2, cap2, rfl, r2, hb2⟩)
          | (go_at_call 35; refine (refmake_any a cap nm _ l (hr1.below hb2) (by omega) hs).mono ?_; rintro e w3 ⟨a3, cap3, rfl, r3, hb3⟩)
          | (go_at_call 17; refine (refsame_lit rfl (r2.below hb3) rfl r3 (decide_eq_true rfl)).mono ?_; rintro e w4 ⟨rfl, hb4⟩)
          | (go_at_call 14; refine (right_lit rfl ((r2.below hb3).below hb4) hR).mono ?_; rintro e w5 ⟨rfl, hb5⟩)
          | (go_at_call 26; refine (parts_lit rfl (((r2.below hb3).below hb4).below hb5) hR HP.out rfl).mono ?_; rintro e w6 ⟨a6, cap6, rfl, r6, hb6⟩)
          | (go_at_call 25; refine (sameall_lit rfl r6 rfl (((((hr1.below hb2).below hb3).below hb4).below hb5).below hb6) (decide_eq_true rfl)).mono ?_; rintro e w7 ⟨rfl, hb7⟩))
        go_ret
        exact ⟨rfl, (((((hbl.then hb2).then hb3).then hb4).then hb5).then hb6).then hb7⟩
end Go.Proofs.Ytkbgdpgmnigcbaa
