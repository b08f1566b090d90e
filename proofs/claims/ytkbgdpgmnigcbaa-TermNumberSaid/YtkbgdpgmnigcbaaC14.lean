import Derived.Test.YtkbgdpgmnigcbaaC13
import Derived.Test.YtkbgdpgmnigcbaaS3
namespace Go.Proofs.Ytkbgdpgmnigcbaa
open Go.RowKit

set_option maxHeartbeats 1600000 in
theorem shift_any (a : Option Addr) (cap : Nat) (d : Int) (w : World) (xs : List Cel) (hr : Row w a cap xs) (hl : xs.length ≤ 1000000) (h0 : 0 < xs.length) :
    Calls Try.prog 28 #[.slice a xs.length cap, .int .i64 d] w fun e w' => ∃ a' cap', e = .returned (.slice a' (shiftL xs d).length cap') ∧ Row w' a' cap' (shiftL xs d) ∧ Below w.heap.size w w' := by
  have hm := hr.max
  have hle := hr.le
  have hfit := mkHid hr.fit
  go_enter Try.func28, Try.ntmps28
  go_wp2_with
    (go_at_call 42; refine (clone_any a cap _ xs hr hl).mono ?_; rintro e w1 ⟨v, rfl, hown, hb1⟩)
  obtain ⟨g, cp, rfl, hg1, hg2, hg3, hg4⟩ := own_form hown h0
  go_loopw [12] (fun i wr => ∃ k : Nat, k ≤ xs.length ∧ i = .int .i64 k ∧ wr.ownsRow w.heap.size 40 3 (.slice (some ⟨g, 0, none⟩) xs.length cp) xs.length (flat (upTo (shiftC d) xs k)) ∧ Below w.heap.size w wr) (fun i wr => xs.length - (intOf i).toNat)
  case atStart => exact ⟨0, Nat.zero_le _, rfl, by rw [upTo_zero]; exact hown, hb1⟩
  case round =>
    clear hown
    obtain ⟨k, hk, rfl, hown, hbl⟩ := hrel
    have hgl := (hown.lt g rfl).2
    by_cases hlt : k < xs.length
    · 
      obtain ⟨b, off, rfl, hb, hat⟩ := hr.cases.resolve_left (fun e => by simp [e] at hlt)
      obtain ⟨c0, c1, c2, hf⟩ := cel_at hat hbl hlt
      obtain ⟨_, _, o2⟩ := own_cel hown (upTo_at _ _ hlt)
      have hbx := hbl.new (.cells #[.int .i64 xs[k].k, .string xs[k].s, .int .i64 xs[k].n] 40)
      have hox := hown.alloc (.cells #[.int .i64 xs[k].k, .string xs[k].s, .int .i64 xs[k].n] 40)
      have hfz := own_free hown (k * 3 + 2)
      by_cases h1 : xs[k].k = 1
      · have t1 : (xs[k].k == 1) = true := by simp [h1]
        have hs := own_store hown hlt (show shiftC d xs[k] = ⟨xs[k].k, xs[k].s, wrap64 (xs[k].n + d)⟩ from if_pos h1)
        have HS := mkHid (hs.alloc (.cells #[.int .i64 xs[k].k, .string xs[k].s, .int .i64 xs[k].n] 40))
        have HB := mkHid ((hbl.setCell (p := ⟨g, k * 3 + 2, none⟩) hg1 (.int .i64 (wrap64 (xs[k].n + d)))).new (.cells #[.int .i64 xs[k].k, .string xs[k].s, .int .i64 xs[k].n] 40))
        clear h1 hs
        go_wp2
        go_round
        case rel => exact ⟨k + 1, by omega, by go_num, HS.out, HB.out⟩
        case measure => simp [intOf]; omega
      · have t1 : (xs[k].k == 1) = false := by simp [h1]
        have HE := mkHid (upTo_same (shiftC d) xs hlt (if_neg h1))
        clear h1
        go_wp2
        go_round
        case rel => exact ⟨k + 1, by omega, by go_num, by rw [HE.out]; exact hox, hbx⟩
        case measure => simp [intOf]; omega
    · have hu := upTo_all (shiftC d) xs (k := k) (by omega)
      rw [hu] at hown
      have hml : (xs.map (shiftC d)).length = xs.length := by simp
      have hfm : ∀ c ∈ xs.map (shiftC d), c.fit := fun c hc => by
        obtain ⟨c', hc', rfl⟩ := List.mem_map.1 hc
        exact shiftC_fit (hfit.out c' hc')
      obtain ⟨a2, cap2, ev, hrow⟩ := own_row (xs := xs.map (shiftC d)) (by rw [hml]; exact hown) hfm
      rw [hml] at ev
      injection ev with ev1 _ ev2
      subst ev1
      subst ev2
      have hcall := right_any (some ⟨g, 0, none⟩) cp wr (xs.map (shiftC d)) hrow
      rw [hml] at hcall
      have HC := mkHid hcall
      have HM := mkHid hml
      clear hcall hu hml
      cases hR : rightB (xs.map (shiftC d)) with
      | true =>
        have HZ : Hid (shiftL xs d = xs.map (shiftC d)) := if_pos hR
        have HR := mkHid hR
        clear hR
        go_wp2_with (go_at_call 14; refine HC.out.mono ?_; rintro e w2 ⟨rfl, hb2⟩; rw [HR.out])
        go_ret
        rw [HZ.out]
        exact ⟨some ⟨g, 0, none⟩, cp, by rw [HM.out]; rfl, hrow.below hb2, hbl.then hb2⟩
      | false =>
        have HZ : Hid (shiftL xs d = []) := if_neg (by rw [hR]; simp)
        have HR := mkHid hR
        clear hR
        go_wp2_with (go_at_call 14; refine HC.out.mono ?_; rintro e w2 ⟨rfl, hb2⟩; rw [HR.out])
        go_ret
        rw [HZ.out]
        exact ⟨none, 0, rfl, Row.empty _ _ _ (by omega) (fun _ => rfl), hbl.then hb2⟩

set_option maxHeartbeats 1600000 in
theorem refshift_any (a : Option Addr) (cap : Nat) (d : Int) (w : World) (xs : List Cel) (hr : Row w a cap xs) (hl : xs.length ≤ 1000000) (h0 : 0 < xs.length) :
    Calls Try.prog 29 #[.slice a xs.length cap, .int .i64 d] w fun e w' => ∃ a' cap', e = .returned (.slice a' (shiftL xs d).length cap') ∧ Row w' a' cap' (shiftL xs d) ∧ Below w.heap.size w w' := by
  have hm := hr.max
  have hle := hr.le
  have hfit := mkHid hr.fit
  have hm0 := World.ownsRow_made (base := w.heap.size) (e := 40) (size := 3) w #[] 0 (Nat.le_refl _) (by unfold maxLen; omega) rfl
  have hb0 := (Below.refl w.heap.size w).new (.cells #[] 40)
  go_enter Try.func29, Try.ntmps29
  go_wp2_with
    (at_builtin; refine wpList_app rfl _ _ 22 rfl w.heap.size 40 3 32 _ Try.underlying22 Try.infoCell rfl (by decide) (by decide) _ 0 [] rfl hm0 a xs.length cap (flat xs) rfl ((hr.below hb0).src) (by omega) (by simp) ?_; intro v w1 hown _ hb1')
  rw [Nat.zero_add, List.nil_append] at hown
  have hb1 := hb0.trans hb1'
  obtain ⟨g, cp, rfl, hg1, hg2, hg3, hg4⟩ := own_form hown h0
  go_loopw [6] (fun i wr => ∃ k : Nat, k ≤ xs.length ∧ i = .int .i64 k ∧ wr.ownsRow w.heap.size 40 3 (.slice (some ⟨g, 0, none⟩) xs.length cp) xs.length (flat (upTo (shiftC d) xs k)) ∧ Below w.heap.size w wr) (fun i wr => xs.length - (intOf i).toNat)
  case atStart => exact ⟨0, Nat.zero_le _, rfl, by rw [upTo_zero]; exact hown, hb1⟩
  case round =>
    clear hown
    obtain ⟨k, hk, rfl, hown, hbl⟩ := hrel
    have hgl := (hown.lt g rfl).2
    by_cases hlt : k < xs.length
    · 
      obtain ⟨o0, _, o2⟩ := own_cel hown (upTo_at _ _ hlt)
      have hbx := hbl
      have hox := hown
      have hfz := own_free hown (k * 3 + 2)
      by_cases h1 : xs[k].k = 1
      · have t1 : (xs[k].k == 1) = true := by simp [h1]
        have hs := own_store hown hlt (show shiftC d xs[k] = ⟨xs[k].k, xs[k].s, wrap64 (xs[k].n + d)⟩ from if_pos h1)
        have HS := mkHid hs
        have HB := mkHid (hbx.setCell (p := ⟨g, k * 3 + 2, none⟩) hg1 (.int .i64 (wrap64 (xs[k].n + d))))
        clear h1 hs
        go_wp2
        go_round
        case rel => exact ⟨k + 1, by omega, by go_num, HS.out, HB.out⟩
        case measure => simp [intOf]; omega
      · have t1 : (xs[k].k == 1) = false := by simp [h1]
        have HE := mkHid (upTo_same (shiftC d) xs hlt (if_neg h1))
        clear h1
        go_wp2
        go_round
        case rel => exact ⟨k + 1, by omega, by go_num, by rw [HE.out]; exact hox, hbx⟩
        case measure => simp [intOf]; omega
    · have hu := upTo_all (shiftC d) xs (k := k) (by omega)
      rw [hu] at hown
      have hml : (xs.map (shiftC d)).length = xs.length := by simp
      have hfm : ∀ c ∈ xs.map (shiftC d), c.fit := fun c hc => by
        obtain ⟨c', hc', rfl⟩ := List.mem_map.1 hc
        exact shiftC_fit (hfit.out c' hc')
      obtain ⟨a2, cap2, ev, hrow⟩ := own_row (xs := xs.map (shiftC d)) (by rw [hml]; exact hown) hfm
      rw [hml] at ev
      injection ev with ev1 _ ev2
      subst ev1
      subst ev2
      have hcall := refright_any (some ⟨g, 0, none⟩) cp wr (xs.map (shiftC d)) hrow
      rw [hml] at hcall
      have HC := mkHid hcall
      have HM := mkHid hml
      clear hcall hu hml
      cases hR : rightB (xs.map (shiftC d)) with
      | true =>
        have HZ : Hid (shiftL xs d = xs.map (shiftC d)) := if_pos hR
        have HR := mkHid hR
        clear hR
        go_wp2_with (go_at_call 15; refine HC.out.mono ?_; rintro e w2 ⟨rfl, hb2⟩; rw [HR.out])
        go_ret
        rw [HZ.out]
        exact ⟨some ⟨g, 0, none⟩, cp, by rw [HM.out]; rfl, hrow.below hb2, hbl.then hb2⟩
      | false =>
        have HZ : Hid (shiftL xs d = []) := if_neg (by rw [hR]; simp)
        have HR := mkHid hR
        clear hR
        go_wp2_with (go_at_call 15; refine HC.out.mono ?_; rintro e w2 ⟨rfl, hb2⟩; rw [HR.out])
        go_ret
        rw [HZ.out]
        exact ⟨none, 0, rfl, Row.empty _ _ _ (by omega) (fun _ => rfl), hbl.then hb2⟩
end Go.Proofs.Ytkbgdpgmnigcbaa
