import Derived.Test.YtkbgdpgmnigcbaaC9
import Derived.Test.YtkbgdpgmnigcbaaApp
import Derived.Test.YtkbgdpgmnigcbaaS2
namespace Go.Proofs.Ytkbgdpgmnigcbaa
open Go.RowKit

theorem Try.infoSl : (Try.prog.info? 22).map (fun i => (i.zero, i.size, i.bytes)) = some (some (.slice none 0 0), 1, 24) := by kernel_rfl
theorem passI_at {xs : List Cel} {j : Nat} (h : rightB xs = true) (hj : j < ar0 xs) : passI xs (aN xs j) = aN xs (j + 1) := by
  unfold passI; rw [if_pos (by omega), Int.toNat_natCast, (right_next h hj).2]
theorem take_drop_len {xs : List Cel} {j : Nat} (h : rightB xs = true) (hj : j < ar0 xs) : aN xs (j + 1) - aN xs j = (partJ xs j).length := (partJ_length h hj).symm

set_option maxHeartbeats 1600000 in
theorem parts_any (a : Option Addr) (cap : Nat) (w : World) (xs : List Cel) (hr : Row w a cap xs) (hR : rightB xs = true) :
    Calls Try.prog 26 #[.slice a xs.length cap] w fun e w' => ∃ a' cap', e = .returned (.slice a' (partsL xs).length cap') ∧ Row w' a' cap' (partsL xs) ∧ Below w.heap.size w w' := by
  have hm := hr.max
  have hle := hr.le
  have h6 := ar_le6 hR
  obtain ⟨c, l, e0, hc, _, h200⟩ := right_sk hR
  have h0 : 0 < xs.length := by rw [e0]; simp
  have hc0 : xs[0] = c := by simp [e0]
  have har : ar0 xs = ar xs[0] := by rw [hc0, e0]; rfl
  have HA : Hid (arI xs[0] = ar0 xs) := by rw [Hid, har, hc0]; exact arI_ar hc
  have HR := mkHid hR
  clear hR e0 hc hc0 har
  obtain ⟨b, off, rfl, hb, hat⟩ := hr.cases.resolve_left (fun e => by simp [e] at h0)
  go_enter Try.func26, Try.ntmps26
  go_wp2_with (first
    | (go_at_call 14; refine (right_any _ cap _ xs hr).mono ?_; rintro e w1 ⟨rfl, hb1⟩; rw [HR.out]; obtain ⟨c0, c1, c2, hf⟩ := cel_at hat hb1 h0; simp only [Nat.zero_mul, Nat.add_zero] at c0 c1 c2)
    | (go_at_call 41; refine (arguments_any xs[0] _).mono ?_; rintro e w2 ⟨rfl, hb2⟩; rw [HA.out]))
  have hb12 := hb1.then hb2
  clear c0 c1 c2
  go_loopw [3, 4, 13] (fun v i j wr => ∃ (k : Nat) (vs : List Value), k ≤ ar0 xs ∧ j = .int .i64 k ∧ i = .int .i64 (aN xs k) ∧ wr.ownsRow w.heap.size 22 1 v k vs ∧ Below w.heap.size w wr ∧ Hid (SlRows (hide v.ownBlock wr) vs ((List.range k).map (partJ xs)))) (fun v i j wr => ar0 xs - (intOf j).toNat)
  case atStart => exact ⟨0, [], Nat.zero_le _, rfl, by unfold aN; rw [afterI_zero (by omega)]; rfl, World.ownsRow_nil _ _ _ _, hb12, SlRows.nil _⟩
  case round =>
    obtain ⟨k, vs, hk, rfl, rfl, hown, hbl, HS⟩ := hrel
    by_cases hlt : k < ar0 xs
    · have hra := (right_after HR.out hk).2
      have hrb := (right_after HR.out (show k + 1 ≤ ar0 xs from hlt)).2
      have hrn := (right_next HR.out hlt).1
      have HP := mkHid (passI_at HR.out hlt)
      obtain ⟨q1, q2, _⟩ := hra
      obtain ⟨q3, q4, _⟩ := hrb
      have hr1 := hr.below hbl
      go_wp2_with (go_at_call 38; refine (behind_any _ cap (aN xs k) _ xs hr1 (by omega) (by omega) (by omega)).mono ?_; rintro e w3 ⟨rfl, hb3⟩; rw [HP.out])
      have hrow3 := (hr1.below hb3).slice (i := aN xs k) (j := aN xs (k + 1)) (by omega) q4
      have hfit : ∀ c ∈ partJ xs k, c.fit := hrow3.fit
      refine (clone_any' _ _ _ _ (partJ xs k) (take_drop_len HR.out hlt) hrow3 (by have := partJ_length HR.out hlt; omega)).mono ?_
      rintro e w4 ⟨v1, rfl, hown4, hb4⟩
      have hown1 := own_below (own_below hown hb3) hb4
      have hlt4 := hown4.lt
      obtain ⟨a1, cap1, rfl, hrow4⟩ := own_row (own_hide (r := u3.ownBlock) hown4 (fun g hg => (own_below hown hb3).lt g hg |>.2)) hfit
      have hbl4 := (hbl.then hb3).then hb4
      have HS4 := mkHid (((HS.out.keeps (below_hide hb3 _)).keeps (below_hide hb4 _)).snoc hrow4)
      go_wp2_with (at_builtin; refine wpList_app2 rfl _ _ 31 rfl w.heap.size 22 1 24 _ Try.underlying31 Try.infoSl rfl (by decide) (by decide) _ k _ rfl (hown1.alloc _) ⟨_, 0, none⟩ 1 1 [.slice a1 (partJ xs k).length cap1] rfl (src_new _ #[.slice a1 (partJ xs k).length cap1] _ 1 rfl (by simp [Value.oneCell'])) (by omega) (Nat.le_trans hbl4.size (by simp)) ?_; intro v' w5 hown5 _ hb5 hk5)
      go_round
      case rel => exact ⟨k + 1, vs ++ [.slice a1 (partJ xs k).length cap1], by omega, by go_num, rfl, hown5, (hbl4.new _).trans hb5, by rw [parts_succ]; exact (HS4.out.keeps (alloc_hide _ _ _)).keeps hk5⟩
      case measure => simp [intOf]; omega
    · obtain rfl : k = ar0 xs := by omega
      have hS := HS.out.keeps (hide_keeps _ _)
      have hl : (partsL xs).length = ar0 xs := by simp [partsL]
      obtain ⟨a', cap', rfl, hrow'⟩ := own_rowL (e := 22) (B := w.heap.size) (v := u3) (ps := partsL xs) (by rw [hl]; exact hown) hS
      have HL := mkHid hl
      clear hl
      go_wp2
      go_ret
      exact ⟨a', cap', rfl, hrow', hbl⟩
end Go.Proofs.Ytkbgdpgmnigcbaa
