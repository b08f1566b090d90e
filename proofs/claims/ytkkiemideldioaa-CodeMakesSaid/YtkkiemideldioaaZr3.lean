import Derived.Test.YtkkiemideldioaaZr2
import Derived.OneCell
import Derived.ArgAppend
import Derived.Deep.LoopGhost
import Derived.OrdersHeld
import Derived.Deep.RegionHeld3
namespace Go.Proofs.Ytkkiemideldioaa
open Go.RowKit

set_option maxHeartbeats 400000 in
theorem run_eql_cel (x y : Cel) (w : World) : (binOp .eql 45 (.agg #[.int .i64 x.k, .string x.s, .int .i64 x.n]) (.agg #[.int .i64 y.k, .string y.s, .int .i64 y.n])).run Try.prog w = .ok (.bool (decide (x = y))) w := by
  by_cases h1 : x.k = y.k
  · by_cases h2 : x.s = y.s
    · by_cases h3 : x.n = y.n
      · go_simp
        exact (Cel.eq_iff x y).2 ⟨h1, h2, h3⟩
      · have h4 : ¬ x = y := fun e => h3 (by rw [e])
        have h5 : (x.n == y.n) = false := by simp [h3]
        go_simp
    · have h4 : ¬ x = y := fun e => h2 (by rw [e])
      have h5 : (x.s.toList == y.s.toList) = false := by simp [toList_inj, h2]
      go_simp
  · have h4 : ¬ x = y := fun e => h1 (by rw [e])
    have h5 : (x.k == y.k) = false := by simp [h1]
    go_simp

def compR : List Cel → List Cel → Int
  | x :: xs, y :: ys => if x = y then compR xs ys else cellCmp x y
  | _, _ => 0
theorem compR_step {xs ys : List Cel} {k : Nat} (hx : k < xs.length) (hy : k < ys.length) : compR (xs.drop k) (ys.drop k) = if xs[k] = ys[k] then compR (xs.drop (k + 1)) (ys.drop (k + 1)) else cellCmp xs[k] ys[k] := by
  rw [List.drop_eq_getElem_cons hx, List.drop_eq_getElem_cons hy]; rfl
theorem compR_end {xs ys : List Cel} {k : Nat} (h : xs.length ≤ k ∨ ys.length ≤ k) : compR (xs.drop k) (ys.drop k) = 0 := by
  rcases h with h | h
  · rw [List.drop_eq_nil_of_le h]; simp [compR]
  · rw [List.drop_eq_nil_of_le h]; cases xs.drop k <;> simp [compR]
theorem cmp_neg {x y : Cel} (h : x.k < y.k ∨ x.k = y.k ∧ (x.n < y.n ∨ x.n = y.n ∧ Op.bytesLess x.s.toList y.s.toList = true)) : cellCmp x y = -1 := by
  unfold cellCmp cmpI cmpS
  rcases h with h | ⟨h1, h | ⟨h2, h3⟩⟩
  · rw [if_neg (by omega), if_pos h]
  · rw [if_pos h1, if_neg (by omega), if_pos h]
  · rw [if_pos h1, if_pos h2, if_pos h3]
theorem cmp_pos {x y : Cel} (he : ¬ x = y) (h1 : ¬ x.k < y.k) (h : ¬ x.k = y.k ∨ ¬ x.n < y.n ∧ (¬ x.n = y.n ∨ Op.bytesLess x.s.toList y.s.toList = false)) : cellCmp x y = 1 := by
  unfold cellCmp cmpI cmpS
  by_cases h2 : x.k = y.k
  · rw [if_pos h2]
    obtain ⟨h3, h4⟩ := h.resolve_left (fun h => h h2)
    by_cases h5 : x.n = y.n
    · rw [if_pos h5, if_neg (by rw [h4.resolve_left (fun h => h h5)]; simp)]
      rw [if_neg]
      intro e
      exact he ((Cel.eq_iff x y).2 ⟨h2, e, h5⟩)
    · rw [if_neg h5, if_neg h3, if_pos (by omega)]
  · rw [if_neg h2, if_neg h1, if_pos (by omega)]

theorem ground_take {xs : List Cel} {k : Nat} (h : k < xs.length) (h1 : groundB (xs.take k) = true) (h2 : ¬ xs[k].k = 1) : groundB (xs.take (k + 1)) = true := by
  rw [List.take_succ_eq_append_getElem h]
  unfold groundB at h1 ⊢
  rw [List.all_append, h1]; simp [h2]
theorem ground_bad {xs : List Cel} {k : Nat} (h : k < xs.length) (h2 : xs[k].k = 1) : groundB xs = false := by
  unfold groundB
  rw [List.all_eq_false]
  exact ⟨xs[k], List.getElem_mem h, by simp [h2]⟩

end Go.Proofs.Ytkkiemideldioaa
namespace Go.Proofs.Ytkkiemideldioaa
open Go.RowKit

theorem Try.infoSl : (Try.prog.info? 22).map (fun i => (i.zero, i.size, i.bytes)) = some (some (.slice none 0 0), 1, 24) := by kernel_rfl
theorem passI_at {xs : List Cel} {j : Nat} (h : rightB xs = true) (hj : j < ar0 xs) : passI xs (aN xs j) = aN xs (j + 1) := by
  unfold passI; rw [if_pos (by omega), Int.toNat_natCast, (right_next h hj).2]
theorem take_drop_len {xs : List Cel} {j : Nat} (h : rightB xs = true) (hj : j < ar0 xs) : aN xs (j + 1) - aN xs j = (partJ xs j).length := (partJ_length h hj).symm

set_option maxHeartbeats 1600000 in
theorem parts_any (a : Option Addr) (cap : Nat) (w : World) (xs : List Cel) (hr : Row w a cap xs) (hR : rightB xs = true) :
    Calls Try.prog 117 #[.slice a xs.length cap] w fun e w' => ∃ a' cap', e = .returned (.slice a' (partsL xs).length cap') ∧ Row w' a' cap' (partsL xs) ∧ Below w.heap.size w w' := by
  have hm := hr.max
  have hle := hr.le
  have h6 := ar_le6 hR
  obtain ⟨c, l, e0, hc, _, h200⟩ := right_sk hR
  have h0 : 0 < xs.length := by rw [e0]; simp
  have hc0 : xs[0] = c := by simp [e0]
  have har : ar0 xs = ar xs[0] := by rw [hc0, e0]; rfl
  have HA : Hid (arI xs[0] = ar0 xs) := by rw [Hid, har, hc0]; exact arI_ar hc
  have HR := mkHid hR
  clear hR e0 hc hc0 har
  obtain ⟨b, off, rfl, hb, hat⟩ := hr.cases.resolve_left (fun e => by simp [e] at h0)
  go_enter Try.func117, Try.ntmps117
  go_wp2_with (first
    | (go_at_call 83; refine (right_any _ cap _ xs hr).mono ?_; rintro e w1 ⟨rfl, hb1⟩; rw [HR.out]; obtain ⟨c0, c1, c2, hf⟩ := cel_at hat hb1 h0; simp only [Nat.zero_mul, Nat.add_zero] at c0 c1 c2)
    | (go_at_call 148; refine (arguments_any xs[0] _).mono ?_; rintro e w2 ⟨rfl, hb2⟩; rw [HA.out]))
  have hb12 := hb1.then hb2
  clear c0 c1 c2
  go_loopw [3, 4, 13] (fun v i j wr => ∃ (k : Nat) (vs : List Value), k ≤ ar0 xs ∧ j = .int .i64 k ∧ i = .int .i64 (aN xs k) ∧ wr.ownsRow w.heap.size 22 1 v k vs ∧ Below w.heap.size w wr ∧ Hid (SlRows (hide v.ownBlock wr) vs ((List.range k).map (partJ xs)))) (fun v i j wr => ar0 xs - (intOf j).toNat)
  case atStart => exact ⟨0, [], Nat.zero_le _, rfl, by unfold aN; rw [afterI_zero (by omega)]; rfl, World.ownsRow_nil _ _ _ _, hb12, SlRows.nil _⟩
  case round =>
    obtain ⟨k, vs, hk, rfl, rfl, hown, hbl, HS⟩ := hrel
    by_cases hlt : k < ar0 xs
    · have hra := (right_after HR.out hk).2
      have hrb := (right_after HR.out (show k + 1 ≤ ar0 xs from hlt)).2
      have hrn := (right_next HR.out hlt).1
      have HP := mkHid (passI_at HR.out hlt)
      obtain ⟨q1, q2, _⟩ := hra
      obtain ⟨q3, q4, _⟩ := hrb
      have hr1 := hr.below hbl
      go_wp2_with (go_at_call 134; refine (behind_any _ cap (aN xs k) _ xs hr1 (by omega) (by omega) (by omega)).mono ?_; rintro e w3 ⟨rfl, hb3⟩; rw [HP.out])
      have hrow3 := (hr1.below hb3).slice (i := aN xs k) (j := aN xs (k + 1)) (by omega) q4
      have hfit : ∀ c ∈ partJ xs k, c.fit := hrow3.fit
      refine (clone_any' _ _ _ _ (partJ xs k) (take_drop_len HR.out hlt) hrow3 (by have := partJ_length HR.out hlt; omega)).mono ?_
      rintro e w4 ⟨v1, rfl, hown4, hb4⟩
      have hown1 := own_below (own_below hown hb3) hb4
      have hlt4 := hown4.lt
      obtain ⟨a1, cap1, rfl, hrow4⟩ := own_row (own_hide (r := u3.ownBlock) hown4 (fun g hg => (own_below hown hb3).lt g hg |>.2)) hfit
      have hbl4 := (hbl.then hb3).then hb4
      have HS4 := mkHid (((HS.out.keeps (below_hide hb3 _)).keeps (below_hide hb4 _)).snoc hrow4)
      go_wp2_with (at_builtin; refine wpList_app2 rfl _ _ 52 rfl w.heap.size 22 1 24 _ Try.underlying52 Try.infoSl rfl (by decide) (by decide) _ k _ rfl (hown1.alloc _) ⟨_, 0, none⟩ 1 1 [.slice a1 (partJ xs k).length cap1] rfl (src_new _ #[.slice a1 (partJ xs k).length cap1] _ 1 rfl (by simp [Value.oneCell'])) (by omega) (Nat.le_trans hbl4.size (by simp)) ?_; intro v' w5 hown5 _ hb5 hk5)
      go_round
      case rel => exact ⟨k + 1, vs ++ [.slice a1 (partJ xs k).length cap1], by omega, by go_num, rfl, hown5, (hbl4.new _).trans hb5, by rw [parts_succ]; exact (HS4.out.keeps (alloc_hide _ _ _)).keeps hk5⟩
      case measure => simp [intOf]; omega
    · obtain rfl : k = ar0 xs := by omega
      have hS := HS.out.keeps (hide_keeps _ _)
      have hl : (partsL xs).length = ar0 xs := by simp [partsL]
      obtain ⟨a', cap', rfl, hrow'⟩ := own_rowL (e := 22) (B := w.heap.size) (v := u3) (ps := partsL xs) (by rw [hl]; exact hown) hS
      have HL := mkHid hl
      clear hl
      go_wp2
      go_ret
      exact ⟨a', cap', rfl, hrow', hbl⟩
end Go.Proofs.Ytkkiemideldioaa
namespace Go.Proofs.Ytkkiemideldioaa
open Go.RowKit

set_option maxHeartbeats 1600000 in
theorem refparts_any (a : Option Addr) (cap : Nat) (w : World) (xs : List Cel) (hr : Row w a cap xs) (hR : rightB xs = true) :
    Calls Try.prog 29 #[.slice a xs.length cap] w fun e w' => ∃ a' cap', e = .returned (.slice a' (partsL xs).length cap') ∧ Row w' a' cap' (partsL xs) ∧ Below w.heap.size w w' := by
  have hm := hr.max
  have hle := hr.le
  have h6 := ar_le6 hR
  obtain ⟨c, l, e0, hc, _, h200⟩ := right_sk hR
  have h0 : 0 < xs.length := by rw [e0]; simp
  have hc0 : xs[0] = c := by simp [e0]
  have har : ar0 xs = ar xs[0] := by rw [hc0, e0]; rfl
  have hm0 := World.ownsRow_made (base := w.heap.size) (e := 22) (size := 1) w #[] 0 (Nat.le_refl _) (by unfold maxLen; omega) rfl
  have hb0 := (Below.refl w.heap.size w).new (.cells #[] 22)
  have hl0 : ((xs.length : Int) == 0) = false := by simp; intro e; simp [e] at h0
  obtain ⟨b, off, rfl, hb, hat⟩ := hr.cases.resolve_left (fun e => by simp [e] at h0)
  obtain ⟨c0, c1, c2, hf⟩ := cel_at hat (Below.refl _ _) h0
  simp only [Nat.zero_mul, Nat.add_zero] at c0 c1 c2
  by_cases h3 : xs[0].k = 3
  · have t3 : (xs[0].k != 3) = false := by simp [h3]
    have hn : xs[0].n = ar0 xs := by
      have := arI_ar hc; rw [← hc0] at this; rw [har, ← this]; unfold arI; rw [if_pos h3]
    have HN := mkHid hn
    have HR := mkHid hR
    clear hR e0 hc hc0 har h3 hn
    go_enter Try.func29, Try.ntmps29
    go_wp2_with fail
    go_loopw [3, 4, 5] (fun v i j wr => ∃ (k : Nat) (vs : List Value), k ≤ ar0 xs ∧ j = .int .i64 k ∧ i = .int .i64 (aN xs k) ∧ wr.ownsRow w.heap.size 22 1 v k vs ∧ Below w.heap.size w wr ∧ Hid (SlRows w vs ((List.range k).map (partJ xs)))) (fun v i j wr => ar0 xs - (intOf j).toNat)
    case atStart => exact ⟨0, [], Nat.zero_le _, rfl, by unfold aN; rw [afterI_zero (by omega)]; rfl, hm0, hb0, SlRows.nil _⟩
    case round =>
      obtain ⟨k, vs, hk, rfl, rfl, hown, hbl, HS⟩ := hrel
      have d2 : wr.cell? ⟨b, off + 2, none⟩ = some (.int .i64 (ar0 xs)) := by rw [← HN.out]; exact keep c2 hbl
      clear c0 c1 c2
      by_cases hlt : k < ar0 xs
      · have hra := (right_after HR.out hk).2
        have hrb := (right_after HR.out (show k + 1 ≤ ar0 xs from hlt)).2
        have hrn := (right_next HR.out hlt).1
        have HP := mkHid (right_next HR.out hlt).2
        obtain ⟨q1, q2, _⟩ := hra
        obtain ⟨q3, q4, _⟩ := hrb
        have hr1 := hr.below hbl
        have hrow3 := hr.slice (i := aN xs k) (j := aN xs (k + 1)) (by omega) q4
        have HS4 := mkHid (HS.out.snoc hrow3)
        have HL := mkHid (take_drop_len HR.out hlt)
        go_wp2_with (first
          | (go_at_call 71; refine (refend_any _ cap (aN xs k) _ xs hr1 (by omega) (by omega)).mono ?_; rintro e w3 ⟨rfl, hb3⟩; rw [HP.out]; have hown3 := own_below hown hb3; have hbl3 := hbl.then hb3)
          | (at_builtin; refine wpList_app rfl _ _ 52 rfl w.heap.size 22 1 24 _ Try.underlying52 Try.infoSl rfl (by decide) (by decide) _ k _ rfl (hown3.alloc _) (some ⟨_, 0, none⟩) 1 1 [.slice (some ⟨b, off + aN xs k * 3, none⟩) (aN xs (k + 1) - aN xs k) (cap - aN xs k)] rfl (src_new _ #[.slice (some ⟨b, off + aN xs k * 3, none⟩) (aN xs (k + 1) - aN xs k) (cap - aN xs k)] _ 1 rfl (by simp [Value.oneCell'])) (by omega) (Nat.le_trans hbl3.size (by simp)) ?_; intro v' w5 hown5 _ hb5))
        go_round
        case rel => exact ⟨k + 1, vs ++ [.slice (some ⟨b, off + aN xs k * 3, none⟩) (aN xs (k + 1) - aN xs k) (cap - aN xs k)], by omega, by go_num, rfl, hown5, (hbl3.new _).trans hb5, by rw [parts_succ, HL.out]; exact HS4.out⟩
        case measure => simp [intOf]; omega
      · obtain rfl : k = ar0 xs := by omega
        have hl : (partsL xs).length = ar0 xs := by simp [partsL]
        obtain ⟨a', cap', rfl, hrow'⟩ := own_rowL (e := 22) (B := w.heap.size) (v := u3) (ps := partsL xs) (by rw [hl]; exact hown) (HS.out.keeps (Keeps.of hbl))
        have HL := mkHid hl
        clear hl
        go_wp2
        go_ret
        exact ⟨a', cap', rfl, hrow', hbl⟩
  · have t3 : (xs[0].k != 3) = true := by simp [h3]
    have hp : partsL xs = [] := by unfold partsL; rw [har]; unfold ar; rw [if_neg h3]; rfl
    have HP := mkHid hp
    clear hR e0 hc hc0 har h3 hp
    go_enter Try.func29, Try.ntmps29
    go_wp2_with fail
    go_ret
    rw [HP.out]
    exact ⟨_, _, rfl, Row.empty _ _ _ (by omega) (by simp), hb0⟩

theorem sameall_ne {xs ys : List (List Cel)} {k : Nat} (hx : k < xs.length) (hy : k < ys.length) (h : ¬ xs[k] = ys[k]) : ¬ xs = ys := by
  intro e; subst e; exact h rfl
end Go.Proofs.Ytkkiemideldioaa
namespace Go.Proofs.Ytkkiemideldioaa
open Go.RowKit

theorem grown_trans {a b c : World} {r : Option Nat} (h : a.grownBy b r) (k : b.grownBy c r) : a.grownBy c r :=
  ⟨k.os.trans h.os, k.tape.trans h.tape, k.output.trans h.output, Nat.le_trans h.size k.size, fun i hi hn => (k.block i (Nat.lt_of_lt_of_le hi h.size) hn).trans (h.block i hi hn)⟩
theorem grown_set (w : World) (g o : Nat) (v : Value) : w.grownBy (w.setCell ⟨g, o, none⟩ v) (some g) :=
  ⟨rfl, rfl, rfl, by simp [World.setCell], fun k _ hn => Below.heap_setCell w ⟨g, o, none⟩ v k (fun e => hn (by rw [e]))⟩
theorem max_nat (a b : Nat) : ((max a b : Nat) : Int) = if (a : Int) < b then (b : Int) else a := by omega

theorem drop_arg {xs r : List Cel} {i : Nat} {t : Tm} (h : xs.drop i = t.flat ++ r) {k : Nat} (hk : k < t.args.length) : xs.drop (i + 1 + (flats (t.args.take k)).length) = t.args[k].flat ++ (flats (t.args.drop (k + 1)) ++ r) := by
  have hs : t.args = t.args.take k ++ (t.args[k] :: t.args.drop (k + 1)) := by
    rw [← List.drop_eq_getElem_cons hk, List.take_append_drop]
  have hf : flats t.args = flats (t.args.take k) ++ (t.args[k].flat ++ flats (t.args.drop (k + 1))) := by
    conv => lhs; rw [hs]
    rw [flats_append]; rfl
  rw [Nat.add_assoc, ← List.drop_drop, h, flat_cons t, hf, Nat.add_comm 1, List.cons_append, List.drop_succ_cons, List.append_assoc, List.drop_left, List.append_assoc]
theorem depths_take (t : Tm) {k : Nat} (hk : k < t.args.length) : depths (t.args.take (k + 1)) = max (depths (t.args.take k)) t.args[k].depth := by
  rw [List.take_succ_eq_append_getElem hk, depths_append]; simp [depths]
theorem flats_take (t : Tm) {k : Nat} (hk : k < t.args.length) : (flats (t.args.take (k + 1))).length = (flats (t.args.take k)).length + t.args[k].flat.length := by
  rw [List.take_succ_eq_append_getElem hk, flats_append]; simp [flats]
theorem depths_small (t : Tm) (k : Nat) (h : t.flat.length ≤ 1000) : depths (t.args.take k) ≤ 1000 := by
  have h1 := depths_le (t.args.take k)
  have hs : t.args = t.args.take k ++ t.args.drop k := (List.take_append_drop _ _).symm
  have := congrArg List.length (congrArg flats hs)
  rw [flats_append, List.length_append] at this
  rw [flat_cons t, List.length_cons] at h
  omega

theorem args_le6 {t : Tm} (h : t.ok) : t.args.length ≤ 6 := by
  have h := (ok_iff t).1 h
  rw [h.2.1]; exact ar_le _ h.1

end Go.Proofs.Ytkkiemideldioaa
namespace Go.Proofs.Ytkkiemideldioaa
open Go.RowKit

end Go.Proofs.Ytkkiemideldioaa
namespace Go.Proofs.Ytkkiemideldioaa
open Go.RowKit

/-- cells changed one by one: the first k of them -/
def upTo (f : Cel → Cel) (xs : List Cel) (k : Nat) : List Cel := (xs.take k).map f ++ xs.drop k
theorem upTo_length (f : Cel → Cel) (xs : List Cel) (k : Nat) : (upTo f xs k).length = xs.length := by
  simp [upTo]; omega
theorem upTo_zero (f : Cel → Cel) (xs : List Cel) : upTo f xs 0 = xs := by simp [upTo]
theorem upTo_all (f : Cel → Cel) (xs : List Cel) {k : Nat} (h : xs.length ≤ k) : upTo f xs k = xs.map f := by
  simp [upTo, List.take_of_length_le h, List.drop_eq_nil_of_le h]
theorem upTo_at (f : Cel → Cel) (xs : List Cel) {k : Nat} (h : k < xs.length) : (upTo f xs k)[k]? = some xs[k] := by
  unfold upTo
  rw [List.getElem?_append_right (by simp; omega), List.length_map, List.length_take, Nat.min_eq_left (Nat.le_of_lt h), Nat.sub_self, List.getElem?_drop]
  simp
theorem upTo_succ (f : Cel → Cel) (xs : List Cel) {k : Nat} (h : k < xs.length) : upTo f xs (k + 1) = (upTo f xs k).set k (f xs[k]) := by
  unfold upTo
  rw [List.take_succ_eq_append_getElem h, List.map_append, List.drop_eq_getElem_cons h, List.append_assoc]
  rw [List.set_append_right _ _ (by simp; omega), List.length_map, List.length_take, Nat.min_eq_left (Nat.le_of_lt h), Nat.sub_self]
  rfl
theorem upTo_same (f : Cel → Cel) (xs : List Cel) {k : Nat} (h : k < xs.length) (e : f xs[k] = xs[k]) : upTo f xs (k + 1) = upTo f xs k := by
  rw [upTo_succ f xs h, e]
  refine List.ext_getElem? fun i => ?_
  rw [List.getElem?_set]
  split
  · rename_i hi
    subst hi
    rw [if_pos (by rw [upTo_length]; exact h), upTo_at f xs h]
  · rfl
theorem flat_set (xs : List Cel) (i : Nat) (hi : i < xs.length) (m : Int) : (flat xs).set (i * 3 + 2) (.int .i64 m) = flat (xs.set i { xs[i] with n := m }) := by
  induction xs generalizing i with
  | nil => simp at hi
  | cons c xs ih =>
    cases i with
    | zero => simp [flat]
    | succ i =>
      have := ih i (by simpa using hi)
      have hf : flat (c :: xs) = .int .i64 c.k :: .string c.s :: .int .i64 c.n :: flat xs := rfl
      rw [hf, show (i + 1) * 3 + 2 = i * 3 + 2 + 1 + 1 + 1 by omega]
      simp only [List.set_cons_succ, List.getElem_cons_succ]
      rw [this]; rfl
theorem wrap64_range (n : Int) : -9223372036854775808 ≤ wrap64 n ∧ wrap64 n ≤ 9223372036854775807 := by
  unfold wrap64; omega
/-- one variable shifted -/
def shiftC (d : Int) (c : Cel) : Cel := if c.k = 1 then { c with n := wrap64 (c.n + d) } else c
def shiftL (xs : List Cel) (d : Int) : List Cel := if rightB (xs.map (shiftC d)) then xs.map (shiftC d) else []
theorem shiftC_fit {d : Int} {c : Cel} (h : c.fit) : (shiftC d c).fit := by
  unfold shiftC
  have hw := wrap64_range (c.n + d)
  split
  · exact ⟨h.k1, h.k2, hw.1, hw.2, h.s⟩
  · exact h
theorem upTo_fit {f : Cel → Cel} {xs : List Cel} {k : Nat} (hf : ∀ c ∈ xs, c.fit) (h : ∀ c : Cel, c.fit → (f c).fit) : ∀ c ∈ upTo f xs k, c.fit := by
  intro c hc
  unfold upTo at hc
  rcases List.mem_append.1 hc with h1 | h1
  · obtain ⟨d, hd, rfl⟩ := List.mem_map.1 h1
    exact h d (hf d (List.mem_of_mem_take hd))
  · exact hf c (List.mem_of_mem_drop h1)
/-- a row of the call's own that holds something -/
theorem own_form {w : World} {B e size : Nat} {v : Value} {n : Nat} {vs : List Value} (h : w.ownsRow B e size v n vs) (hn : 0 < n) :
    ∃ g cap, v = .slice (some ⟨g, 0, none⟩) n cap ∧ B ≤ g ∧ g < w.heap.size ∧ n ≤ cap ∧ cap ≤ 9223372036854775807 := by
  rcases h.2 with ⟨_, h0⟩ | ⟨g, cap, cur, rfl, hb, hg, hc, hm, _⟩
  · omega
  · exact ⟨g, cap, rfl, hb, (Array.getElem?_eq_some_iff.1 hg).1, hc, by unfold maxLen at hm; omega⟩
theorem own_cel {w : World} {B e g n cap : Nat} {ys : List Cel} (h : w.ownsRow B e 3 (.slice (some ⟨g, 0, none⟩) n cap) n (flat ys)) {k : Nat} {c : Cel} (hc : ys[k]? = some c) :
    w.cell? ⟨g, k * 3, none⟩ = some (.int .i64 c.k) ∧ w.cell? ⟨g, k * 3 + 1, none⟩ = some (.string c.s) ∧ w.cell? ⟨g, k * 3 + 2, none⟩ = some (.int .i64 c.n) := by
  have hl : k < ys.length := (List.getElem?_eq_some_iff.1 hc).1
  have he : ys[k] = c := by rw [List.getElem?_eq_getElem hl] at hc; exact Option.some.inj hc
  obtain ⟨f0, f1, f2⟩ := flat_at ys k hl
  rw [he] at f0 f1 f2
  exact ⟨own_cells h _ _ f0, own_cells h _ _ f1, own_cells h _ _ f2⟩
/-- one number stored into a row of cells -/
theorem own_store {w : World} {B e g n cap : Nat} {f : Cel → Cel} {xs : List Cel} {k : Nat} (h : w.ownsRow B e 3 (.slice (some ⟨g, 0, none⟩) n cap) n (flat (upTo f xs k))) (hk : k < xs.length) {m : Int} (hf : f xs[k] = ⟨xs[k].k, xs[k].s, m⟩) :
    (w.setCell ⟨g, k * 3 + 2, none⟩ (.int .i64 m)).ownsRow B e 3 (.slice (some ⟨g, 0, none⟩) n cap) n (flat (upTo f xs (k + 1))) := by
  have := (h.stored (k * 3 + 2) (.int .i64 m)).1
  have hl : k < (upTo f xs k).length := by rw [upTo_length]; exact hk
  have he : (upTo f xs k)[k] = xs[k] := by
    have := upTo_at f xs hk; rw [List.getElem?_eq_getElem hl] at this; exact Option.some.inj this
  rw [flat_set _ _ hl, he] at this
  have hf' : f xs[k] = { xs[k] with n := m } := hf
  rw [← hf', ← upTo_succ f xs hk] at this
  exact this
theorem own_free {w : World} {B e size g n cap : Nat} {vs : List Value} (h : w.ownsRow B e size (.slice (some ⟨g, 0, none⟩) n cap) n vs) (j : Nat) : w.frozen? ⟨g, j, none⟩ = false := h.frozenAt j
end Go.Proofs.Ytkkiemideldioaa
namespace Go.Proofs.Ytkkiemideldioaa
open Go.RowKit

end Go.Proofs.Ytkkiemideldioaa
namespace Go.Proofs.Ytkkiemideldioaa
open Go.RowKit

theorem varsGo_nodup (xs : List Cel) : ∀ acc : List Int, acc.Nodup → (varsGo acc xs).Nodup := by
  induction xs with
  | nil => intro acc h; exact h
  | cons c l ih =>
    intro acc h
    refine ih _ ?_
    split
    · rename_i hc
      rw [List.nodup_append]
      refine ⟨h, by simp, ?_⟩
      intro a ha b hb
      simp at hb
      subst hb
      intro e; subst e
      exact hc.2 ha
    · exact h
theorem varsGo_sub (xs : List Cel) : ∀ (acc : List Int) (n : Int), n ∈ acc → n ∈ varsGo acc xs := by
  induction xs with
  | nil => intro acc n h; exact h
  | cons c l ih =>
    intro acc n h
    refine ih _ _ ?_
    split
    · exact List.mem_append_left _ h
    · exact h
theorem mem_varsGo (xs : List Cel) : ∀ (acc : List Int), ∀ c ∈ xs, c.k = 1 → c.n ∈ varsGo acc xs := by
  induction xs with
  | nil => intro acc c h; simp at h
  | cons d l ih =>
    intro acc c h hc
    rcases List.mem_cons.1 h with rfl | h
    · simp only [varsGo]
      refine varsGo_sub _ _ _ ?_
      split
      · simp
      · rename_i h1
        by_cases h2 : c.n ∈ acc
        · exact h2
        · exact absurd ⟨hc, h2⟩ h1
    · exact ih _ c h hc
/-- one variable numbered -/
def numC (vs : List Int) (c : Cel) : Cel := if c.k = 1 then ⟨c.k, c.s, placeI vs c.n⟩ else c
def numL (xs : List Cel) : List Cel := xs.map (numC (varsL xs))
theorem placeI_range (vs : List Int) (n : Int) (h : vs.length ≤ 1000000) : -1 ≤ placeI vs n ∧ placeI vs n ≤ 1000000 := by
  unfold placeI
  split
  · have := List.idxOf_le_length (a := n) (l := vs); omega
  · omega
theorem numC_fit {vs : List Int} {c : Cel} (hv : vs.length ≤ 1000000) (h : c.fit) : (numC vs c).fit := by
  unfold numC
  have := placeI_range vs c.n hv
  split
  · exact ⟨h.k1, h.k2, by show -9223372036854775808 ≤ placeI vs c.n; omega, by show placeI vs c.n ≤ 9223372036854775807; omega, h.s⟩
  · exact h
/-- what a map of the first k places says -/
def placeF (vs : List Int) (k : Nat) : Int → Int := fun i => if i ∈ vs.take k then (vs.idxOf i : Int) else 0
theorem placeF_succ {vs : List Int} (hn : vs.Nodup) {k : Nat} (hk : k < vs.length) : (fun j => if j = vs[k] then ((k : Nat) : Int) else placeF vs k j) = placeF vs (k + 1) := by
  funext j
  have hiff : j ∈ vs.take (k + 1) ↔ j ∈ vs.take k ∨ j = vs[k] := by
    rw [List.take_succ_eq_append_getElem hk, List.mem_append, List.mem_singleton]
  unfold placeF
  by_cases e : j = vs[k]
  · have h1 : vs.idxOf vs[k] = k := hn.idxOf_getElem k hk
    rw [if_pos e, if_pos (hiff.2 (.inr e)), e, h1]
  · rw [if_neg e]
    by_cases h2 : j ∈ vs.take k
    · rw [if_pos h2, if_pos (hiff.2 (.inl h2))]
    · rw [if_neg h2, if_neg (fun h => (hiff.1 h).elim h2 e)]
theorem placeF_all {vs : List Int} {k : Nat} (hk : vs.length ≤ k) {i : Int} (hi : i ∈ vs) : placeF vs k i = placeI vs i := by
  unfold placeF placeI
  rw [List.take_of_length_le hk, if_pos hi, if_pos hi]
theorem Try.zeroInt (w : World) : (zeroValue 3).run Try.prog w = .ok (.int .i64 0) w := by kernel_rfl

theorem map_hide {w : World} {P : Program} {k e : TypeId} {b n : Nat} {f : Int → Int} (h : MapII P k e w b n f) : Keeps w (hide (some b) w) := by
  obtain ⟨D, ⟨es, clock, hb, _⟩, _⟩ := h
  intro b' o v hc
  refine hide_of_ne (fun e => ?_) hc
  subst e
  simp [World.cell?, hb] at hc

theorem own_mono {w : World} {B B' e size : Nat} {v : Value} {n : Nat} {vs : List Value} (h : w.ownsRow B e size v n vs) (hB : B' ≤ B) : w.ownsRow B' e size v n vs := by
  refine ⟨h.1, ?_⟩
  rcases h.2 with h | ⟨g, cap, cur, e, hb, rest⟩
  · exact .inl h
  · exact .inr ⟨g, cap, cur, e, Nat.le_trans hB hb, rest⟩

end Go.Proofs.Ytkkiemideldioaa
set_option linter.unusedVariables false
namespace Go.Proofs.Ytkkiemideldioaa
open Go.RowKit

set_option maxHeartbeats 1600000 in
theorem fresh_any (w : World) (B L g : Nat) (vc : Value) (m : MkS) (k j : Nat) (hM : MkM w B L g vc m k j) (hl : m.next ≤ 1000000) :
    Calls Try.prog 120 #[.pointer (some ⟨L, 0, none⟩)] w (KPost w B L g vc m.fresh (k + 1) (j + 1) (.int .i64 m.next)) := by
  have c1 := hM.c1
  have f1 := hM.froz 1
  have hn := hM.next.1
  have HM := mkHid hM.step
  have hfr : Fr (kB L g vc) w (w.setCell ⟨L, 1, none⟩ (.int .i64 (m.next + 1))) := (Fr.refl _ _).set (by simp [kB]) _
  have HF := mkHid hfr
  clear hM hfr
  generalize m.next = n at *
  go_enter Try.func120, Try.ntmps120
  go_wp2_with fail
  go_ret
  exact ⟨ret_int (by omega), _, HM.out, HF.out, .inl rfl⟩
theorem Ins.fit_of {a b c e : Int} {s : ByteArray} {x : Bool} (h1 : -9223372036854775808 ≤ a ∧ a ≤ 9223372036854775807) (h2 : -9223372036854775808 ≤ b ∧ b ≤ 9223372036854775807) (h3 : -9223372036854775808 ≤ c ∧ c ≤ 9223372036854775807) (h4 : -9223372036854775808 ≤ e ∧ e ≤ 9223372036854775807) (h5 : s.size ≤ 9223372036854775807) : (Ins.mk a b c s e x).fit :=
  ⟨h1.1, h1.2, h2.1, h2.2, h3.1, h3.2, h5, h4.1, h4.2⟩
theorem var_some {m : MkS} {n r : Int} (h : m.at_ n = some r) (f ag a : Int) : m.var n f ag a = m.lay ⟨ag, r, a, ⟨#[]⟩, 0, false⟩ := by
  unfold MkS.var; rw [h]
theorem var_none {m : MkS} {n : Int} (h : m.at_ n = none) (f ag a : Int) : m.var n f ag a = (m.fresh.met n m.next).lay ⟨f, m.next, a, ⟨#[]⟩, 0, false⟩ := by
  unfold MkS.var; rw [h]; rfl
set_option maxRecDepth 100000 in
set_option maxHeartbeats 3200000 in
theorem variable_any (w : World) (B L g : Nat) (vc : Value) (m : MkS) (k j : Nat) (n f ag a : Int) (hM : MkM w B L g vc m k j) (hl : m.code.length ≤ 900000) (hk : k ≤ 1000) (hn1 : -9223372036854775808 ≤ n) (hn2 : n ≤ 9223372036854775807) (hf : 0 ≤ f ∧ f ≤ 100) (hag : 0 ≤ ag ∧ ag ≤ 100) (ha : -9223372036854775808 ≤ a ∧ a ≤ 9223372036854775807) :
    Calls Try.prog 150 #[.pointer (some ⟨L, 0, none⟩), .int .i64 n, .int .i64 f, .int .i64 ag, .int .i64 a] w (KPost w B L g vc (m.var n f ag a) k j (.tuple #[])) := by
  have hwf := wf64 hn1 hn2
  have hnx := hM.next
  have c2 := hM.c2
  have hlk : (Instr.lookup 86 (.map (some g)) (.int .i64 n) true).run Try.prog w = .ok (.tuple #[((m.at_ n).map (Value.int .i64)).getD (.int .i64 0), .bool ((m.at_ n).map (Value.int .i64)).isSome]) w := by
    obtain ⟨q, _, hq⟩ := hM.map
    exact hq.run_ok (t := 86) (e := 3) Try.underlying3 Try.underlying86 (Try.zeroInt _) hwf
  have HM := mkHid hM
  have HREG := mkHid hM.reg
  clear hM
  cases hat : m.at_ n with
  | some r =>
    have HV := mkHid (var_some hat f ag a)
    have hr := HREG.out n r hat
    rw [hat] at hlk
    simp only [Option.map_some, Option.getD_some, Option.isSome_some] at hlk
    clear hat
    go_enter Try.func150, Try.ntmps150
    go_wp2_with fail
    refine (lay_any w B L g vc m k j ⟨ag, r, a, ⟨#[]⟩, 0, false⟩ (HM.out.slack (by omega) (Nat.le_refl _)) (Ins.fit_of (by omega) (by omega) ha (by omega) (by decide)) (by omega)).mono ?_
    rintro e w2 ⟨rfl, vc2, hM2, hF2, hN2⟩
    have HP : Hid (∃ vc', MkM w2 B L g vc' (m.lay ⟨ag, r, a, ⟨#[]⟩, 0, false⟩) k j ∧ Fr (kB L g vc) w w2 ∧ NewAtN w vc vc') := ⟨vc2, hM2, hF2, hN2⟩
    clear hM2 hF2 hN2
    go_wp2_with fail
    refine bodyPost_ret (results_none rfl _ _ _) rfl ⟨rfl, ?_⟩
    rw [HV.out]
    exact HP.out
  | none =>
    have HV := mkHid (var_none hat f ag a)
    rw [hat] at hlk
    simp only [Option.map_none, Option.getD_none, Option.isSome_none] at hlk
    clear hat
    go_enter Try.func150, Try.ntmps150
    go_wp2_with fail
    refine (fresh_any w B L g vc m k j HM.out (by omega)).mono ?_
    rintro e w2 ⟨rfl, vc2, hM2, hF2, hN2⟩
    have d2 := hM2.c2
    obtain ⟨q, hq, hmap⟩ := hM2.map
    have HM2 := mkHid hM2
    have HF2 := mkHid hF2
    have HN2 := mkHid hN2
    have hcl : m.fresh.code.length = m.code.length := rfl
    have hfx : m.fresh.next = m.next + 1 := rfl
    have hqq : (q : Int) ≤ 1000000 := by omega
    have HCL := mkHid hcl
    have HFX := mkHid hfx
    have HQ := mkHid hq
    clear c2 hM2 hF2 hN2 hcl hfx hq hlk
    go_wp2_with (at_mapUpdate; refine hmap.wpl_update rfl _ _ _ rfl Try.underlying3 Try.underlying86 (by rfl) (by omega) n (by rfl) hwf (.int .i64 m.next) (by rfl) ?_; intro w3 hmap3 hg3; have HM3 := mkHid (HM2.out.meet hmap3 (by have := HQ.out; omega) hg3 (by have := HFX.out; omega)); have HF3 : Hid (Fr (kB L g vc) w w3) := HF2.out.trans ((grown_frN hg3).sub (by simp [kB])); have HS3 := mkHid hg3.size)
    refine (lay_any w3 B L g vc2 (m.fresh.met n m.next) k j ⟨f, m.next, a, ⟨#[]⟩, 0, false⟩ HM3.out (Ins.fit_of (by omega) (by omega) ha (by omega) (by decide)) (by show m.code.length ≤ _; omega)).mono ?_
    rintro e w4 ⟨rfl, vc4, hM4, hF4, hN4⟩
    have HP : Hid (∃ vc', MkM w4 B L g vc' ((m.fresh.met n m.next).lay ⟨f, m.next, a, ⟨#[]⟩, 0, false⟩) k j ∧ Fr (kB L g vc) w w4 ∧ NewAtN w vc vc') := ⟨vc4, hM4, frK_trans HF3.out HN2.out hF4, newAtN_trans HN2.out HF3.out.size hN4⟩
    clear hM4 hF4 hN4
    go_wp2_with fail
    refine bodyPost_ret (results_none rfl _ _ _) rfl ⟨rfl, ?_⟩
    rw [HV.out]
    exact HP.out
set_option maxRecDepth 100000 in
set_option maxHeartbeats 3200000 in
theorem set_any (w : World) (B L g : Nat) (vc : Value) (m : MkS) (c : Cel) (r : Int) (hM : MkM w B L g vc m 0 0) (hl : m.code.length ≤ 900000) (hc : c.fit) (hr : -9223372036854775808 ≤ r ∧ r ≤ 9223372036854775807) :
    Calls Try.prog 121 #[.pointer (some ⟨L, 0, none⟩), c.v, .int .i64 r] w (KPost w B L g vc (setS c r m) 0 0 (.tuple #[])) := by
  obtain ⟨ck, cs, cn⟩ := c
  have hn1 := hc.n1
  have hn2 := hc.n2
  have hb1 := (Below.refl w.heap.size w).new (.cells #[.int .i64 ck, .string cs, .int .i64 cn] 45)
  have HM1 := mkHid (hM.below hb1)
  have HF1 : Hid (Fr (kB L g vc) w (w.alloc (.cells #[.int .i64 ck, .string cs, .int .i64 cn] 45))) := Fr.of hb1
  have HSZ : Hid (w.heap.size ≤ (w.alloc (.cells #[.int .i64 ck, .string cs, .int .i64 cn] 45)).heap.size) := hb1.size
  clear hM hb1
  dsimp only at hn1 hn2
  have fin : ∀ (m' : MkS) (e : Ending) (W' : World), KPost (w.alloc (.cells #[.int .i64 ck, .string cs, .int .i64 cn] 45)) B L g vc m' 0 0 (.tuple #[]) e W' → KPost w B L g vc m' 0 0 (.tuple #[]) e W' := fun m' e W' h => by
    obtain ⟨h1, v, h2, h3, h4⟩ := h
    exact ⟨h1, v, h2, HF1.out.trans h3, newAtN_trans (.inl rfl) HSZ.out h4⟩
  have FIN := mkHid fin
  clear fin
  by_cases h1 : ck = 1
  · subst h1
    have HS : Hid (setS ⟨1, cs, cn⟩ r m = m.var cn 9 10 0) := by rw [Hid, setS, if_pos rfl]
    go_enter Try.func121, Try.ntmps121
    dsimp only [Cel.v]
    go_wp2_with fail
    refine (variable_any _ B L g vc m 0 0 cn 9 10 0 HM1.out hl (by omega) hn1 hn2 (by omega) (by omega) (by omega)).mono ?_
    rintro e w2 ⟨rfl, h⟩
    have HP := mkHid h
    clear h
    go_wp2_with fail
    refine bodyPost_ret (results_none rfl _ _ _) rfl ?_
    rw [HS.out]
    exact FIN.out _ _ _ ⟨rfl, HP.out⟩
  · by_cases h2 : ck = 2
    · subst h2
      have HS : Hid (setS ⟨2, cs, cn⟩ r m = m.lay ⟨11, 0, 0, ⟨#[]⟩, cn, false⟩) := by rw [Hid, setS, if_neg (by simp), if_pos rfl]
      clear h1
      go_enter Try.func121, Try.ntmps121
      dsimp only [Cel.v]
      go_wp2_with fail
      refine (lay_any _ B L g vc m 0 0 ⟨11, 0, 0, ⟨#[]⟩, cn, false⟩ (HM1.out.slack (by omega) (Nat.le_refl _)) (Ins.fit_of (by omega) (by omega) (by omega) (by omega) (by decide)) (by omega)).mono ?_
      rintro e w2 ⟨rfl, h⟩
      have HP := mkHid h
      clear h
      go_wp2_with fail
      refine bodyPost_ret (results_none rfl _ _ _) rfl ?_
      rw [HS.out]
      exact FIN.out _ _ _ ⟨rfl, HP.out⟩
    · by_cases h3 : ck = 3
      · subst h3
        have HS : Hid (setS ⟨3, cs, cn⟩ r m = m.lay ⟨10, r, 0, ⟨#[]⟩, 0, false⟩) := by rw [Hid, setS, if_neg (by simp), if_neg (by simp), if_pos rfl]
        clear h1 h2
        go_enter Try.func121, Try.ntmps121
        dsimp only [Cel.v]
        go_wp2_with fail
        refine (lay_any _ B L g vc m 0 0 ⟨10, r, 0, ⟨#[]⟩, 0, false⟩ (HM1.out.slack (by omega) (Nat.le_refl _)) (Ins.fit_of (by omega) hr (by omega) (by omega) (by decide)) (by omega)).mono ?_
        rintro e w2 ⟨rfl, h⟩
        have HP := mkHid h
        clear h
        go_wp2_with fail
        refine bodyPost_ret (results_none rfl _ _ _) rfl ?_
        rw [HS.out]
        exact FIN.out _ _ _ ⟨rfl, HP.out⟩
      · have HS : Hid (setS ⟨ck, cs, cn⟩ r m = m) := by rw [Hid, setS, if_neg h1, if_neg h2, if_neg h3]
        have t1 : (ck == 1) = false := by simp [h1]
        have t2 : (ck == 2) = false := by simp [h2]
        have t3 : (ck == 3) = false := by simp [h3]
        clear h1 h2 h3
        go_enter Try.func121, Try.ntmps121
        dsimp only [Cel.v]
        go_wp2_with fail
        refine bodyPost_ret (results_none rfl _ _ _) rfl ?_
        rw [HS.out]
        exact FIN.out _ _ _ ⟨rfl, _, HM1.out, Fr.refl _ _, .inl rfl⟩
end Go.Proofs.Ytkkiemideldioaa
set_option linter.unusedVariables false
namespace Go.Proofs.Ytkkiemideldioaa
open Go.RowKit

/-! ### a row of terms that wait, beside the maker's blocks -/
/-- what a row is read of: no block of us, none below B, not its own -/
def vw (us : List Nat) (B : Nat) (v : Value) (w : World) : World := veil (v.ownBlock.toList ++ us) (under B w)
structure RowP (W : World) (us : List Nat) (B : Nat) (xs : List Pl) (v : Value) : Prop where
  ex : ∃ vs, CRows (vw us B v W) vs xs ∧ ((v = .slice none 0 0 ∧ xs = []) ∨ ∃ g off cap cur, v = .slice (some ⟨g, off, none⟩) xs.length cap ∧ B ≤ g ∧ g ∉ us ∧ W.heap[g]? = some (.cells cur 165 (0, 0)) ∧ xs.length ≤ cap ∧ cap ≤ 9223372036854775807 ∧ off + cap * 2 ≤ cur.size ∧ (cur.toList.drop off).take (xs.length * 2) = vs)
theorem vw_cell {us : List Nat} {B : Nat} {v : Value} {w : World} {b o : Nat} {x : Value} (h : (vw us B v w).cell? ⟨b, o, none⟩ = some x) : B ≤ b ∧ b ∉ us ∧ v.ownBlock ≠ some b ∧ w.cell? ⟨b, o, none⟩ = some x := by
  obtain ⟨h1, h2⟩ := veil_cell h
  obtain ⟨h3, h4⟩ := under_cell h2
  simp at h1
  exact ⟨h3, h1.2, fun e => h1.1 (by simp [e]), h4⟩
theorem vw_of {us : List Nat} {B : Nat} {v : Value} {w : World} {b o : Nat} {x : Value} (h1 : B ≤ b) (h2 : b ∉ us) (h3 : v.ownBlock ≠ some b) (h : w.cell? ⟨b, o, none⟩ = some x) : (vw us B v w).cell? ⟨b, o, none⟩ = some x := by
  refine veil_of ?_ (under_of h1 h)
  simp
  exact ⟨fun e => h3 e, h2⟩
theorem vw_keeps (us : List Nat) (B : Nat) (v : Value) (w : World) : Keeps (vw us B v w) w := fun _ _ _ h => (vw_cell h).2.2.2
theorem RowP.nil (W : World) (us : List Nat) (B : Nat) : RowP W us B [] (.slice none 0 0) := ⟨[], .nil, .inl ⟨rfl, rfl⟩⟩
section
variable {W W' : World} {us us' : List Nat} {B : Nat} {xs ys : List Pl} {v v' : Value}
/-- the maker turned -/
theorem RowP.turn (h : RowP W us B xs v) (hf : Fr us W W') (hk : ∀ b ∈ us', b ∈ us ∨ W.heap.size ≤ b) : RowP W' us' B xs v := by
  obtain ⟨vs, hc, hv⟩ := h.ex
  refine ⟨vs, hc.keeps fun b o x hx => ?_, ?_⟩
  · obtain ⟨h1, h2, h3, h4⟩ := vw_cell hx
    have hl := cell_lt h4
    exact vw_of h1 (fun e => by rcases hk b e with e | e; exact h2 e; omega) h3 ((World.cell?_of_block (w := W) (a := ⟨b, o, none⟩) (hf.block b hl h2)).trans h4)
  · rcases hv with hv | ⟨g, off, cap, cur, e, hB, hg, hb, h1, h2, h3, h4⟩
    · exact .inl hv
    · have hl := (Array.getElem?_eq_some_iff.1 hb).1
      exact .inr ⟨g, off, cap, cur, e, hB, fun e => by rcases hk g e with e | e; exact hg e; omega, (hf.block g hl hg).trans hb, h1, h2, h3, h4⟩
theorem RowP.mono {B' : Nat} (h : RowP W us B xs v) (hB : B' ≤ B) : RowP W us B' xs v := by
  obtain ⟨vs, hc, hv⟩ := h.ex
  refine ⟨vs, hc.keeps fun b o x hx => ?_, hv.imp id fun ⟨g, off, cap, cur, e, h1, rest⟩ => ⟨g, off, cap, cur, e, Nat.le_trans hB h1, rest⟩⟩
  obtain ⟨h1, h2, h3, h4⟩ := vw_cell hx
  exact vw_of (Nat.le_trans hB h1) h2 h3 h4
theorem RowP.below (h : RowP W us B xs v) (hb : Below W.heap.size W W') : RowP W' us B xs v := h.turn (Fr.of hb) (fun b hb => .inl hb)
theorem RowP.lt (h : RowP W us B xs v) : ∀ b, v.ownBlock = some b → B ≤ b ∧ b < W.heap.size := by
  intro b hb
  obtain ⟨vs, hc, hv⟩ := h.ex
  rcases hv with ⟨e, _⟩ | ⟨g, off, cap, cur, e, hB, hg, hb', h1, h2, h3, h4⟩
  · rw [e] at hb; cases hb
  · rw [e] at hb; cases hb
    exact ⟨hB, (Array.getElem?_eq_some_iff.1 hb').1⟩
theorem RowP.slice (h : RowP W us B xs v) : ∃ a cap, v = .slice a xs.length cap ∧ xs.length ≤ cap ∧ cap ≤ 9223372036854775807 ∧ (a = none → cap = 0 ∧ xs = []) := by
  obtain ⟨vs, hc, hv⟩ := h.ex
  rcases hv with ⟨rfl, rfl⟩ | ⟨g, off, cap, cur, rfl, hB, hg, hb, h1, h2, h3, h4⟩
  · exact ⟨none, 0, rfl, Nat.le_refl _, by omega, fun _ => ⟨rfl, rfl⟩⟩
  · exact ⟨_, cap, rfl, h1, h2, fun e => by cases e⟩
/-- the cells of the row in its block -/
theorem RowP.cells {vs : List Value} {g off cap : Nat} {cur : Array Value} (hc : CRows (vw us B v W) vs xs) (hb : W.heap[g]? = some (.cells cur 165 (0, 0))) (h1 : xs.length ≤ cap) (h3 : off + cap * 2 ≤ cur.size) (h4 : (cur.toList.drop off).take (xs.length * 2) = vs) : vs.length = xs.length * 2 ∧ ∀ j u, vs[j]? = some u → W.cell? ⟨g, off + j, none⟩ = some u := by
  have hl : vs.length = xs.length * 2 := hc.len
  refine ⟨hl, fun j u hj => ?_⟩
  rw [← h4, List.getElem?_take] at hj
  split at hj
  · rw [List.getElem?_drop] at hj
    rw [cell_of_row W g (off + j) _ _ _ hb, ← Array.getElem?_toList]
    exact hj
  · cases hj
/-- the first element -/
theorem RowP.head {x : Pl} (h : RowP W us B (x :: xs) v) : ∃ g off cap a c, v = .slice (some ⟨g, off, none⟩) (xs.length + 1) cap ∧ W.cell? ⟨g, off, none⟩ = some (.slice a x.t.length c) ∧ W.cell? ⟨g, off + 1, none⟩ = some (.int .i64 x.r) ∧ Row (vw us B v W) a c x.t ∧ -9223372036854775808 ≤ x.r ∧ x.r ≤ 9223372036854775807 := by
  obtain ⟨vs, hc, hv⟩ := h.ex
  rcases hv with ⟨_, e⟩ | ⟨g, off, cap, cur, e, hB, hg, hb, h1, h2, h3, h4⟩
  · cases e
  · obtain ⟨_, hat⟩ := RowP.cells hc hb h1 h3 h4
    cases hc with
    | cons hx _ =>
      obtain ⟨⟨a, c, rfl, hr⟩, hr1, hr2⟩ := hx
      have c0 := hat 0 (.slice a x.t.length c) (by simp)
      have c1 := hat 1 (.int .i64 x.r) (by simp)
      exact ⟨g, off, cap, a, c, e, c0, c1, hr, hr1, hr2⟩
/-- the row behind its first element; where none has room its address plays no part -/
theorem RowP.tail {x : Pl} {g off cap : Nat} (h : RowP W us B (x :: xs) (.slice (some ⟨g, off, none⟩) (xs.length + 1) cap)) {off' : Nat} (ho : off' = off + 2 ∨ cap - 1 = 0 ∧ off' = off) : RowP W us B xs (.slice (some ⟨g, off', none⟩) xs.length (cap - 1)) := by
  obtain ⟨vs, hc, hv⟩ := h.ex
  rcases hv with ⟨_, e⟩ | ⟨g', off1, cap', cur, e, hB, hg, hb, h1, h2, h3, h4⟩
  · cases e
  · cases e
    cases hc with
    | @cons cs _ vs' _ hx hr =>
      have hcs : cs.length = 2 := RepC.len hx
      simp only [List.length_cons] at h1 h4
      refine ⟨vs', hr, .inr ⟨g, off', cap - 1, cur, rfl, hB, hg, hb, by omega, by omega, by omega, ?_⟩⟩
      rcases ho with rfl | ⟨h0, rfl⟩
      · have e2 := congrArg (List.drop 2) h4
        rw [List.drop_take, List.drop_drop, show cs ++ vs' = cs ++ vs' from rfl, List.drop_append_of_le_length (by omega), ← hcs, List.drop_length, List.nil_append, hcs] at e2
        rw [← e2]; congr 1; omega
      · have hx0 : xs.length = 0 := by omega
        have hv0 : vs' = [] := List.eq_nil_of_length_eq_zero (by have := hr.len; rw [this, hx0]; simp)
        rw [hx0, hv0]; simp
end
set_option maxRecDepth 100000 in
set_option maxHeartbeats 1600000 in
/-- all that append turns: the row's own block, behind what stands there; or nothing -/
theorem RowP.run_append {W : World} {us : List Nat} {B : Nat} {xs ys : List Pl} {v : Value} (h : RowP W us B xs v) (hB : B ≤ W.heap.size) (hu : ∀ b ∈ us, b < W.heap.size) (ty : TypeId) {a : Addr} {m c : Nat} {news : List Value} (hm : m = ys.length) (hn : CRows (veil (v.ownBlock.toList ++ us) (under B W)) news ys)
    (hnews : ∀ j u, news[j]? = some u → W.cell? (a.add j) = some u) (hmax : xs.length + ys.length ≤ 1000000) :
    ∃ v' W', (Builtin.append_ #[163, 163] ty #[v, .slice (some a) m c]).run Try.prog W = .ok v' W' ∧ RowP W' us B (xs ++ ys) v' ∧ W.grownBy W' v.ownBlock ∧ NewAtN W v v' := by
  subst hm
  obtain ⟨i, hi, hz0, hz1, hz2⟩ := info_parts Try.infoPlaced
  have hnl : news.length = ys.length * 2 := hn.len
  have hone : ∀ u ∈ news, u.oneCell' = true := hn.one
  obtain ⟨vs, hc, hv⟩ := h.ex
  have grown : ∀ {v' : Value} {W' : World}, W'.ownsRow W.heap.size 165 2 v' (xs.length + ys.length) (vs ++ news) → W.grownBy W' none → RowP W' us B (xs ++ ys) v' := by
    intro v' W' ho hg
    have hk : ∀ (b : Nat), b < W.heap.size → v'.ownBlock ≠ some b := fun b hb e => by
      rcases ho.2 with ⟨e1, _⟩ | ⟨g, cap, cur, rfl, hb2, _⟩
      · rw [e1] at e; cases e
      · simp only [Value.ownBlock, Option.some.injEq] at e; omega
    have keep1 : ∀ {vs : List Value} {xs : List Pl}, CRows (vw us B v W) vs xs → CRows (vw us B v' W') vs xs := fun hc => hc.keeps fun b o x hx => by
      obtain ⟨h1, h2, h3, h4⟩ := vw_cell hx
      have hl := cell_lt h4
      exact vw_of h1 h2 (hk b hl) ((World.cell?_of_block (w := W) (a := ⟨b, o, none⟩) (hg.block b hl (by simp))).trans h4)
    refine ⟨vs ++ news, (keep1 hc).append (keep1 hn), ?_⟩
    rcases ho.2 with ⟨e1, h0⟩ | ⟨g, cap, cur, rfl, hb2, hgg, h1, h2, h3, h4⟩
    · refine .inl ⟨e1, ?_⟩
      have : (xs ++ ys).length = 0 := by rw [List.length_append]; omega
      exact List.eq_nil_of_length_eq_zero this
    · refine .inr ⟨g, 0, cap, cur, by rw [List.length_append], by omega, fun e => by have := hu g e; omega, hgg, by rw [List.length_append]; omega, by unfold maxLen at h2; omega, by omega, ?_⟩
      rw [List.drop_zero, List.length_append]; exact h4
  have hbytes : (xs.length + ys.length) * 32 ≤ 140737488355328 := by omega
  rcases hv with ⟨rfl, rfl⟩ | ⟨g, off, cap, cur, rfl, hgB, hgu, hb, h1, h2, h3, h4⟩
  · have hvs : vs = [] := by cases hc; rfl
    subst hvs
    obtain ⟨v', W', hr, ho, hg, hw⟩ := run_append_where (P := Try.prog) W W.heap.size 163 ty 165 i (.agg #[.slice none 0 0, .int .i64 0]) 2 32 Try.underlying163 hi hz0 hz1 hz2 rfl (by decide) (.slice none 0 0) 0 [] (World.ownsRow_nil _ _ _ _) a ys.length c news hnl hnews hone (by unfold maxLen; omega) (by simpa using hbytes) (Nat.le_refl _)
    refine ⟨v', W', hr, grown (by simpa using ho) hg, hg, hw.elim .inl (fun e => .inr ⟨_, e, Nat.le_refl _⟩)⟩
  · obtain ⟨hvl, hat⟩ := RowP.cells hc hb h1 h3 h4
    by_cases hroom : xs.length + ys.length ≤ cap
    · have hin : ∀ j, j < news.length → (W.cell? ⟨g, off + xs.length * i.size + j, none⟩).isSome = true ∧ W.frozen? ⟨g, off + xs.length * i.size + j, none⟩ = false := fun j hj => by
        rw [hz1]
        have hlt : off + xs.length * 2 + j < cur.size := by omega
        refine ⟨?_, by simp [World.frozen?, hb]⟩
        rw [cell_of_row W g _ _ _ _ hb, Array.getElem?_eq_getElem hlt]; rfl
      have hr := run_append_room_cells (P := Try.prog) W 163 ty 165 i Try.underlying163 hi g off xs.length cap a ys.length c news (by rw [hz1]; exact hnl) hnews hone hroom (fun j hj => (hin j hj).1) (fun j hj => (hin j hj).2)
      rw [hz1] at hr
      have hset : ∀ (vs : List Value) (o : Nat) (w : World), (w.setCells g o vs).heap.size = w.heap.size ∧ (∀ k, k ≠ g → (w.setCells g o vs).heap[k]? = w.heap[k]?) ∧ (w.setCells g o vs).os = w.os ∧ (w.setCells g o vs).tape = w.tape ∧ (w.setCells g o vs).output = w.output ∧ (∀ cur : Array Value, w.heap[g]? = some (.cells cur 165 (0, 0)) → o + vs.length ≤ cur.size → ∃ cur' : Array Value, (w.setCells g o vs).heap[g]? = some (.cells cur' 165 (0, 0)) ∧ cur'.size = cur.size ∧ cur'.toList = cur.toList.take o ++ vs ++ cur.toList.drop (o + vs.length)) := by
        intro vs
        induction vs with
        | nil => intro o w; exact ⟨rfl, fun _ _ => rfl, rfl, rfl, rfl, fun cur h _ => ⟨cur, h, rfl, by simp⟩⟩
        | cons x vs ih =>
          intro o w
          obtain ⟨i1, i2, i3, i4, i5, i6⟩ := ih (o + 1) (w.setCell ⟨g, o, none⟩ x)
          refine ⟨i1.trans (by simp [World.setCell]), fun k hk => (i2 k hk).trans (Below.heap_setCell w ⟨g, o, none⟩ x k hk), i3, i4, i5, fun cur hcur hle => ?_⟩
          simp only [List.length_cons] at hle
          have hb' : (w.setCell ⟨g, o, none⟩ x).heap[g]? = some (.cells (cur.set! o x) 165 (0, 0)) := by
            simp only [World.setCell, Array.getElem?_modify, if_true, hcur, Option.map_some]
            simp
          obtain ⟨cur', h1, h2, h3⟩ := i6 (cur.set! o x) hb' (by simp; omega)
          refine ⟨cur', h1, by rw [h2]; simp, ?_⟩
          rw [h3]
          have e1 : (cur.set! o x).toList = cur.toList.set o x := by simp
          rw [e1]
          have htl : cur.toList.length = cur.size := by simp
          have hol : o < cur.toList.length := by omega
          rw [List.take_set, List.drop_set_of_lt (by omega)]
          rw [show (cur.toList.take (o + 1)).set o x = cur.toList.take o ++ [x] by
            rw [List.take_succ_eq_append_getElem hol, List.set_append]
            have h9 : (cur.toList.take o).length = o := by rw [List.length_take]; omega
            simp [h9]]
          simp [List.append_assoc, Nat.add_assoc, Nat.add_comm 1]
      obtain ⟨s1, s2, s3, s4, s5, s6⟩ := hset news (off + xs.length * 2) W
      obtain ⟨cur', t1, t2, t3⟩ := s6 cur hb (by omega)
      refine ⟨_, _, hr, ?_, ⟨s3, s4, s5, by rw [s1]; exact Nat.le_refl _, fun k hk hne => s2 k (fun e => hne (by rw [e]; rfl))⟩, .inl rfl⟩
      have keep2 : ∀ {vs : List Value} {xs' : List Pl}, CRows (vw us B (.slice (some ⟨g, off, none⟩) xs.length cap) W) vs xs' → CRows (vw us B (.slice (some ⟨g, off, none⟩) (xs.length + ys.length) cap) (W.setCells g (off + xs.length * 2) news)) vs xs' := fun hc => hc.keeps fun b o x hx => by
        obtain ⟨h1, h2, h3, h4⟩ := vw_cell hx
        refine vw_of h1 h2 h3 ((World.cell?_of_block (w := W) (a := ⟨b, o, none⟩) (s2 b (fun e => h3 (by rw [e]; rfl)))).trans h4)
      refine ⟨vs ++ news, (keep2 hc).append (keep2 hn), .inr ⟨g, off, cap, cur', by rw [List.length_append], hgB, hgu, t1, by rw [List.length_append]; omega, h2, by omega, ?_⟩⟩
      have hcl : off + xs.length * 2 ≤ cur.toList.length := by simp; omega
      rw [t3, List.append_assoc, List.drop_append_of_le_length (by rw [List.length_take]; omega), List.length_append, ← h4]
      have e1 : (cur.toList.take (off + xs.length * 2)).drop off = (cur.toList.drop off).take (xs.length * 2) := by rw [List.drop_take]; congr 1; omega
      rw [e1]
      have hl1 : ((cur.toList.drop off).take (xs.length * 2)).length = xs.length * 2 := by rw [h4]; exact hvl
      rw [List.take_append, hl1, List.take_of_length_le (by omega), List.take_append]
      congr 1
      rw [show (xs.length + ys.length) * 2 - xs.length * 2 = news.length by omega, List.take_length]
      simp
    · obtain ⟨v', W', hr, ho, hg⟩ := run_append_arg_grows (P := Try.prog) W 163 ty 165 i (.agg #[.slice none 0 0, .int .i64 0]) 2 32 Try.underlying163 hi hz0 hz1 hz2 rfl (by decide) ⟨g, off, none⟩ xs.length cap vs hvl (fun j u hj => by rw [Addr.add_lit]; exact hat j u hj) a ys.length c news hnl hnews (by omega) (by unfold maxLen; omega) hbytes
      refine ⟨v', W', hr, grown ho hg, ⟨hg.os, hg.tape, hg.output, hg.size, fun k hk _ => hg.block k hk (by simp)⟩, ?_⟩
      rcases ho.2 with ⟨_, h0⟩ | ⟨g', cap', cur', rfl, hb2, _⟩
      · omega
      · exact .inr ⟨g', rfl, hb2⟩
end Go.Proofs.Ytkkiemideldioaa
set_option linter.unusedVariables false
namespace Go.Proofs.Ytkkiemideldioaa
open Go.RowKit

/-! ### the arguments of a Fun of a head -/
theorem unifyS_cons (t : Tm) (ts : List Tm) (m : MkS) : unifyS (t :: ts) m = if t.hd.k = 1 then unifyS ts (m.var t.hd.n 5 6 0)
    else if t.hd.k = 2 then unifyS ts (m.lay ⟨7, 0, 0, ⟨#[]⟩, t.hd.n, false⟩)
    else if t.hd.k = 3 then ((unifyS ts (m.fresh.lay ⟨5, m.next, 0, ⟨#[]⟩, 0, false⟩)).1, (t, m.next) :: (unifyS ts (m.fresh.lay ⟨5, m.next, 0, ⟨#[]⟩, 0, false⟩)).2)
    else unifyS ts m := by
  conv => lhs; unfold unifyS
theorem unifyS_append (a b : List Tm) : ∀ m : MkS, unifyS (a ++ b) m = ((unifyS b (unifyS a m).1).1, (unifyS a m).2 ++ (unifyS b (unifyS a m).1).2) := by
  induction a with
  | nil => intro m; simp [unifyS]
  | cons t a ih =>
    intro m
    rw [List.cons_append, unifyS_cons t (a ++ b), unifyS_cons t a]
    by_cases h1 : t.hd.k = 1
    · simp only [if_pos h1]; rw [ih]
    · by_cases h2 : t.hd.k = 2
      · simp only [if_neg h1, if_pos h2]; rw [ih]
      · by_cases h3 : t.hd.k = 3
        · simp only [if_neg h1, if_neg h2, if_pos h3]; rw [ih]; simp
        · simp only [if_neg h1, if_neg h2, if_neg h3]; rw [ih]
theorem unifyS_short : ∀ (ts : List Tm) (m : MkS), (unifyS ts m).1.code.length ≤ m.code.length + ts.length ∧ (unifyS ts m).2.length ≤ ts.length
  | [], m => by simp [unifyS]
  | t :: ts, m => by
    unfold unifyS
    simp only [List.length_cons]
    split
    · have := unifyS_short ts (m.var t.hd.n 5 6 0)
      rw [var_len] at this
      omega
    · split
      · have := unifyS_short ts (m.lay ⟨7, 0, 0, ⟨#[]⟩, t.hd.n, false⟩)
        rw [lay_len] at this
        omega
      · split
        · have := unifyS_short ts (m.fresh.lay ⟨5, m.next, 0, ⟨#[]⟩, 0, false⟩)
          rw [lay_len] at this
          simp only [MkS.fresh, List.length_cons] at this ⊢
          omega
        · have := unifyS_short ts m
          omega
def plOf (p : Tm × Int) : Pl := ⟨p.1.flat, p.2⟩
theorem unifyS_next {ts : List Tm} {k : Nat} (hk : k < ts.length) (m : MkS) : unifyS (ts.take (k + 1)) m = ((unifyS [ts[k]] (unifyS (ts.take k) m).1).1, (unifyS (ts.take k) m).2 ++ (unifyS [ts[k]] (unifyS (ts.take k) m).1).2) := by
  rw [List.take_succ_eq_append_getElem hk, unifyS_append]

section
variable {W W' : World} {us us' : List Nat} {B : Nat} {v v' : Value}
theorem vw_turn (hf : Fr us W W') (hk : ∀ b ∈ us', b ∈ us ∨ W.heap.size ≤ b) : Keeps (vw us B v W) (vw us' B v W') := fun b o x hx => by
  obtain ⟨h1, h2, h3, h4⟩ := vw_cell hx
  have hl := cell_lt h4
  exact vw_of h1 (fun e => by rcases hk b e with e | e; exact h2 e; omega) h3 ((World.cell?_of_block (w := W) (a := ⟨b, o, none⟩) (hf.block b hl h2)).trans h4)
theorem vw_app (hg : W.grownBy W' v.ownBlock) (hn : NewAtN W v v') : Keeps (vw us B v W) (vw us B v' W') := fun b o x hx => by
  obtain ⟨h1, h2, h3, h4⟩ := vw_cell hx
  have hl := cell_lt h4
  refine vw_of h1 h2 (fun e => ?_) ((World.cell?_of_block (w := W) (a := ⟨b, o, none⟩) (hg.block b hl (fun e => h3 e.symm))).trans h4)
  rcases hn with e2 | ⟨b', e2, hb⟩
  · exact h3 (e2 ▸ e)
  · rw [e] at e2; injection e2 with e2; omega
theorem vw_below (hb : Below W.heap.size W W') : Keeps (vw us B v W) (vw us B v W') := vw_turn (Fr.of hb) fun b hb => .inl hb
theorem vw_alloc (o : Obj) : Keeps (vw us B v W) (vw us B v (W.alloc o)) := vw_below ((Below.refl _ _).new o)
end
theorem kB_new {W : World} {L g : Nat} {vc v' : Value} (hn : NewAtN W vc v') : ∀ b ∈ kB L g v', b ∈ kB L g vc ∨ W.heap.size ≤ b := by
  intro b hb
  simp [kB] at hb ⊢
  rcases hb with e | e | e
  · exact .inl (.inl e)
  · exact .inl (.inr (.inl e))
  · rcases hn with e2 | ⟨b', e2, hb2⟩
    · exact .inl (.inr (.inr (by rw [← e2]; exact e)))
    · rw [e] at e2; injection e2 with e2; exact .inr (by omega)
set_option maxHeartbeats 1600000 in
/-- append of one term that waits, laid just ahead of it -/
theorem wpList_appP {w : World} {ops : Array Oper} {rest : List Oper} {o : Oper} {a : Act} {Q : Exit → Act → World → Prop} (hgd : o.guard = none) (s x : Operand)
    (ho : o.op = .call { callee := .builtin .append, args := #[s, x], argTypes := #[163, 163] }) {us : List Nat} {B : Nat} {v : Value} {xs : List Pl} (h : RowP w us B xs v) (hB : B ≤ w.heap.size) (hu : ∀ b ∈ us, b < w.heap.size)
    (hs : a.eval s = v) {a5 : Option Addr} {c5 n5 : Nat} {t : List Cel} {r : Int} (hn5 : n5 = t.length) (hy : Row (vw us B v w) a5 c5 t) (hr1 : -9223372036854775808 ≤ r) (hr2 : r ≤ 9223372036854775807)
    (hx : a.eval x = .slice (some ⟨w.heap.size, 0, none⟩) 1 1) (hmax : xs.length + 1 ≤ 1000000)
    (hK : ∀ v' w', RowP w' us B (xs ++ [⟨t, r⟩]) v' → (w.alloc (.cells #[.slice a5 n5 c5, .int .i64 r] 165)).grownBy w' v.ownBlock → NewAtN (w.alloc (.cells #[.slice a5 n5 c5, .int .i64 r] 165)) v v' → wpList Try.prog ops Q rest (a.put o.dst v') w') :
    wpList Try.prog ops Q (o :: rest) a (w.alloc (.cells #[.slice a5 n5 c5, .int .i64 r] 165)) := by
  subst hn5
  have hb1 := (Below.refl w.heap.size w).new (.cells #[.slice a5 t.length c5, .int .i64 r] 165)
  refine wpList_plain hgd fun K hK' => ?_
  have hcr : CRows (veil (v.ownBlock.toList ++ us) (under B (w.alloc (.cells #[.slice a5 t.length c5, .int .i64 r] 165)))) ([.slice a5 t.length c5, .int .i64 r] ++ []) [(⟨t, r⟩ : Pl)] :=
    CRows.cons ⟨⟨a5, c5, rfl, hy.keeps (vw_alloc _)⟩, hr1, hr2⟩ .nil
  obtain ⟨v', w', hr, h2, h3, h4⟩ := (h.below hb1).run_append (Nat.le_trans hB hb1.size) (fun b hb => Nat.lt_of_lt_of_le (hu b hb) hb1.size) o.type (a := ⟨w.heap.size, 0, none⟩) (m := 1) (c := 1) rfl hcr (fun j u hj => by
    have ha : (Addr.mk w.heap.size 0 none).add j = ⟨w.heap.size, j, none⟩ := by unfold Addr.add; split <;> simp_all
    rw [ha, World.cell?_alloc_at _ _ _ _ rfl]
    simpa using hj) (by simpa using hmax)
  unfold Oper.wp execOp
  simp only [ho, resolve, invoke, builtin, Sem.run_bind, Sem.run_pure, Result.andThen_ok, List.map_toArray, List.map_cons, List.map_nil, hs, hx, hr]
  exact hK' _ _ (hK v' w' h2 h3 h4)
/-- between two arguments -/
structure UniGo (w : World) (B L g : Nat) (vc : Value) (B2 : Nat) (a3 : Option Addr) (c3 : Nat) (ts : List Tm) (m : MkS) (ps : List Pl) (vk vo : Value) (W : World) : Prop where
  mkm : MkM W B L g vk m 0 0
  row : Row (vw (kB L g vk) B2 vo W) a3 c3 (ts.map Tm.flat)
  op : RowP W (kB L g vk) B2 ps vo
  og : ∀ b, vo.ownBlock = some b → w.heap.size ≤ b
  fr : Fr (kB L g vc) w W
  new : NewAtN w vc vk
theorem UniGo.mkr {w W W' : World} {B L g B2 c3 : Nat} {vc vk vk' vo : Value} {a3 : Option Addr} {ts : List Tm} {m m' : MkS} {ps : List Pl} (h : UniGo w B L g vc B2 a3 c3 ts m ps vk vo W) (hM : MkM W' B L g vk' m' 0 0) (hf : Fr (kB L g vk) W W') (hn : NewAtN W vk vk') : UniGo w B L g vc B2 a3 c3 ts m' ps vk' vo W' :=
  ⟨hM, h.row.keeps (vw_turn hf (kB_new hn)), h.op.turn hf (kB_new hn), h.og, frK_trans h.fr h.new hf, newAtN_trans h.new h.fr.size hn⟩
theorem UniGo.below {w W W' : World} {B L g B2 c3 : Nat} {vc vk vo : Value} {a3 : Option Addr} {ts : List Tm} {m : MkS} {ps : List Pl} (h : UniGo w B L g vc B2 a3 c3 ts m ps vk vo W) (hb : Below W.heap.size W W') : UniGo w B L g vc B2 a3 c3 ts m ps vk vo W' :=
  h.mkr (h.mkm.below hb) (Fr.of hb) (.inl rfl)
theorem UniGo.opn {w W W' : World} {B L g B2 c3 : Nat} {vc vk vo vo' : Value} {a3 : Option Addr} {ts : List Tm} {m : MkS} {ps ps' : List Pl} {o : Obj} (h : UniGo w B L g vc B2 a3 c3 ts m ps vk vo W) (hp : RowP W' (kB L g vk) B2 ps' vo') (hg : (W.alloc o).grownBy W' vo.ownBlock) (hn : NewAtN (W.alloc o) vo vo') : UniGo w B L g vc B2 a3 c3 ts m ps' vk vo' W' := by
  have h1 := h.below ((Below.refl W.heap.size W).new o)
  have hov : ∀ b, vo.ownBlock = some b → b ∉ kB L g vk := fun b hb e => by
    obtain ⟨vs, hc, hv⟩ := h.op.ex
    rcases hv with ⟨e1, _⟩ | ⟨g', off, cap, cur, e1, _, hg', _⟩
    · rw [e1] at hb; cases hb
    · rw [e1] at hb; cases hb; exact hg' e
  have hf : Fr vo.ownBlock.toList (W.alloc o) W' := grown_frN hg
  refine ⟨h1.mkm.fr hf fun b hb e => ?_, h1.row.keeps (vw_app hg hn), hp, fun b hb => ?_, ?_, h.new⟩
  · simp at e; exact hov b e hb
  · rcases hn with e | ⟨b', e, hb'⟩
    · exact h.og b (e ▸ hb)
    · rw [hb] at e; injection e with e
      have h2 := h.fr.size
      simp at hb'
      omega
  · have h2 : Fr (vo.ownBlock.toList ++ kB L g vc) w W' := (h1.fr.sub fun k hk => List.mem_append_right _ hk).trans (hf.sub fun k hk => List.mem_append_left _ hk)
    exact h2.fresh fun k hk => by simp at hk; exact h.og k hk
theorem row_partN {w : World} {a : Option Addr} {cap : Nat} {ps : List (List Cel)} (h : Row w a cap ps) {k : Nat} (hk : k < ps.length) : ∃ b off a2 c2, a = some ⟨b, off, none⟩ ∧ w.cell? ⟨b, off + k, none⟩ = some (.slice a2 ps[k].length c2) ∧ Row w a2 c2 ps[k] := by
  obtain ⟨b, off, e, a2, c2, hc, hr⟩ := h.at_ k _ (List.getElem?_eq_getElem hk)
  refine ⟨b, off, a2, c2, e, ?_, hr⟩
  rw [show Rep.sz (List Cel) = 1 from rfl, Nat.mul_one] at hc
  exact hc
theorem row_hdN {w : World} {a : Option Addr} {cap : Nat} {t : Tm} (h : Row w a cap t.flat) : ∃ b off, a = some ⟨b, off, none⟩ ∧ w.cell? ⟨b, off, none⟩ = some (.int .i64 t.hd.k) ∧ w.cell? ⟨b, off + 1, none⟩ = some (.string t.hd.s) ∧ w.cell? ⟨b, off + 2, none⟩ = some (.int .i64 t.hd.n) ∧ t.hd.fit := by
  obtain ⟨b, off, e, c0, c1, c2, hf⟩ := h.at_ 0 t.hd (by rw [flat_cons]; rfl)
  rw [Nat.zero_mul, Nat.add_zero] at c0 c1 c2
  exact ⟨b, off, e, c0, c1, c2, hf⟩
/-- what unify makes -/
def UPost (w : World) (B L g : Nat) (vc : Value) (B2 : Nat) (m' : MkS) (ps : List Pl) (e : Ending) (W' : World) : Prop :=
  ∃ vo, e = .returned vo ∧ ∃ vk, MkM W' B L g vk m' 0 0 ∧ RowP W' (kB L g vk) B2 ps vo ∧ (∀ b, vo.ownBlock = some b → w.heap.size ≤ b) ∧ Fr (kB L g vc) w W' ∧ NewAtN w vc vk
set_option maxRecDepth 100000 in
set_option maxHeartbeats 6400000 in
theorem unify_any (w : World) (B L g : Nat) (vc : Value) (B2 : Nat) (a3 : Option Addr) (c3 : Nat) (ts : List Tm) (m : MkS) (hM : MkM w B L g vc m 0 0) (hB2 : B2 ≤ w.heap.size) (hr : Row (veil (kB L g vc) (under B2 w)) a3 c3 (ts.map Tm.flat)) (hk3 : ∀ t ∈ ts, kindOk t.hd) (hl : m.code.length + ts.length ≤ 900000) :
    Calls Try.prog 151 #[.pointer (some ⟨L, 0, none⟩), .slice a3 ts.length c3] w (UPost w B L g vc B2 (unifyS ts m).1 ((unifyS ts m).2.map plOf)) := by
  have hle := hr.le
  rw [List.length_map] at hle
  have hmx := hr.max
  have HG0 : Hid (UniGo w B L g vc B2 a3 c3 ts (unifyS (ts.take 0) m).1 ((unifyS (ts.take 0) m).2.map plOf) vc (.slice none 0 0) w) := by
    simp only [List.take_zero, unifyS, List.map_nil]
    exact ⟨hM, hr, .nil _ _ _, fun b hb => by (cases hb), Fr.refl _ _, .inl rfl⟩
  have HK := mkHid hk3
  clear hM hr hk3
  go_enter Try.func151, Try.ntmps151
  go_wp2_with fail
  go_loopw [5, 7, 8, 9, 12] (fun vo _ _ _ i wr => ∃ (k : Nat) (vk : Value), i = .int .i64 k ∧ k ≤ ts.length ∧ Hid (UniGo w B L g vc B2 a3 c3 ts (unifyS (ts.take k) m).1 ((unifyS (ts.take k) m).2.map plOf) vk vo wr)) (fun _ _ _ _ i wr => ts.length - (intOf i).toNat)
  case atStart => exact ⟨0, vc, rfl, Nat.zero_le _, HG0⟩
  case round =>
    clear HG0
    obtain ⟨k, vk, rfl, hk, HG⟩ := hrel
    by_cases hlt : k < ts.length
    · obtain ⟨b4, off4, a5, c5, rfl, p0, hrp⟩ := row_partN HG.out.row (k := k) (by simpa using hlt)
      simp only [List.getElem_map] at p0 hrp
      obtain ⟨b6, off6, rfl, q0, q1, q2, hfp⟩ := row_hdN hrp
      have hpl := hrp.le
      have hpm := hrp.max
      have hpp := flat_pos ts[k]
      have p0' := (vw_cell p0).2.2.2
      have r0 := (vw_cell q0).2.2.2
      have r1 := (vw_cell q1).2.2.2
      have r2 := (vw_cell q2).2.2.2
      have hsh := unifyS_short (ts.take k) m
      rw [List.length_take] at hsh
      have HNX := mkHid (unifyS_next hlt m)
      have HKK := mkHid (HK.out _ (List.getElem_mem hlt))
      have hn1 := hfp.n1
      have hn2 := hfp.n2
      have HRP := mkHid hrp
      obtain ⟨so, sc, rfl, hs1, hs2, _⟩ := HG.out.op.slice
      clear p0 q0 q1 q2 hrp hfp
      have hpl1 : ((unifyS (ts.take k) m).2.map plOf).length ≤ ts.length := by rw [List.length_map]; omega
      have hml1 : (unifyS (ts.take k) m).1.code.length + 1 ≤ 900000 := by omega
      clear hsh
      generalize hst : unifyS (ts.take k) m = st at *
      clear hst
      obtain ⟨m1, l1⟩ := st
      dsimp only at HG hs1 hpl1 hml1 HNX ⊢
      generalize hu : ts[k] = u at *
      clear hu
      generalize hps : l1.map plOf = ps at *
      have HPS := mkHid hps
      clear hps
      have hb1 := (Below.refl wr.heap.size wr).new (.cells #[.int .i64 u.hd.k, .string u.hd.s, .int .i64 u.hd.n] 45)
      have HG1 := mkHid (HG.out.below hb1)
      have HRP1 := mkHid (HRP.out.keeps (vw_below hb1))
      clear HG HRP hb1
      rcases HKK.out with h1 | h2 | h3
      · have HU : Hid (unifyS [u] m1 = (m1.var u.hd.n 5 6 0, [])) := by rw [Hid]; unfold unifyS; rw [if_pos h1]; rfl
        clear HKK
        rw [h1] at r0 HG1 HRP1
        generalize u.hd.k = uk at *
        subst h1
        go_wp2_with fail
        refine (variable_any _ B L g vk m1 0 0 u.hd.n 5 6 0 HG1.out.mkm (by omega) (by omega) hn1 hn2 (by omega) (by omega) (by omega)).mono ?_
        rintro e w2 ⟨rfl, vk2, hM2, hF2, hN2⟩
        have HG2 := mkHid (HG1.out.mkr hM2 hF2 hN2)
        clear hM2 hF2 hN2 HG1 HRP1 p0' r0 r1 r2
        go_wp2_with fail
        go_round
        case rel => exact ⟨k + 1, vk2, by go_num, by omega, by rw [HNX.out, HU.out, Hid]; simpa [HPS.out] using HG2.out⟩
        case measure => simp [intOf]; omega
      · have HU : Hid (unifyS [u] m1 = (m1.lay ⟨7, 0, 0, ⟨#[]⟩, u.hd.n, false⟩, [])) := by rw [Hid]; unfold unifyS; rw [if_neg (by omega), if_pos h2]; rfl
        clear HKK
        rw [h2] at r0 HG1 HRP1
        generalize u.hd.k = uk at *
        subst h2
        go_wp2_with fail
        refine (lay_any _ B L g vk m1 0 0 ⟨7, 0, 0, ⟨#[]⟩, u.hd.n, false⟩ (HG1.out.mkm.slack (by omega) (by omega)) (Ins.fit_of (by omega) (by omega) (by omega) ⟨hn1, hn2⟩ (by decide)) (by omega)).mono ?_
        rintro e w2 ⟨rfl, vk2, hM2, hF2, hN2⟩
        have HG2 := mkHid (HG1.out.mkr hM2 hF2 hN2)
        clear hM2 hF2 hN2 HG1 HRP1 p0' r0 r1 r2
        go_wp2_with fail
        go_round
        case rel => exact ⟨k + 1, vk2, by go_num, by omega, by rw [HNX.out, HU.out, Hid]; simpa [HPS.out] using HG2.out⟩
        case measure => simp [intOf]; omega
      · have HU : Hid (unifyS [u] m1 = (m1.fresh.lay ⟨5, m1.next, 0, ⟨#[]⟩, 0, false⟩, [(u, m1.next)])) := by rw [Hid]; unfold unifyS; rw [if_neg (by omega), if_neg (by omega), if_pos h3]; rfl
        clear HKK
        have hnx := HG1.out.mkm.next
        rw [h3] at r0 HG1 HRP1
        generalize u.hd.k = uk at *
        subst h3
        go_wp2_with fail
        refine (fresh_any _ B L g vk m1 0 0 HG1.out.mkm (by omega)).mono ?_
        rintro e w2 ⟨rfl, vk2, hM2, hF2, hN2⟩
        have HM2 := mkHid hM2
        have HF2 := mkHid hF2
        have HN2 := mkHid hN2
        clear hM2 hF2 hN2 p0' r0 r1 r2
        go_wp2_with fail
        refine (lay_any w2 B L g vk2 m1.fresh 0 1 ⟨5, m1.next, 0, ⟨#[]⟩, 0, false⟩ HM2.out (Ins.fit_of (by omega) (by omega) (by omega) (by omega) (by decide)) (by show m1.code.length ≤ _; omega)).mono ?_
        rintro e w3 ⟨rfl, vk3, hM3, hF3, hN3⟩
        have hF := frK_trans HF2.out HN2.out hF3
        have hN := newAtN_trans HN2.out HF2.out.size hN3
        have HG3 := mkHid (HG1.out.mkr (hM3.slack (Nat.le_refl _) (by omega)) hF hN)
        have HRP3 := mkHid (HRP1.out.keeps (vw_turn hF (kB_new hN)))
        have hB3 : B2 ≤ w3.heap.size := Nat.le_trans hB2 HG3.out.fr.size
        have HKB := mkHid (fun b hb => (HG3.out.mkm.allB b hb).2)
        clear hM3 hF3 hN3 HG1 HRP1 HM2 HF2 HN2 hF hN
        go_wp2_with (at_builtin; refine wpList_appP rfl _ _ rfl HG3.out.op hB3 HKB.out (by rfl) rfl HRP3.out (by omega) (by omega) (by rfl) (by omega) ?_; intro v' w4 hp4 hg4 hn4; have HG4 := mkHid (HG3.out.opn hp4 hg4 hn4))
        go_round
        case rel => exact ⟨k + 1, vk3, by go_num, by omega, by rw [HNX.out, HU.out, Hid]; simpa [HPS.out, plOf] using HG4.out⟩
        case measure => simp [intOf]; omega
    · obtain rfl : k = ts.length := by omega
      rw [List.take_length] at HG
      obtain ⟨so, sc, rfl, hs1, hs2, _⟩ := HG.out.op.slice
      go_wp2_with fail
      go_ret
      exact ⟨_, rfl, vk, HG.out.mkm, HG.out.op, HG.out.og, HG.out.fr, HG.out.new⟩
end Go.Proofs.Ytkkiemideldioaa
set_option linter.unusedVariables false
namespace Go.Proofs.Ytkkiemideldioaa
open Go.RowKit

/-! ### one term of a head -/
theorem own_baseN {w : World} {B B' e size : Nat} {v : Value} {n : Nat} {xs : List Value} (h : w.ownsRow B' e size v n xs) (hB : B ≤ B') : w.ownsRow B e size v n xs :=
  ⟨h.1, h.2.imp id (fun ⟨g, cap, cur, e1, hb, rest⟩ => ⟨g, cap, cur, e1, Nat.le_trans hB hb, rest⟩)⟩
theorem under_keepsN {B : Nat} {w w' : World} (h : Keeps w w') : Keeps (under B w) (under B w') := fun b o v hc => let ⟨h1, h2⟩ := under_cell hc; under_of h1 (h _ _ _ h2)
set_option maxHeartbeats 1600000 in
theorem parts_newN (a : Option Addr) (cap : Nat) (w : World) (xs : List Cel) (hr : Row w a cap xs) (hR : rightB xs = true) :
    Calls Try.prog 117 #[.slice a xs.length cap] w fun e w' => ∃ a' cap', e = .returned (.slice a' (partsL xs).length cap') ∧ NewRow w.heap.size w' a' cap' (partsL xs) ∧ Below w.heap.size w w' := by
  have hm := hr.max
  have hle := hr.le
  have h6 := ar_le6 hR
  obtain ⟨c, l, e0, hc, _, h200⟩ := right_sk hR
  have h0 : 0 < xs.length := by rw [e0]; simp
  have hc0 : xs[0] = c := by simp [e0]
  have har : ar0 xs = ar xs[0] := by rw [hc0, e0]; rfl
  have HA : Hid (arI xs[0] = ar0 xs) := by rw [Hid, har, hc0]; exact arI_ar hc
  have HR := mkHid hR
  clear hR e0 hc hc0 har
  obtain ⟨b, off, rfl, hb, hat⟩ := hr.cases.resolve_left (fun e => by simp [e] at h0)
  go_enter Try.func117, Try.ntmps117
  go_wp2_with (first
    | (go_at_call 83; refine (right_any _ cap _ xs hr).mono ?_; rintro e w1 ⟨rfl, hb1⟩; rw [HR.out]; obtain ⟨c0, c1, c2, hf⟩ := cel_at hat hb1 h0; simp only [Nat.zero_mul, Nat.add_zero] at c0 c1 c2)
    | (go_at_call 148; refine (arguments_any xs[0] _).mono ?_; rintro e w2 ⟨rfl, hb2⟩; rw [HA.out]))
  have hb12 := hb1.then hb2
  clear c0 c1 c2
  go_loopw [3, 4, 13] (fun v i j wr => ∃ (k : Nat) (vs : List Value), k ≤ ar0 xs ∧ j = .int .i64 k ∧ i = .int .i64 (aN xs k) ∧ wr.ownsRow w.heap.size 22 1 v k vs ∧ Below w.heap.size w wr ∧ Hid (SlRows (under w.heap.size (hide v.ownBlock wr)) vs ((List.range k).map (partJ xs)))) (fun v i j wr => ar0 xs - (intOf j).toNat)
  case atStart => exact ⟨0, [], Nat.zero_le _, rfl, by unfold aN; rw [afterI_zero (by omega)]; rfl, World.ownsRow_nil _ _ _ _, hb12, SlRows.nil _⟩
  case round =>
    obtain ⟨k, vs, hk, rfl, rfl, hown, hbl, HS⟩ := hrel
    by_cases hlt : k < ar0 xs
    · have hra := (right_after HR.out hk).2
      have hrb := (right_after HR.out (show k + 1 ≤ ar0 xs from hlt)).2
      have hrn := (right_next HR.out hlt).1
      have HP := mkHid (passI_at HR.out hlt)
      obtain ⟨q1, q2, _⟩ := hra
      obtain ⟨q3, q4, _⟩ := hrb
      have hr1 := hr.below hbl
      go_wp2_with (go_at_call 134; refine (behind_any _ cap (aN xs k) _ xs hr1 (by omega) (by omega) (by omega)).mono ?_; rintro e w3 ⟨rfl, hb3⟩; rw [HP.out])
      have hrow3 := (hr1.below hb3).slice (i := aN xs k) (j := aN xs (k + 1)) (by omega) q4
      have hfit : ∀ c ∈ partJ xs k, c.fit := hrow3.fit
      refine (clone_any' _ _ _ _ (partJ xs k) (take_drop_len HR.out hlt) hrow3 (by have := partJ_length HR.out hlt; omega)).mono ?_
      rintro e w4 ⟨v1, rfl, hown4, hb4⟩
      have hown1 := own_below (own_below hown hb3) hb4
      have hlt4 := hown4.lt
      have hsz3 := (hbl.then hb3).size
      obtain ⟨a1, cap1, rfl, hrow4⟩ := own_row (under_own (own_baseN (own_hide (r := u3.ownBlock) hown4 (fun g hg => (own_below hown hb3).lt g hg |>.2)) hsz3)) hfit
      have hbl4 := (hbl.then hb3).then hb4
      have HS4 := mkHid (((HS.out.keeps (under_keepsN (below_hide hb3 _))).keeps (under_keepsN (below_hide hb4 _))).snoc hrow4)
      go_wp2_with (at_builtin; refine wpList_app2 rfl _ _ 52 rfl w.heap.size 22 1 24 _ Try.underlying52 Try.infoSl rfl (by decide) (by decide) _ k _ rfl (hown1.alloc _) ⟨_, 0, none⟩ 1 1 [.slice a1 (partJ xs k).length cap1] rfl (src_new _ #[.slice a1 (partJ xs k).length cap1] _ 1 rfl (by simp [Value.oneCell'])) (by omega) (Nat.le_trans hbl4.size (by simp)) ?_; intro v' w5 hown5 _ hb5 hk5)
      go_round
      case rel => exact ⟨k + 1, vs ++ [.slice a1 (partJ xs k).length cap1], by omega, by go_num, rfl, hown5, (hbl4.new _).trans hb5, by rw [parts_succ]; exact (HS4.out.keeps (under_keepsN (alloc_hide _ _ _))).keeps (under_keepsN hk5)⟩
      case measure => simp [intOf]; omega
    · obtain rfl : k = ar0 xs := by omega
      have hS := HS.out.keeps (under_keepsN (hide_keeps _ _))
      have hl : (partsL xs).length = ar0 xs := by simp [partsL]
      obtain ⟨a', cap', rfl, hrow'⟩ := own_rowL (e := 22) (B := w.heap.size) (v := u3) (ps := partsL xs) (by rw [hl]; exact under_own hown) hS
      have HL := mkHid hl
      clear hl
      go_wp2
      go_ret
      exact ⟨a', cap', rfl, hrow', hbl⟩
theorem under_veilN {B : Nat} {us : List Nat} (w : World) (h : ∀ b ∈ us, b < B) : Keeps (under B w) (veil us (under B w)) := fun b o v hc => by
  obtain ⟨h1, h2⟩ := under_cell hc
  exact veil_of (fun e => by have := h b e; omega) hc
/-- what get makes -/
def GPost (w : World) (B L g : Nat) (vc : Value) (m' : MkS) (ps : List Pl) (e : Ending) (W' : World) : Prop :=
  ∃ vo, e = .returned vo ∧ ∃ vk, MkM W' B L g vk m' 0 0 ∧ RowP W' (kB L g vk) w.heap.size ps vo ∧ Fr (kB L g vc) w W' ∧ NewAtN w vc vk
theorem oks_kinds {ts : List Tm} (h : oks ts) : ∀ t ∈ ts, kindOk t.hd := fun t ht => by
  have h1 := ((ok_iff t).1 (oks_mem h t ht)).1
  unfold cellOk at h1
  unfold kindOk
  by_cases a : t.hd.k = 1
  · exact .inl a
  · by_cases b : t.hd.k = 2
    · exact .inr (.inl b)
    · by_cases c : t.hd.k = 3
      · exact .inr (.inr c)
      · simp [a, b, c] at h1
set_option maxRecDepth 100000 in
set_option maxHeartbeats 6400000 in
theorem get_any (w : World) (B L g : Nat) (vc : Value) (a : Option Addr) (c : Nat) (t : Tm) (r : Int) (m : MkS) (hM : MkM w B L g vc m 0 0) (hr : Row (veil (kB L g vc) w) a c t.flat) (hok : t.ok) (h200 : t.flat.length ≤ 200) (hr1 : 0 ≤ r) (hr2 : r ≤ 1000000) (hl : m.code.length ≤ 800000) :
    Calls Try.prog 118 #[.pointer (some ⟨L, 0, none⟩), .agg #[.slice a t.flat.length c, .int .i64 r]] w (GPost w B L g vc (getS (t, r) m).1 ((getS (t, r) m).2.map plOf)) := by
  have HRI := mkHid (right_flat hok h200)
  have HPF := mkHid (parts_flat hok)
  have HKK := mkHid (oks_kinds (ts := [t]) ⟨hok, trivial⟩ t (by simp))
  have HOK := mkHid hok
  obtain ⟨b6, off6, rfl, q0, q1, q2, hfp⟩ := row_hdN hr
  have hpl := hr.le
  have hpm := hr.max
  have hpp := flat_pos t
  have hn1 := hfp.n1
  have hn2 := hfp.n2
  have hns := hfp.s
  have HFP := mkHid hfp
  have HR := mkHid hr
  have HM := mkHid hM
  have r0 := (veil_cell q0).2
  have r1 := (veil_cell q1).2
  have r2 := (veil_cell q2).2
  have HALL : Hid (∀ b ∈ kB L g vc, b < w.heap.size) := fun b hb => (hM.allB b hb).2
  have hb0 := (Below.refl w.heap.size w).new (.cells #[.slice (some ⟨b6, off6, none⟩) t.flat.length c, .int .i64 r] 165)
  have k0 := keep r0 hb0
  have k1 := keep r1 hb0
  have k2 := keep r2 hb0
  clear hr hM q0 q1 q2 hfp hok hb0 r0 r1 r2
  have hb1 := ((Below.refl w.heap.size w).new (.cells #[.slice (some ⟨b6, off6, none⟩) t.flat.length c, .int .i64 r] 165)).new (.cells #[.int .i64 t.hd.k, .string t.hd.s, .int .i64 t.hd.n] 45)
  have HB1 := mkHid hb1
  have HM1 := mkHid (HM.out.below hb1)
  have HF1 : Hid (Fr (kB L g vc) w ((w.alloc (.cells #[.slice (some ⟨b6, off6, none⟩) t.flat.length c, .int .i64 r] 165)).alloc (.cells #[.int .i64 t.hd.k, .string t.hd.s, .int .i64 t.hd.n] 45))) := Fr.of hb1
  have HR1 := mkHid (HR.out.keeps (Fr.keeps HF1.out))
  clear hb1 HR HM
  rcases HKK.out with h1 | h2 | h3
  · have HU : Hid (getS (t, r) m = (m.var t.hd.n 1 2 r, [])) := by rw [Hid, getS, if_pos h1]
    clear HKK
    rw [h1] at k0 HB1 HM1 HF1 HR1
    generalize t.hd.k = uk at *
    subst h1
    go_enter Try.func118, Try.ntmps118
    go_wp2_with fail
    refine (variable_any _ B L g vc m 0 0 t.hd.n 1 2 r HM1.out (by omega) (by omega) hn1 hn2 (by omega) (by omega) (by omega)).mono ?_
    rintro e w2 ⟨rfl, vk2, hM2, hF2, hN2⟩
    have HP : Hid (GPost w B L g vc (m.var t.hd.n 1 2 r) [] (.returned (.slice none 0 0)) w2) := ⟨_, rfl, vk2, hM2, .nil _ _ _, HF1.out.trans hF2, newAtN_trans (.inl rfl) HB1.out.size hN2⟩
    clear hM2 hF2 hN2 k0 k1 k2
    go_wp2_with fail
    go_ret
    rw [HU.out]
    exact HP.out
  · have HU : Hid (getS (t, r) m = (m.lay ⟨3, 0, r, ⟨#[]⟩, t.hd.n, false⟩, [])) := by rw [Hid, getS, if_neg (by show ¬ t.hd.k = 1; omega), if_pos h2]
    clear HKK
    rw [h2] at k0 HB1 HM1 HF1 HR1
    generalize t.hd.k = uk at *
    subst h2
    go_enter Try.func118, Try.ntmps118
    go_wp2_with fail
    refine (lay_any _ B L g vc m 0 0 ⟨3, 0, r, ⟨#[]⟩, t.hd.n, false⟩ (HM1.out.slack (by omega) (by omega)) (Ins.fit_of (by omega) (by omega) (by omega) ⟨hn1, hn2⟩ (by decide)) (by omega)).mono ?_
    rintro e w2 ⟨rfl, vk2, hM2, hF2, hN2⟩
    have HP : Hid (GPost w B L g vc (m.lay ⟨3, 0, r, ⟨#[]⟩, t.hd.n, false⟩) [] (.returned (.slice none 0 0)) w2) := ⟨_, rfl, vk2, hM2, .nil _ _ _, HF1.out.trans hF2, newAtN_trans (.inl rfl) HB1.out.size hN2⟩
    clear hM2 hF2 hN2 k0 k1 k2
    go_wp2_with fail
    go_ret
    rw [HU.out]
    exact HP.out
  · have HU : Hid (getS (t, r) m = unifyS t.args (m.lay ⟨4, 0, r, t.hd.s, t.hd.n, false⟩)) := by rw [Hid, getS, if_neg (by show ¬ t.hd.k = 1; omega), if_neg (by show ¬ t.hd.k = 2; omega), if_pos h3]
    clear HKK
    rw [h3] at k0 HB1 HM1 HF1 HR1
    generalize t.hd.k = uk at *
    subst h3
    go_enter Try.func118, Try.ntmps118
    go_wp2_with fail
    refine (lay_any _ B L g vc m 0 0 ⟨4, 0, r, t.hd.s, t.hd.n, false⟩ (HM1.out.slack (by omega) (by omega)) (Ins.fit_of (by omega) (by omega) (by omega) ⟨hn1, hn2⟩ hns) (by omega)).mono ?_
    rintro e w2 ⟨rfl, vk2, hM2, hF2, hN2⟩
    have HF2 := mkHid (HF1.out.trans hF2)
    have HN2 := mkHid (newAtN_trans (v := vc) (.inl rfl) HB1.out.size hN2)
    have hrt2 := (HR1.out.keeps (Fr.keeps hF2)).keeps (veil_keeps _ _)
    have HRT := mkHid hrt2
    have HM2 := mkHid hM2
    have hwlt : w.heap.size < w2.heap.size := by
      have h1 := hF2.size
      simp at h1
      omega
    have x0 : w2.cell? ⟨w.heap.size, 0, none⟩ = some (.slice (some ⟨b6, off6, none⟩) t.flat.length c) := by
      refine (World.cell?_of_block (a := ⟨w.heap.size, 0, none⟩) (hF2.block w.heap.size (by simp; omega) (fun e => ?_))).trans (keep (World.cell?_alloc_at _ _ w.heap.size 0 rfl) ((Below.refl _ _).new _))
      have := HALL.out _ e
      omega
    clear hM2 hF2 hN2 k0 k1 k2 hrt2
    go_wp2_with fail
    refine (parts_newN (some ⟨b6, off6, none⟩) c w2 t.flat HRT.out HRI.out).mono ?_
    rintro e w3 ⟨a3, c3, rfl, hnew, hb3⟩
    rw [HPF.out] at hnew ⊢
    have HM3 := mkHid (HM2.out.below hb3)
    have hal : (t.args.map Tm.flat).length = t.args.length := List.length_map _
    have HRW : Hid (Row (veil (kB L g vk2) (under w2.heap.size w3)) a3 c3 (t.args.map Tm.flat)) := Row.keeps hnew (under_veilN _ fun b hb => (HM2.out.allB b hb).2)
    have HS3 := mkHid hb3.size
    have HF3 := mkHid (HF2.out.trans (Fr.of hb3))
    have ha6 : t.args.length ≤ 6 := by
      have h1 := ar_le _ ((ok_iff t).1 HOK.out).1
      rw [((ok_iff t).1 HOK.out).2.1]
      exact h1
    have HKS := mkHid (oks_kinds ((ok_iff t).1 HOK.out).2.2)
    rw [hal]
    clear hnew hb3 hal
    go_wp2_with fail
    refine (unify_any w3 B L g vk2 w2.heap.size a3 c3 t.args _ HM3.out HS3.out HRW.out HKS.out (by rw [lay_len]; omega)).mono ?_
    rintro e w4 ⟨vo, rfl, vk4, hM4, hP4, hO4, hF4, hN4⟩
    have HP : Hid (GPost w B L g vc (unifyS t.args (m.lay ⟨4, 0, r, t.hd.s, t.hd.n, false⟩)).1 ((unifyS t.args (m.lay ⟨4, 0, r, t.hd.s, t.hd.n, false⟩)).2.map plOf) (.returned vo) w4) := by
      refine ⟨_, rfl, vk4, hM4, ?_, frK_trans HF3.out HN2.out hF4, newAtN_trans HN2.out HF3.out.size hN4⟩
      exact hP4.mono (by omega)
    clear hM4 hP4 hO4 hF4 hN4
    go_wp2_with fail
    go_ret
    rw [HU.out]
    exact HP.out
end Go.Proofs.Ytkkiemideldioaa
set_option linter.unusedVariables false
namespace Go.Proofs.Ytkkiemideldioaa
open Go.RowKit

/-! ### a row that is taken from the front and appended to -/
theorem run_append_nilP (w : World) (ty : TypeId) (ao : Option Addr) (n cap : Nat) (h : n ≤ cap) : (Builtin.append_ #[163, 163] ty #[.slice ao n cap, .slice none 0 0]).run Try.prog w = .ok (.slice ao n cap) w := by
  obtain ⟨i, hi, hz0, hz1, hz2⟩ := info_parts Try.infoPlaced
  cases ao with
  | none => simp [Builtin.append_, run_underlying Try.underlying163, sizeOf, typeInfo, hi, Builtin.lenOf, Builtin.firstCells, loadCells, loadCellsFrom, h]
  | some a => simp [Builtin.append_, run_underlying Try.underlying163, sizeOf, typeInfo, hi, Builtin.lenOf, Builtin.firstCells, loadCells, loadCellsFrom, h, storeCells]
theorem RowP.join {W : World} {us : List Nat} {B B1 : Nat} {xs ys : List Pl} {v v2 : Value} (h : RowP W us B xs v) (h2 : RowP W us B1 ys v2) (hB : B1 ≤ W.heap.size) (hBB : B ≤ B1) (hg : ∀ b, v.ownBlock = some b → b < B1) (hu : ∀ b ∈ us, b < W.heap.size) (ty : TypeId) (hmax : xs.length + ys.length ≤ 1000000) :
    ∃ v' W', (Builtin.append_ #[163, 163] ty #[v, v2]).run Try.prog W = .ok v' W' ∧ RowP W' us B (xs ++ ys) v' ∧ W.grownBy W' v.ownBlock ∧ NewAtN W v v' := by
  obtain ⟨vs, hc, hv⟩ := h2.ex
  rcases hv with ⟨rfl, rfl⟩ | ⟨g, off, cap, cur, rfl, hB2, hgu, hb, h3, h4, h5, h6⟩
  · obtain ⟨a, cap, rfl, hle, hmx, _⟩ := h.slice
    exact ⟨_, _, run_append_nilP W ty a xs.length cap hle, by rw [List.append_nil]; exact h, ⟨rfl, rfl, rfl, Nat.le_refl _, fun _ _ _ => rfl⟩, .inl rfl⟩
  · obtain ⟨hvl, hat⟩ := RowP.cells hc hb h3 h5 h6
    refine h.run_append (by omega) hu ty (a := ⟨g, off, none⟩) (m := ys.length) (c := cap) (news := vs) rfl (hc.keeps fun b o x hx => ?_) (fun j u hj => by rw [Addr.add_lit]; exact hat j u hj) hmax
    obtain ⟨q1, q2, _, q4⟩ := vw_cell hx
    exact vw_of (v := v) (by omega) q2 (fun e => by have := hg b e; omega) q4
/-- between two terms of the row -/
structure RowGo (w : World) (B L g : Nat) (vc : Value) (B2 : Nat) (m : MkS) (ps : List Pl) (vk vo : Value) (W : World) : Prop where
  mkm : MkM W B L g vk m 0 0
  op : RowP W (kB L g vk) B2 ps vo
  og : ∀ b, vo.ownBlock = some b → w.heap.size ≤ b
  fr : Fr (kB L g vc) w W
  new : NewAtN w vc vk
theorem RowGo.nog {w W : World} {B L g B2 : Nat} {vc vk vo : Value} {m : MkS} {ps : List Pl} (h : RowGo w B L g vc B2 m ps vk vo W) : ∀ b, vo.ownBlock = some b → b ∉ kB L g vk := fun b hb e => by
  obtain ⟨vs, hc, hv⟩ := h.op.ex
  rcases hv with ⟨e1, _⟩ | ⟨g', off, cap, cur, e1, _, hg', _⟩
  · rw [e1] at hb; cases hb
  · rw [e1] at hb; cases hb; exact hg' e
/-- the term at the row's front was got, and what waits put behind the others -/
theorem RowGo.step {w W W1 W2 : World} {B L g B2 : Nat} {vc vk vk1 vo vt vo2 : Value} {m m1 : MkS} {ps ps1 : List Pl} {x : Pl} (h : RowGo w B L g vc B2 m (x :: ps) vk vo W) (ht : RowP W (kB L g vk) B2 ps vt) (hto : vt.ownBlock = vo.ownBlock)
    (hM : MkM W1 B L g vk1 m1 0 0) (hf : Fr (kB L g vk) W W1) (hn : NewAtN W vk vk1) (hp : RowP W2 (kB L g vk1) B2 (ps ++ ps1) vo2) (hg : W1.grownBy W2 vt.ownBlock) (hn2 : NewAtN W1 vt vo2) : RowGo w B L g vc B2 m1 (ps ++ ps1) vk1 vo2 W2 := by
  have hf2 : Fr vt.ownBlock.toList W1 W2 := grown_frN hg
  have hF1 : Fr (kB L g vc) w W1 := frK_trans h.fr h.new hf
  refine ⟨hM.fr hf2 fun b hb e => ?_, hp, fun b hb => ?_, ?_, newAtN_trans h.new h.fr.size hn⟩
  · simp at e
    rw [hto] at e
    have h1 := h.op.lt b e
    rcases kB_new hn b hb with e2 | e2
    · exact h.nog b e e2
    · omega
  · rcases hn2 with e | ⟨b', e, hb'⟩
    · exact h.og b (by rw [← hto, ← e]; exact hb)
    · rw [hb] at e; injection e with e
      have := hF1.size
      omega
  · have h2 : Fr (vt.ownBlock.toList ++ kB L g vc) w W2 := (hF1.sub fun k hk => List.mem_append_right _ hk).trans (hf2.sub fun k hk => List.mem_append_left _ hk)
    exact h2.fresh fun k hk => by simp at hk; rw [hto] at hk; exact h.og k hk
/-! ### what is plain of it -/
theorem ok_kinds : ∀ t : Tm, t.ok → Kinds t := by
  intro t
  exact (Tm.rec (motive_1 := fun t => t.ok → Kinds t) (motive_2 := fun ts => oks ts → KindsL ts)
    (fun c ts ih h => by
      refine ⟨oks_kinds (ts := [.mk c ts]) ⟨h, trivial⟩ (.mk c ts) (by simp), fun h3 => ?_, ih h.2.2⟩
      have h1 := h.2.1
      unfold ar at h1
      rw [if_neg h3] at h1
      exact List.eq_nil_of_length_eq_zero h1)
    (fun _ => trivial)
    (fun t ts iht ihts h => ⟨iht h.1, ihts h.2⟩) t)
theorem unifyS_regs : ∀ (ts : List Tm) (m : MkS), m.next ≤ (unifyS ts m).1.next ∧ ∀ p ∈ (unifyS ts m).2, m.next ≤ p.2 ∧ p.2 < (unifyS ts m).1.next ∧ p.1 ∈ ts
  | [], m => by simp [unifyS]
  | t :: ts, m => by
    have hv : m.next ≤ (m.var t.hd.n 5 6 0).next := by
      unfold MkS.var
      split
      · exact Int.le_refl _
      · simp only [MkS.lay, MkS.fresh]; omega
    rw [unifyS_cons]
    split
    · obtain ⟨h1, h2⟩ := unifyS_regs ts (m.var t.hd.n 5 6 0)
      exact ⟨by omega, fun p hp => by obtain ⟨a, b, c⟩ := h2 p hp; exact ⟨by omega, b, List.mem_cons_of_mem _ c⟩⟩
    · split
      · obtain ⟨h1, h2⟩ := unifyS_regs ts (m.lay ⟨7, 0, 0, ⟨#[]⟩, t.hd.n, false⟩)
        exact ⟨h1, fun p hp => by obtain ⟨a, b, c⟩ := h2 p hp; exact ⟨a, b, List.mem_cons_of_mem _ c⟩⟩
      · split
        · obtain ⟨h1, h2⟩ := unifyS_regs ts (m.fresh.lay ⟨5, m.next, 0, ⟨#[]⟩, 0, false⟩)
          have e : (m.fresh.lay ⟨5, m.next, 0, ⟨#[]⟩, 0, false⟩).next = m.next + 1 := rfl
          rw [e] at h1 h2
          refine ⟨by simp only; omega, fun p hp => ?_⟩
          rcases List.mem_cons.1 hp with rfl | hp
          · exact ⟨by simp only; omega, by simp only; omega, List.mem_cons_self⟩
          · obtain ⟨a, b, c⟩ := h2 p hp
            exact ⟨by omega, b, List.mem_cons_of_mem _ c⟩
        · obtain ⟨h1, h2⟩ := unifyS_regs ts m
          exact ⟨h1, fun p hp => by obtain ⟨a, b, c⟩ := h2 p hp; exact ⟨a, b, List.mem_cons_of_mem _ c⟩⟩
theorem getS_regs (p : Tm × Int) (m : MkS) : m.next ≤ (getS p m).1.next ∧ ∀ q ∈ (getS p m).2, m.next ≤ q.2 ∧ q.2 < (getS p m).1.next ∧ q.1 ∈ p.1.args := by
  have hv : m.next ≤ (m.var p.1.hd.n 1 2 p.2).next := by
    unfold MkS.var
    split
    · exact Int.le_refl _
    · simp only [MkS.lay, MkS.fresh]; omega
  unfold getS
  split
  · exact ⟨hv, fun q hq => by cases hq⟩
  · split
    · exact ⟨Int.le_refl _, fun q hq => by cases hq⟩
    · split
      · exact unifyS_regs p.1.args (m.lay ⟨4, 0, p.2, p.1.hd.s, p.1.hd.n, false⟩)
      · exact ⟨Int.le_refl _, fun q hq => by cases hq⟩
/-- a row whose terms are right, in registers that are numbers -/
def RowOkN (ps : List (Tm × Int)) : Prop := ∀ p ∈ ps, p.1.ok ∧ p.1.flat.length ≤ 200 ∧ 0 ≤ p.2 ∧ p.2 ≤ 900000
theorem mem_short {t u : Tm} (hu : u ∈ t.args) : u.flat.length < t.flat.length := by
  rw [flat_cons t, List.length_cons]
  have key : ∀ ts : List Tm, u ∈ ts → u.flat.length ≤ (flats ts).length := by
    intro ts
    induction ts with
    | nil => intro h; cases h
    | cons v ts ih =>
      intro h
      simp only [flats, List.length_append]
      rcases List.mem_cons.1 h with rfl | h
      · omega
      · have := ih h; omega
  have := key _ hu
  omega
theorem RowOkN.step {p : Tm × Int} {ps : List (Tm × Int)} {m : MkS} (h : RowOkN (p :: ps)) (h0 : 0 ≤ m.next) (hn : (getS p m).1.next ≤ 900000) : RowOkN (ps ++ (getS p m).2) := by
  intro q hq
  rcases List.mem_append.1 hq with hq | hq
  · exact h q (List.mem_cons_of_mem _ hq)
  · obtain ⟨h1, h2, h3⟩ := (getS_regs p m).2 q hq
    obtain ⟨a, b, c, d⟩ := h p List.mem_cons_self
    have := mem_short h3
    exact ⟨oks_mem ((ok_iff p.1).1 a).2.2 _ h3, by omega, by omega, by omega⟩
theorem rowOf_next (ts : List Tm) : ∀ (i : Nat) (t : Tm), rowOf (ts ++ [t]) i = rowOf ts i ++ [(t, ((i + ts.length : Nat) : Int))] := by
  induction ts with
  | nil => intro i t; simp [rowOf]
  | cons u ts ih =>
    intro i t
    rw [List.cons_append]
    unfold rowOf
    rw [ih (i + 1) t]
    simp only [List.cons_append, List.length_cons]
    congr 4
    omega
theorem rowOf_length (ts : List Tm) : ∀ i : Nat, (rowOf ts i).length = ts.length := by
  induction ts with
  | nil => intro i; rfl
  | cons u ts ih => intro i; unfold rowOf; simp [ih]
theorem rowOf_ok {ts : List Tm} (h : oks ts) (h2 : ∀ t ∈ ts, t.flat.length ≤ 200) : ∀ i : Nat, i + ts.length ≤ 900000 → RowOkN (rowOf ts i) := by
  induction ts with
  | nil => intro i _ p hp; cases hp
  | cons u ts ih =>
    intro i hi p hp
    unfold rowOf at hp
    simp only [List.length_cons] at hi
    rcases List.mem_cons.1 hp with rfl | hp
    · exact ⟨h.1, h2 _ List.mem_cons_self, by simp only; omega, by simp only; omega⟩
    · exact ih h.2 (fun t ht => h2 t (List.mem_cons_of_mem _ ht)) (i + 1) (by omega) p hp
theorem sumF_len (ps : List (Tm × Int)) : ps.length ≤ sumF ps := by
  induction ps with
  | nil => simp [sumF]
  | cons p ps ih =>
    have := flat_pos p.1
    have e : sumF (p :: ps) = p.1.flat.length + sumF ps := by simp [sumF]
    simp only [List.length_cons]
    omega
end Go.Proofs.Ytkkiemideldioaa
set_option linter.unusedVariables false
namespace Go.Proofs.Ytkkiemideldioaa
open Go.RowKit

set_option maxRecDepth 100000 in
set_option maxHeartbeats 12800000 in
theorem head_any (w : World) (B L g : Nat) (vc : Value) (a : Option Addr) (c : Nat) (t : Tm) (m : MkS) (hM : MkM w B L g vc m 0 0) (hr : Row (veil (kB L g vc) w) a c t.flat) (hok : t.ok) (h200 : t.flat.length ≤ 200) (hl : m.code.length + sumC (rowOf t.args 0) ≤ 800000) (F : Nat) (hF : sumF (rowOf t.args 0) ≤ F) (hF2 : F ≤ 100000) :
    Calls Try.prog 54 #[.pointer (some ⟨L, 0, none⟩), .slice a t.flat.length c] w (KPost w B L g vc (rowS F (rowOf t.args 0) m) 0 0 (.tuple #[])) := by
  have HRI := mkHid (right_flat hok h200)
  have HPF := mkHid (parts_flat hok)
  have hrt := hr.keeps (veil_keeps _ _)
  have hpl := hr.le
  have hpm := hr.max
  have HRT := mkHid hrt
  have HM := mkHid hM
  have hal : (t.args.map Tm.flat).length = t.args.length := List.length_map _
  have HAL := mkHid hal
  have ha6 : t.args.length ≤ 6 := by
    have h1 := ar_le _ ((ok_iff t).1 hok).1
    rw [((ok_iff t).1 hok).2.1]
    exact h1
  have HOKS := mkHid ((ok_iff t).1 hok).2.2
  have HSH : Hid (∀ u ∈ t.args, u.flat.length ≤ 200) := fun u hu => by have := mem_short hu; omega
  have HL := mkHid hl
  have HF := mkHid hF
  clear hrt hM hr hal hl hF
  generalize t.args = ts at *
  go_enter Try.func54, Try.ntmps54
  go_wp2_with fail
  refine (parts_newN a c w t.flat HRT.out HRI.out).mono ?_
  rintro e w1 ⟨a3, c3, rfl, hnew, hb1⟩
  rw [HPF.out] at hnew ⊢
  have hle := hnew.row.le
  have hmx := hnew.row.max
  rw [HAL.out] at hle ⊢
  have HG0 : Hid (UniGo w B L g vc w.heap.size a3 c3 ts m ((rowOf (ts.take 0) 0).map plOf) vc (.slice none 0 0) w1) := by
    simp only [List.take_zero, rowOf, List.map_nil]
    exact ⟨HM.out.below hb1, (Row.keeps hnew (under_veilN _ fun b hb => (HM.out.allB b hb).2)).keeps (fun b o v hc => hc), .nil _ _ _, fun b hb => by (cases hb), Fr.of hb1, .inl rfl⟩
  clear hnew hb1
  go_wp2_with fail
  go_loopw [4, 5, 6, 10] (fun vo _ _ i wr => ∃ (k : Nat), i = .int .i64 k ∧ k ≤ ts.length ∧ Hid (UniGo w B L g vc w.heap.size a3 c3 ts m ((rowOf (ts.take k) 0).map plOf) vc vo wr)) (fun _ _ _ i wr => ts.length - (intOf i).toNat)
  case atStart => exact ⟨0, rfl, Nat.zero_le _, HG0⟩
  case round =>
    clear HG0
    obtain ⟨k, rfl, hk, HG⟩ := hrel
    by_cases hlt : k < ts.length
    · obtain ⟨b4, off4, a5, c5, rfl, p0, hrp⟩ := row_partN HG.out.row (k := k) (by simpa using hlt)
      simp only [List.getElem_map] at p0 hrp
      have p0' := (vw_cell p0).2.2.2
      have hpl5 := hrp.le
      have hpm5 := hrp.max
      have HRP := mkHid hrp
      have HNX : Hid (rowOf (ts.take (k + 1)) 0 = rowOf (ts.take k) 0 ++ [(ts[k], (k : Int))]) := by
        rw [Hid, List.take_succ_eq_append_getElem hlt, rowOf_next, List.length_take]
        congr 4
        omega
      have hps : ((rowOf (ts.take k) 0).map plOf).length ≤ 6 := by rw [List.length_map, rowOf_length, List.length_take]; omega
      have hB3 : w.heap.size ≤ wr.heap.size := HG.out.fr.size
      have HKB := mkHid (fun b hb => (HG.out.mkm.allB b hb).2)
      obtain ⟨so, sc, rfl, hs1, hs2, _⟩ := HG.out.op.slice
      clear p0 hrp
      generalize hu : ts[k] = u at *
      clear hu
      generalize hpp : rowOf (ts.take k) 0 = ps at *
      clear hpp
      go_wp2_with (at_builtin; refine wpList_appP rfl _ _ rfl HG.out.op hB3 HKB.out (by rfl) rfl HRP.out (by omega) (by omega) (by rfl) (by omega) ?_; intro v' w4 hp4 hg4 hn4; have HG4 := mkHid (HG.out.opn hp4 hg4 hn4))
      go_round
      case rel => exact ⟨k + 1, by go_num, by omega, by rw [HNX.out, Hid]; simpa [plOf] using HG4.out⟩
      case measure => simp [intOf]; omega
    · obtain rfl : k = ts.length := by omega
      rw [List.take_length] at HG
      have HG1 : Hid (RowGo w B L g vc w.heap.size m ((rowOf ts 0).map plOf) vc u4 wr) := ⟨HG.out.mkm, HG.out.op, HG.out.og, HG.out.fr, HG.out.new⟩
      have HO := mkHid (rowOf_ok HOKS.out HSH.out 0 (by omega))
      clear HG
      go_wp2_with fail
      go_loopg [4] F (fun kk vo wz => ∃ (ps : List (Tm × Int)) (m1 : MkS) (vk : Value), kk ≤ F ∧ Hid (sumF ps ≤ kk) ∧ Hid (rowS F (rowOf ts 0) m = rowS kk ps m1) ∧ Hid (RowOkN ps) ∧ Hid (m1.code.length + sumC ps = m.code.length + sumC (rowOf ts 0)) ∧ Hid (RowGo w B L g vc w.heap.size m1 (ps.map plOf) vk vo wz))
      case atStart => exact ⟨_, m, vc, Nat.le_refl _, HF, rfl, HO, rfl, HG1⟩
      case round =>
        clear HG1 HO
        obtain ⟨ps, m1, vk, hkF, HSF, HRS, HO, HCN, HG⟩ := hrel
        cases ps with
        | nil =>
          obtain ⟨so, sc, rfl, hs1, hs2, _⟩ := HG.out.op.slice
          have HE : Hid (rowS F (rowOf ts 0) m = m1) := by
            rw [Hid, HRS.out]
            cases gk <;> rfl
          go_wp2_with fail
          refine bodyPost_ret (results_none rfl _ _ _) rfl ⟨rfl, vk, ?_, HG.out.fr, HG.out.new⟩
          rw [HE.out]
          exact HG.out.mkm
        | cons p ps =>
          have hfl := flat_pos p.1
          have hsf : sumF (p :: ps) = p.1.flat.length + sumF ps := by simp [sumF]
          have hsc : sumC (p :: ps) = cntR p.1 + sumC ps := by simp [sumC]
          obtain ⟨kk, rfl⟩ : ∃ kk, gk = kk + 1 := ⟨gk - 1, by have := HSF.out; omega⟩
          obtain ⟨ho1, ho2, ho3, ho4⟩ := HO.out p List.mem_cons_self
          obtain ⟨hg1, hg2, _⟩ := getS_len p m1 (ok_kinds _ ho1)
          have hcode : (getS p m1).1.code.length + sumC (ps ++ (getS p m1).2) = m.code.length + sumC (rowOf ts 0) := by rw [sumC_app]; have := HCN.out; omega
          have hm1 : m1.code.length ≤ 800000 := by have := HCN.out; have := HL.out; omega
          have hm2 : (getS p m1).1.code.length ≤ 800000 := by have := HL.out; omega
          have hsum : sumF (ps ++ (getS p m1).2) ≤ kk := by rw [sumF_app]; have := HSF.out; omega
          have HSF1 := mkHid hsum
          have HRS1 : Hid (rowS F (rowOf ts 0) m = rowS kk (ps ++ (getS p m1).2) (getS p m1).1) := HRS.out
          have HCN1 := mkHid hcode
          have hlps := sumF_len (ps ++ (getS p m1).2)
          rw [List.length_append] at hlps
          have HM1 := mkHid HG.out.mkm.next
          have hG := HG.out
          rw [List.map_cons] at hG
          obtain ⟨gb, off, cap, pa, pc, rfl, c0, c1, hpr, hr1, hr2⟩ := hG.op.head
          have HPR := mkHid hpr
          have HG9 := mkHid hG
          obtain ⟨_, _, e9, hs1, hs2, _⟩ := hG.op.slice
          cases e9
          clear hG hpr HG hg1 hg2 hcode
          have hln : (ps.map plOf).length ≤ 100000 := by rw [List.length_map]; omega
          have hln2 : ((getS p m1).2.map plOf).length ≤ 100000 := by rw [List.length_map]; omega
          generalize hqs : ps.map plOf = qs at *
          have HQS := mkHid hqs
          clear hqs
          have hcap : qs.length + 1 ≤ cap := hs1
          go_wp2_with fail
          refine wp_region_noPanic ?_
          refine wp_region_held_drew (S := fun _ => True) (by kernel_rfl) trivial (fun _ => ?_)
          have hbd : Below wr.heap.size wr wr.drew := (Below.refl _ _).drew
          have d0 := keep c0 hbd
          have d1 := keep c1 hbd
          clear c0 c1
          obtain ⟨v0, hx0⟩ : ∃ X, wr.drew = X := ⟨_, rfl⟩
          rw [hx0] at hbd d0 d1 ⊢
          clear hx0
          obtain ⟨off', hoff⟩ : ∃ off', (cap = 1 → off' = off) ∧ (¬ cap = 1 → off' = off + 2) := by
            by_cases h : cap = 1
            · exact ⟨off, fun _ => rfl, fun h2 => absurd h h2⟩
            · exact ⟨off + 2, fun h2 => absurd h2 h, fun _ => rfl⟩
          have hlen1 : (1 : Int) ≤ (qs.length : Int) + 1 := by omega
          refine wpAnyH_take (i := 0) (oi := _) (v := ?_) rfl (by kernel_rfl) (by kernel_rfl) (by kernel_rfl) (fun _ _ _ h => h) (Or.inl ⟨by rfl, ?_⟩) (by assumption) ?_
          rotate_left
          · (intro w' _; go_simp; try with_reducible rfl)
          (try simp only [List.getElem_toArray, List.getElem_cons_succ, List.getElem_cons_zero, Act.put, List.setIfInBounds_toArray, List.set_cons_zero, List.set_cons_succ])
          have hoff2 : off' = off + 2 ∨ cap - 1 = 0 ∧ off' = off := by
            by_cases h : cap = 1
            · exact .inr ⟨by omega, hoff.1 h⟩
            · exact .inl (hoff.2 h)
          have HOF : Hid ((if cap = 1 then some (⟨gb, off, none⟩ : Addr) else some ⟨gb, off + 2, none⟩) = some ⟨gb, off', none⟩) := by
            by_cases h : cap = 1
            · rw [Hid, if_pos h, hoff.1 h]
            · rw [Hid, if_neg h, hoff.2 h]
          refine wpAnyH_take (i := 1) (oi := _) (v := .slice (some ⟨gb, off', none⟩) qs.length (cap - 1)) rfl (by kernel_rfl) (by kernel_rfl) (by kernel_rfl) (fun _ _ _ h => h) (Or.inl ⟨by rfl, ?_⟩) (by assumption) ?_
          · (intro w' _; go_simp; try (first | with_reducible rfl | (exact HOF.out)))
          (try simp only [List.getElem_toArray, List.getElem_cons_succ, List.getElem_cons_zero, Act.put, List.setIfInBounds_toArray, List.set_cons_zero, List.set_cons_succ])
          refine wpAnyH_take (i := 2) (oi := _) (v := ?_) rfl (by kernel_rfl) (by kernel_rfl) (by kernel_rfl) (fun _ _ _ h => h) (Or.inl ⟨by rfl, ?_⟩) (by assumption) ?_
          rotate_left
          · (intro w' _; go_simp; try with_reducible rfl)
          (try simp only [List.getElem_toArray, List.getElem_cons_succ, List.getElem_cons_zero, Act.put, List.setIfInBounds_toArray, List.set_cons_zero, List.set_cons_succ])
          refine wpAnyH_take (i := 3) (oi := _) (v := ?_) rfl (by kernel_rfl) (by kernel_rfl) (by kernel_rfl) (fun _ _ _ h => h) (Or.inl ⟨by rfl, ?_⟩) (by assumption) ?_
          rotate_left
          · (intro w' _; go_simp; try with_reducible rfl)
          (try simp only [List.getElem_toArray, List.getElem_cons_succ, List.getElem_cons_zero, Act.put, List.setIfInBounds_toArray, List.set_cons_zero, List.set_cons_succ])
          refine wpAnyH_take (i := 4) (oi := _) (v := ?_) rfl (by kernel_rfl) (by kernel_rfl) (by kernel_rfl) (fun _ _ _ h => h) (Or.inl ⟨by rfl, ?_⟩) (by assumption) ?_
          rotate_left
          · (intro w' _; go_simp; try with_reducible rfl)
          (try simp only [List.getElem_toArray, List.getElem_cons_succ, List.getElem_cons_zero, Act.put, List.setIfInBounds_toArray, List.set_cons_zero, List.set_cons_succ])
          refine wpAnyH_ready (rs := [5]) (by kernel_rfl) (by simp) ?_
          refine AllReadyH.cons (o := _) rfl (fun K hK => ?_) AllReadyH.nil
          go_simp
          try dsimp only
          refine hK.out _ _ trivial (fun _ => ?_)
          clear hK K
          (try simp only [List.getElem_toArray, List.getElem_cons_succ, List.getElem_cons_zero, Act.put, List.setIfInBounds_toArray, List.set_cons_zero, List.set_cons_succ])
          refine wpAnyH_ready (rs := [6]) (by kernel_rfl) (by simp) ?_
          refine AllReadyH.cons (o := _) rfl (fun K hK => ?_) AllReadyH.nil
          go_simp
          have HM0 : Hid (MkM v0 B L g vk m1 0 0) := HG9.out.mkm.below hbd
          have HT0 : Hid (RowP v0 (kB L g vk) w.heap.size qs (.slice (some ⟨gb, off', none⟩) qs.length (cap - 1))) := (HG9.out.op.tail hoff2).below hbd
          have hrow0 : Row (veil (kB L g vk) v0) pa pc p.1.flat := HPR.out.keeps fun b o x hx => by
            obtain ⟨h1, h2, h3, h4⟩ := vw_cell hx
            exact veil_of h2 (keep h4 hbd)
          refine Calls.mono (R := GPost v0 B L g vk (getS p m1).1 ((getS p m1).2.map plOf)) (get_any v0 B L g vk pa pc p.1 p.2 m1 HM0.out hrow0 ho1 ho2 ho3 (by omega) hm1) ?_
          rintro e w5 ⟨vo5, rfl, vk5, hM5, hP5, hF5, hN5⟩
          have hT5 := HT0.out.turn hF5 (kB_new hN5)
          obtain ⟨v6, w6, hrun, hP6, hg6, hn6⟩ := hT5.join hP5 hF5.size (Nat.le_trans HG9.out.fr.size hbd.size) (fun b hb => (HT0.out.lt b hb).2) (fun b hb => (hM5.allB b hb).2) 163 (by omega)
          have hG6 := HG9.out.step (W1 := w5) (W2 := w6) (HG9.out.op.tail hoff2) rfl hM5 ((Fr.of hbd).trans hF5) (newAtN_trans (.inl rfl) hbd.size hN5) hP6 hg6 hn6
          have HG6 := mkHid hG6
          clear hG6 hP6 hg6 hn6 hT5 hM5 hP5 hF5 hN5 hrow0
          try dsimp only
          refine hK.out _ _ trivial (fun _ => ?_)
          clear hK K
          (try simp only [List.getElem_toArray, List.getElem_cons_succ, List.getElem_cons_zero, Act.put, List.setIfInBounds_toArray, List.set_cons_zero, List.set_cons_succ])
          refine wpAnyH_ready (rs := [7]) (by kernel_rfl) (by simp) ?_
          refine AllReadyH.cons (o := _) rfl (fun K hK => ?_) AllReadyH.nil
          (rw [if_pos (by rfl)]; simp [Oper.wp, execOp, resolve, invoke, builtin, Oper.upon, Act.eval, hrun, Result.andThen, Sem.run_bind])
          refine hK.out _ _ trivial (fun _ => ?_)
          clear hK K
          (try simp only [List.getElem_toArray, List.getElem_cons_succ, List.getElem_cons_zero, Act.put, List.setIfInBounds_toArray, List.set_cons_zero, List.set_cons_succ])
          refine wpAnyH_take (i := 8) (oi := _) (v := ?_) rfl (by kernel_rfl) (by kernel_rfl) (by kernel_rfl) (fun _ _ _ h => h) (Or.inl ⟨by rfl, ?_⟩) (by assumption) ?_
          rotate_left
          · (intro w' _; go_simp; try with_reducible rfl)
          (try simp only [List.getElem_toArray, List.getElem_cons_succ, List.getElem_cons_zero, Act.put, List.setIfInBounds_toArray, List.set_cons_zero, List.set_cons_succ])
          refine wpAnyH_done (by kernel_rfl) (NoPanic.normal ?_) _
          clear hrun d0 d1
          go_wp2_with fail
          go_roundg kk
          case rel => exact ⟨_, _, vk5, by omega, HSF1, HRS1, HO.out.step (by have := HM1.out; omega) (by have := HG6.out.mkm.next; omega), HCN1, by rw [Hid, List.map_append, HQS.out]; exact HG6.out⟩
          case measure => omega
end Go.Proofs.Ytkkiemideldioaa
set_option linter.unusedVariables false
namespace Go.Proofs.Ytkkiemideldioaa
open Go.RowKit

/-! ### a literal's structure: the memory -/
theorem RowU.madeN (w : World) (n : Nat) : RowU (w.alloc (.cells (Array.replicate n (Value.int .i64 0)) 3)) w.heap.size (List.replicate n (0 : Int)) := by
  unfold RowU
  rw [heap_alloc_new]
  congr 2
  simp
theorem made_intsN (n : Nat) : madeCells (Value.int .i64 0).cells n = Array.replicate n (Value.int .i64 0) := by
  unfold madeCells
  simp only [Value.cells]
  apply Array.ext
  · simp
  · intro i h1 h2
    simp [Nat.mod_one]
theorem run_intsN (n : Nat) (hn : n ≤ 1000000) (w : World) : (Instr.makeSlice 58 (.int .i64 n) (.int .i64 n)).run Try.prog w = .ok (.slice (some ⟨w.heap.size, 0, none⟩) n n) (w.alloc (.cells (Array.replicate n (Value.int .i64 0)) 3)) := by
  obtain ⟨i, hi, hz0, hz1, hz2⟩ := info_parts Try.infoInt
  have hrun := run_make (P := Try.prog) w 58 3 i _ Try.underlying58 hi hz0 .i64 .i64 n n (by omega) (Int.le_refl _) (by rw [hz2]; omega) (by omega)
  rw [hz1, Nat.mul_one, Int.toNat_natCast, made_intsN] at hrun
  exact hrun

/-- the closure that calls itself -/
def strF (F M : Nat) : Value := .func (.func 119) #[] #[.pointer (some ⟨F, 0, none⟩), .pointer (some ⟨M, 0, none⟩)]
structure StrN (w : World) (B L g : Nat) (vc : Value) (F M : Nat) (a : Option Addr) (c : Nat) (t : Tm) (a3 : Option Addr) (c3 I : Nat) (rs : List Int) (m : MkS) (vk : Value) (W : World) : Prop where
  mkm : MkM W B L g vk m 0 0
  inn : RowU W I rs
  iI : I ∉ kB L g vk
  tr : Row (veil (I :: kB L g vk) W) a c t.flat
  ps : Row (veil (I :: kB L g vk) W) a3 c3 (t.args.map Tm.flat)
  f : (veil (I :: kB L g vk) W).cell? ⟨F, 0, none⟩ = some (strF F M)
  mc : (veil (I :: kB L g vk) W).cell? ⟨M, 0, none⟩ = some (.pointer (some ⟨L, 0, none⟩))
  fr : Fr (kB L g vc) w W
  new : NewAtN w vc vk
  hI : w.heap.size ≤ I
section
variable {w W W' : World} {B L g F M c c3 I : Nat} {vc vk vk' : Value} {a a3 : Option Addr} {t : Tm} {rs : List Int} {m m' : MkS}
theorem veilI_keeps (hf : Fr (kB L g vk) W W') (hn : NewAtN W vk vk') : Keeps (veil (I :: kB L g vk) W) (veil (I :: kB L g vk') W') := fun b o x hx => by
  obtain ⟨h1, h2⟩ := veil_cell hx
  have hl := cell_lt h2
  simp only [List.mem_cons, not_or] at h1
  refine veil_of (fun e => ?_) ((World.cell?_of_block (w := W) (a := ⟨b, o, none⟩) (hf.block b hl h1.2)).trans h2)
  rcases List.mem_cons.1 e with e | e
  · exact h1.1 e
  · rcases kB_new hn b e with e | e
    · exact h1.2 e
    · omega
theorem StrN.mkr (h : StrN w B L g vc F M a c t a3 c3 I rs m vk W) (hM : MkM W' B L g vk' m' 0 0) (hf : Fr (kB L g vk) W W') (hn : NewAtN W vk vk') : StrN w B L g vc F M a c t a3 c3 I rs m' vk' W' := by
  have hk := veilI_keeps (I := I) hf hn
  have hlt := h.inn.lt
  exact ⟨hM, h.inn.fr hf h.iI, fun e => by rcases kB_new hn I e with e | e; exact h.iI e; omega, h.tr.keeps hk, h.ps.keeps hk, hk _ _ _ h.f, hk _ _ _ h.mc, frK_trans h.fr h.new hf, newAtN_trans h.new h.fr.size hn, h.hI⟩
theorem StrN.below (h : StrN w B L g vc F M a c t a3 c3 I rs m vk W) (hb : Below W.heap.size W W') : StrN w B L g vc F M a c t a3 c3 I rs m vk W' := h.mkr (h.mkm.below hb) (Fr.of hb) (.inl rfl)
theorem StrN.set (h : StrN w B L g vc F M a c t a3 c3 I rs m vk W) (k : Nat) (v : Int) : StrN w B L g vc F M a c t a3 c3 I (rs.set k v) m vk (W.setCell ⟨I, k, none⟩ (.int .i64 v)) := by
  have hf : Fr [I] W (W.setCell ⟨I, k, none⟩ (.int .i64 v)) := (Fr.refl _ _).set (by simp) _
  have hk : Keeps (veil (I :: kB L g vk) W) (veil (I :: kB L g vk) (W.setCell ⟨I, k, none⟩ (.int .i64 v))) := Fr.keeps (hf.sub (by simp))
  refine ⟨h.mkm.fr hf (fun b hb e => ?_), h.inn.set k v, h.iI, h.tr.keeps hk, h.ps.keeps hk, hk _ _ _ h.f, hk _ _ _ h.mc, ?_, h.new, h.hI⟩
  · simp at e; exact h.iI (e ▸ hb)
  · have h2 : Fr ([I] ++ kB L g vc) w (W.setCell ⟨I, k, none⟩ (.int .i64 v)) := (h.fr.sub fun k hk => List.mem_append_right _ hk).trans (hf.sub fun k hk => List.mem_append_left _ hk)
    exact h2.fresh fun k hk => by simp at hk; rw [hk]; exact h.hI
end
/-! ### what is plain of it -/
theorem innerS_cons (t : Tm) (ts : List Tm) (m : MkS) : innerS (t :: ts) m = if t.hd.k = 3 then ((innerS ts (structS t m).1).1, (structS t m).2 :: (innerS ts (structS t m).1).2) else ((innerS ts m).1, 0 :: (innerS ts m).2) := by
  conv => lhs; unfold innerS
theorem innerS_append (a b : List Tm) : ∀ m : MkS, innerS (a ++ b) m = ((innerS b (innerS a m).1).1, (innerS a m).2 ++ (innerS b (innerS a m).1).2) := by
  induction a with
  | nil => intro m; simp [innerS]
  | cons t a ih =>
    intro m
    rw [List.cons_append, innerS_cons t (a ++ b), innerS_cons t a]
    by_cases h3 : t.hd.k = 3
    · simp only [if_pos h3]; rw [ih]; simp
    · simp only [if_neg h3]; rw [ih]; simp
theorem innerS_next {ts : List Tm} {k : Nat} (hk : k < ts.length) (m : MkS) : innerS (ts.take (k + 1)) m = if ts[k].hd.k = 3 then ((structS ts[k] (innerS (ts.take k) m).1).1, (innerS (ts.take k) m).2 ++ [(structS ts[k] (innerS (ts.take k) m).1).2]) else ((innerS (ts.take k) m).1, (innerS (ts.take k) m).2 ++ [0]) := by
  rw [List.take_succ_eq_append_getElem hk, innerS_append, innerS_cons]
  split
  · simp [innerS]
  · simp [innerS]
theorem setsS_next {ts : List Tm} {rs : List Int} {k : Nat} (hk : k < ts.length) (hr : k < rs.length) (m : MkS) : setsS (ts.take (k + 1)) (rs.take (k + 1)) m = setS ts[k].hd rs[k] (setsS (ts.take k) (rs.take k) m) := by
  have key : ∀ (a : List Tm) (b : List Int) (t : Tm) (r : Int) (m : MkS), a.length = b.length → setsS (a ++ [t]) (b ++ [r]) m = setS t.hd r (setsS a b m) := by
    intro a
    induction a with
    | nil => intro b t r m h; cases b with
      | nil => simp [setsS]
      | cons _ _ => simp at h
    | cons x a ih => intro b t r m h; cases b with
      | nil => simp at h
      | cons y b => simp only [List.cons_append, setsS]; exact ih b t r _ (by simpa using h)
  rw [List.take_succ_eq_append_getElem hk, List.take_succ_eq_append_getElem hr]
  exact key _ _ _ _ _ (by rw [List.length_take, List.length_take]; omega)
theorem setS_short (c : Cel) (r : Int) (m : MkS) : (setS c r m).code.length ≤ m.code.length + 1 := by
  unfold setS
  split
  · rw [var_len]; omega
  · split
    · rw [lay_len]; omega
    · split
      · rw [lay_len]; omega
      · omega
theorem setsS_short : ∀ (ts : List Tm) (rs : List Int) (m : MkS), (setsS ts rs m).code.length ≤ m.code.length + ts.length
  | [], _, m => by simp [setsS]
  | t :: ts, [], m => by simp [setsS]
  | t :: ts, r :: rs, m => by
    unfold setsS
    have := setsS_short ts rs (setS t.hd r m)
    have := setS_short t.hd r m
    simp only [List.length_cons]
    omega
mutual
theorem structS_short : ∀ (t : Tm) (m : MkS), (structS t m).1.code.length ≤ m.code.length + 2 * t.flat.length
  | .mk c ts, m => by
    unfold structS
    have h1 := innerS_short ts m
    have h2 := setsS_short ts (innerS ts m).2 ((innerS ts m).1.fresh.lay ⟨8, 0, (innerS ts m).1.next, c.s, c.n, false⟩)
    rw [lay_len] at h2
    have e : (innerS ts m).1.fresh.code.length = (innerS ts m).1.code.length := rfl
    simp only [Tm.flat, List.length_cons]
    omega
theorem innerS_short : ∀ (ts : List Tm) (m : MkS), (innerS ts m).1.code.length + ts.length ≤ m.code.length + 2 * (flats ts).length
  | [], m => by simp [innerS]
  | t :: ts, m => by
    rw [innerS_cons]
    have hf := flat_pos t
    simp only [flats, List.length_append, List.length_cons]
    split
    · have h1 := structS_short' t m
      have h2 := innerS_short ts (structS t m).1
      simp only
      omega
    · have h2 := innerS_short ts m
      simp only
      omega
theorem structS_short' : ∀ (t : Tm) (m : MkS), (structS t m).1.code.length + 1 ≤ m.code.length + 2 * t.flat.length
  | .mk c ts, m => by
    unfold structS
    have h1 := innerS_short ts m
    have h2 := setsS_short ts (innerS ts m).2 ((innerS ts m).1.fresh.lay ⟨8, 0, (innerS ts m).1.next, c.s, c.n, false⟩)
    rw [lay_len] at h2
    have e : (innerS ts m).1.fresh.code.length = (innerS ts m).1.code.length := rfl
    simp only [Tm.flat, List.length_cons]
    omega
end
end Go.Proofs.Ytkkiemideldioaa
set_option linter.unusedVariables false
namespace Go.Proofs.Ytkkiemideldioaa
open Go.RowKit

theorem innerS_rng : ∀ (ts : List Tm) (m : MkS), KindsL ts → m.fit → ∀ r ∈ (innerS ts m).2, 0 ≤ r ∧ r ≤ (innerS ts m).1.next
  | [], m, _, _, r, hr => by simp [innerS] at hr
  | t :: ts, m, hk, hf, r, hr => by
    rw [innerS_cons] at hr ⊢
    by_cases h3 : t.hd.k = 3
    · rw [if_pos h3] at hr ⊢
      obtain ⟨⟨f1, n1, _⟩, s1, s2⟩ := structS_lays t m hk.1 hf
      obtain ⟨⟨f2, n2, _⟩, _⟩ := innerS_lays ts (structS t m).1 hk.2 f1
      rcases List.mem_cons.1 hr with rfl | hr
      · exact ⟨s1, by simp only; omega⟩
      · exact innerS_rng ts (structS t m).1 hk.2 f1 r hr
    · rw [if_neg h3] at hr ⊢
      rcases List.mem_cons.1 hr with rfl | hr
      · obtain ⟨⟨f2, n2, _⟩, _⟩ := innerS_lays ts m hk.2 hf
        have := hf.1
        exact ⟨Int.le_refl _, by simp only; omega⟩
      · exact innerS_rng ts m hk.2 hf r hr
theorem pad_set {l : List Int} {n k : Nat} (hl : l.length = k) (hk : k < n) (v : Int) : (l ++ List.replicate (n - k) 0).set k v = (l ++ [v]) ++ List.replicate (n - (k + 1)) 0 := by
  subst hl
  rw [List.set_append_right _ _ (Nat.le_refl _), Nat.sub_self, show n - l.length = (n - (l.length + 1)) + 1 by omega, List.replicate_succ]
  simp
theorem pad_zero {l : List Int} {n k : Nat} (hk : k < n) : l ++ List.replicate (n - k) 0 = (l ++ [0]) ++ List.replicate (n - (k + 1)) 0 := by
  rw [show n - k = (n - (k + 1)) + 1 by omega, List.replicate_succ]
  simp
theorem flats_take_le (ts : List Tm) (k : Nat) (hk : k < ts.length) : 2 * (flats (ts.take k)).length + 2 * ts[k].flat.length ≤ 2 * (flats ts).length := by
  have h3 := congrArg List.length (flats_append (ts.take (k + 1)) (ts.drop (k + 1)))
  rw [List.take_append_drop, List.length_append, List.take_succ_eq_append_getElem hk, flats_append, List.length_append] at h3
  have h4 : (flats [ts[k]]).length = ts[k].flat.length := by simp [flats]
  omega
set_option maxRecDepth 100000 in
set_option maxHeartbeats 12800000 in
theorem struct_any (B L g F M : Nat) : ∀ (n : Nat) (t : Tm) (w : World) (vc : Value) (m : MkS) (a : Option Addr) (c : Nat), t.flat.length ≤ n → t.ok → t.hd.k = 3 → t.flat.length ≤ 200 → MkM w B L g vc m 0 0 → Row (veil (kB L g vc) w) a c t.flat →
    (veil (kB L g vc) w).cell? ⟨F, 0, none⟩ = some (strF F M) → (veil (kB L g vc) w).cell? ⟨M, 0, none⟩ = some (.pointer (some ⟨L, 0, none⟩)) → m.code.length + 2 * t.flat.length ≤ 800000 →
    Calls Try.prog 119 #[.slice a t.flat.length c, .pointer (some ⟨F, 0, none⟩), .pointer (some ⟨M, 0, none⟩)] w (KPost w B L g vc (structS t m).1 0 0 (.int .i64 (structS t m).2)) := by
  intro n
  induction n with
  | zero => intro t w vc m a c h; have := flat_pos t; omega
  | succ n ih =>
    intro t w vc m a c hn hok h3 h200 hM hr hF hMc hl
    have HRI := mkHid (right_flat hok h200)
    have HPF := mkHid (parts_flat hok)
    have HRT := mkHid (hr.keeps (veil_keeps _ _))
    have hpl := hr.le
    have hpm := hr.max
    have HM := mkHid hM
    have HR := mkHid hr
    have HFF := mkHid hF
    have HMM := mkHid hMc
    have IH := mkHid ih
    have HFC := mkHid (flat_cons t)
    have HFL : Hid (t.flat.length = (flats t.args).length + 1) := by rw [Hid, flat_cons]; simp
    have hal : (t.args.map Tm.flat).length = t.args.length := List.length_map _
    have HAL := mkHid hal
    have ha6 : t.args.length ≤ 6 := by
      have h1 := ar_le _ ((ok_iff t).1 hok).1
      rw [((ok_iff t).1 hok).2.1]
      exact h1
    have HOKS := mkHid ((ok_iff t).1 hok).2.2
    have HKN := mkHid (ok_kinds t hok)
    have HST : Hid (structS t m = (setsS t.args (innerS t.args m).2 ((innerS t.args m).1.fresh.lay ⟨8, 0, (innerS t.args m).1.next, t.hd.s, t.hd.n, false⟩), (innerS t.args m).1.next)) := by
      cases t with
      | mk c0 us => rw [Hid]; conv => lhs; unfold structS
                    rfl
    have HSH : Hid (∀ u ∈ t.args, u.flat.length ≤ 200 ∧ u.flat.length ≤ n) := fun u hu => by have := mem_short hu; omega
    have HIS := mkHid (innerS_short t.args m)
    clear ih hM hr hF hMc hal
    go_enter Try.func119, Try.ntmps119
    go_wp2_with fail
    refine (parts_newN a c w t.flat HRT.out HRI.out).mono ?_
    rintro e w1 ⟨a3, c3, rfl, hnew, hb1⟩
    rw [HPF.out] at hnew ⊢
    have hle := hnew.row.le
    have hmx := hnew.row.max
    rw [HAL.out] at hle ⊢
    have hmk := run_intsN t.args.length (by omega) w1
    have HNW := mkHid hnew
    have HB1 := mkHid hb1
    clear hnew hb1
    go_wp2_with fail
    obtain ⟨W1, hW⟩ : ∃ V, w1.alloc (.cells (Array.replicate t.args.length (Value.int .i64 0)) 3) = V := ⟨_, rfl⟩
    have hbw : Below w1.heap.size w1 W1 := by rw [← hW]; exact (Below.refl _ _).new _
    have hru : RowU W1 w1.heap.size (List.replicate t.args.length (0 : Int)) := by rw [← hW]; exact RowU.madeN _ _
    rw [hW]
    clear hW hmk
    obtain ⟨I, hI⟩ : ∃ V, w1.heap.size = V := ⟨_, rfl⟩
    have hwI : w.heap.size ≤ I := by rw [← hI]; exact HB1.out.size
    rw [hI] at hru ⊢
    have HG0 : Hid (StrN w B L g vc F M a c t a3 c3 I ((innerS (t.args.take 0) m).2 ++ List.replicate (t.args.length - 0) 0) (innerS (t.args.take 0) m).1 vc W1) := by
      simp only [List.take_zero, innerS, Nat.sub_zero, List.nil_append]
      have hb2 : Below w.heap.size w W1 := HB1.out.then hbw
      have hnI : I ∉ kB L g vc := fun e => by have := (HM.out.allB I e).2; omega
      have hk : ∀ {b o : Nat} {x : Value}, (veil (kB L g vc) w).cell? ⟨b, o, none⟩ = some x → (veil (I :: kB L g vc) W1).cell? ⟨b, o, none⟩ = some x := fun {b o x} hx => by
        obtain ⟨h1, h2⟩ := veil_cell hx
        have hlt := cell_lt h2
        exact veil_of (fun e => by rcases List.mem_cons.1 e with e | e; omega; exact h1 e) (keep h2 hb2)
      refine ⟨HM.out.below hb2, hru, hnI, HR.out.keeps fun b o x hx => hk hx, ?_, hk HFF.out, hk HMM.out, Fr.of hb2, .inl rfl, hwI⟩
      refine Row.keeps HNW.out fun b o x hx => ?_
      obtain ⟨h1, h2⟩ := under_cell hx
      have hlt := cell_lt h2
      refine veil_of (fun e => ?_) (keep h2 hbw)
      rcases List.mem_cons.1 e with e | e
      · omega
      · have := (HM.out.allB b e).2
        omega
    have HIW := mkHid hI
    clear hru hbw hI HNW HB1
    generalize hts : t.args = ts at *
    have HTS := mkHid hts
    clear hts
    go_wp2_with fail
    go_loopw [7, 8, 19] (fun _ _ i wr => ∃ (k : Nat) (vk : Value), i = .int .i64 k ∧ k ≤ ts.length ∧ Hid (StrN w B L g vc F M a c t a3 c3 I ((innerS (ts.take k) m).2 ++ List.replicate (ts.length - k) 0) (innerS (ts.take k) m).1 vk wr)) (fun _ _ i wr => ts.length - (intOf i).toNat)
    case atStart => exact ⟨0, vc, rfl, Nat.zero_le _, HG0⟩
    case round =>
      clear HG0
      obtain ⟨k, vk, rfl, hk, HG⟩ := hrel
      by_cases hlt : k < ts.length
      · have hpsr := HG.out.ps
        rw [HTS.out] at hpsr
        obtain ⟨b4, off4, a5, c5, rfl, p0, hrp⟩ := row_partN hpsr (k := k) (by simpa using hlt)
        simp only [List.getElem_map] at p0 hrp
        obtain ⟨b6, off6, rfl, q0, q1, q2, hfp⟩ := row_hdN hrp
        have hpl5 := hrp.le
        have hpm5 := hrp.max
        have hpp := flat_pos ts[k]
        have p0' := (veil_cell p0).2
        have r0 := (veil_cell q0).2
        have HRP := mkHid hrp
        have HNX := mkHid (innerS_next hlt m)
        have hln := innerS_regs (ts.take k) m
        rw [List.length_take] at hln
        have hsh1 := innerS_short (ts.take k) m
        have hsh2 := flats_take_le ts k hlt
        obtain ⟨hu1, hu2⟩ := HSH.out _ (List.getElem_mem hlt)
        have HUO := mkHid (oks_mem HOKS.out _ (List.getElem_mem hlt))
        have f9 := (veil_cell HG.out.f).2
        unfold strF at f9
        clear p0 q0 q1 q2 hrp hfp hpsr
        have hlk : (innerS (ts.take k) m).2.length = k := by omega
        have HLK := mkHid hlk
        have hml : (innerS (ts.take k) m).1.code.length + 2 * ts[k].flat.length ≤ 800000 := by have := HFL.out; omega
        clear hsh1 hsh2 hln hlk
        generalize innerS (ts.take k) m = st at *
        obtain ⟨m1, l1⟩ := st
        dsimp only at HG HNX HLK hml ⊢
        generalize ts[k] = u at *
        by_cases h3 : u.hd.k = 3
        · rw [if_pos h3] at HNX
          have HU3 := mkHid h3
          rw [h3] at r0
          clear h3
          go_wp2_with fail
          refine (IH.out u wr vk m1 (some ⟨b6, off6, none⟩) c5 hu2 HUO.out HU3.out hu1 HG.out.mkm (HRP.out.keeps (veil_mono _ (fun x hx => List.mem_cons_of_mem _ hx))) (veil_mono _ (fun x hx => List.mem_cons_of_mem _ hx) _ _ _ HG.out.f) (veil_mono _ (fun x hx => List.mem_cons_of_mem _ hx) _ _ _ HG.out.mc) hml).mono ?_
          rintro e w5 ⟨rfl, vk5, hM5, hF5, hN5⟩
          have HG5 := mkHid (HG.out.mkr hM5 hF5 hN5)
          clear hM5 hF5 hN5 p0' r0 f9
          generalize structS u m1 = st5 at *
          obtain ⟨m5, r5⟩ := st5
          dsimp only at HNX HG5 ⊢
          have hil : (l1 ++ List.replicate (ts.length - k) 0).length = ts.length := by rw [List.length_append, List.length_replicate, HLK.out]; omega
          obtain ⟨y0, x0⟩ : ∃ y, w5.cell? ⟨I, k, none⟩ = some (.int .i64 y) := ⟨_, HG5.out.inn.read (k := k) (by omega)⟩
          have x1 := HG5.out.inn.free k
          have HG6 := mkHid (HG5.out.set k r5)
          clear hil
          go_wp2_with fail
          go_round
          case rel => exact ⟨k + 1, vk5, by go_num, by omega, by rw [HNX.out, ← pad_set HLK.out hlt r5]; exact HG6⟩
          case measure => simp [intOf]; omega
        · have t3 : (u.hd.k == 3) = false := by simp [h3]
          rw [if_neg h3] at HNX
          clear h3
          go_wp2_with fail
          go_round
          case rel => exact ⟨k + 1, vk, by go_num, by omega, by rw [HNX.out, ← pad_zero hlt]; exact HG⟩
          case measure => simp [intOf]; omega
      · obtain rfl : k = ts.length := by omega
        rw [List.take_length, Nat.sub_self, List.replicate_zero, List.append_nil] at HG
        have hKL : KindsL ts := by
          have h := HKN.out
          cases t with
          | mk c0 us => have e : us = ts := HTS.out; rw [← e]; exact h.2.2
        have HKL := mkHid hKL
        have HRG := mkHid (innerS_rng ts m hKL ⟨HM.out.next.1, HM.out.reg⟩)
        have HLN := mkHid (innerS_regs ts m)
        have c9 := (veil_cell HG.out.mc).2
        have hnx := HG.out.mkm.next
        clear hKL
        generalize innerS ts m = st at *
        obtain ⟨m2, rs⟩ := st
        dsimp only at HG HRG HLN hnx HST HIS ⊢
        have hcl : m2.code.length ≤ 799999 := by have := HIS.out; have := HFL.out; omega
        go_wp2_with fail
        refine (fresh_any _ B L g vk m2 0 0 HG.out.mkm (by omega)).mono ?_
        rintro e w6 ⟨rfl, vk6, hM6, hF6, hN6⟩
        have hk6 := veilI_keeps (I := I) hF6 hN6
        have hrt := HG.out.tr.keeps hk6
        obtain ⟨b, off, rfl, q0, q1, q2, hfp⟩ := row_hdN hrt
        have m6 := (veil_cell (hk6 _ _ _ HG.out.mc)).2
        have s6 := (veil_cell q1).2
        have n6 := (veil_cell q2).2
        have hn1 := hfp.n1
        have hn2 := hfp.n2
        have hns := hfp.s
        have hpos := flat_pos t
        have HM6 := mkHid hM6
        have HF6 := mkHid hF6
        have HN6 := mkHid hN6
        clear hM6 hF6 hN6 hk6 hrt q0 q1 q2 hfp c9
        go_wp2_with fail
        have hbd : Below w6.heap.size w6 w6.drew := (Below.refl _ _).drew
        refine wp_region_noPanic ?_
        refine wp_region_held_drew (S := fun X => X.cell? ⟨M, 0, none⟩ = some (.pointer (some ⟨L, 0, none⟩)) ∧ X.cell? ⟨b, off + 1, none⟩ = some (.string t.hd.s) ∧ X.cell? ⟨b, off + 2, none⟩ = some (.int .i64 t.hd.n)) (by kernel_rfl) ⟨m6, s6, n6⟩ (fun hSd => ?_)
        refine wpAnyH_take (i := 0) (oi := _) (v := ?_) rfl (by kernel_rfl) (by kernel_rfl) (by kernel_rfl) (fun _ _ _ h => h) (Or.inl ⟨by rfl, ?_⟩) (by assumption) ?_
        rotate_left
        · (intro w' hSw; obtain ⟨z0, z1, z2⟩ := hSw; go_simp; try with_reducible rfl)
        (try simp only [List.getElem_toArray, List.getElem_cons_succ, List.getElem_cons_zero, Act.put, List.setIfInBounds_toArray, List.set_cons_zero, List.set_cons_succ])
        refine wpAnyH_take (i := 1) (oi := _) (v := ?_) rfl (by kernel_rfl) (by kernel_rfl) (by kernel_rfl) (fun _ _ _ h => h) (Or.inl ⟨by rfl, ?_⟩) (by assumption) ?_
        rotate_left
        · (intro w' hSw; obtain ⟨z0, z1, z2⟩ := hSw; go_simp; try with_reducible rfl)
        (try simp only [List.getElem_toArray, List.getElem_cons_succ, List.getElem_cons_zero, Act.put, List.setIfInBounds_toArray, List.set_cons_zero, List.set_cons_succ])
        refine wpAnyH_take (i := 2) (oi := _) (v := ?_) rfl (by kernel_rfl) (by kernel_rfl) (by kernel_rfl) (fun _ _ _ h => h) (Or.inl ⟨by rfl, ?_⟩) (by assumption) ?_
        rotate_left
        · (intro w' hSw; obtain ⟨z0, z1, z2⟩ := hSw; go_simp; try with_reducible rfl)
        (try simp only [List.getElem_toArray, List.getElem_cons_succ, List.getElem_cons_zero, Act.put, List.setIfInBounds_toArray, List.set_cons_zero, List.set_cons_succ])
        refine wpAnyH_take (i := 3) (oi := _) (v := ?_) rfl (by kernel_rfl) (by kernel_rfl) (by kernel_rfl) (fun _ _ _ h => h) (Or.inl ⟨by rfl, ?_⟩) (by assumption) ?_
        rotate_left
        · (intro w' hSw; obtain ⟨z0, z1, z2⟩ := hSw; go_simp; try with_reducible rfl)
        (try simp only [List.getElem_toArray, List.getElem_cons_succ, List.getElem_cons_zero, Act.put, List.setIfInBounds_toArray, List.set_cons_zero, List.set_cons_succ])
        refine wpAnyH_take (i := 4) (oi := _) (v := ?_) rfl (by kernel_rfl) (by kernel_rfl) (by kernel_rfl) (fun _ _ _ h => h) (Or.inl ⟨by rfl, ?_⟩) (by assumption) ?_
        rotate_left
        · (intro w' hSw; obtain ⟨z0, z1, z2⟩ := hSw; go_simp; try with_reducible rfl)
        (try simp only [List.getElem_toArray, List.getElem_cons_succ, List.getElem_cons_zero, Act.put, List.setIfInBounds_toArray, List.set_cons_zero, List.set_cons_succ])
        refine wpAnyH_take (i := 5) (oi := _) (v := ?_) rfl (by kernel_rfl) (by kernel_rfl) (by kernel_rfl) (fun _ _ _ h => h) (Or.inl ⟨by rfl, ?_⟩) (by assumption) ?_
        rotate_left
        · (intro w' hSw; obtain ⟨z0, z1, z2⟩ := hSw; go_simp; try with_reducible rfl)
        (try simp only [List.getElem_toArray, List.getElem_cons_succ, List.getElem_cons_zero, Act.put, List.setIfInBounds_toArray, List.set_cons_zero, List.set_cons_succ])
        refine wpAnyH_take (i := 6) (oi := _) (v := ?_) rfl (by kernel_rfl) (by kernel_rfl) (by kernel_rfl) (fun _ _ _ h => h) (Or.inl ⟨by rfl, ?_⟩) (by assumption) ?_
        rotate_left
        · (intro w' hSw; obtain ⟨z0, z1, z2⟩ := hSw; go_simp; try with_reducible rfl)
        (try simp only [List.getElem_toArray, List.getElem_cons_succ, List.getElem_cons_zero, Act.put, List.setIfInBounds_toArray, List.set_cons_zero, List.set_cons_succ])
        refine wpAnyH_take (i := 7) (oi := _) (v := ?_) rfl (by kernel_rfl) (by kernel_rfl) (by kernel_rfl) (fun _ _ _ h => h) (Or.inl ⟨by rfl, ?_⟩) (by assumption) ?_
        rotate_left
        · (intro w' hSw; obtain ⟨z0, z1, z2⟩ := hSw; go_simp; try with_reducible rfl)
        (try simp only [List.getElem_toArray, List.getElem_cons_succ, List.getElem_cons_zero, Act.put, List.setIfInBounds_toArray, List.set_cons_zero, List.set_cons_succ])
        refine wpAnyH_take (i := 8) (oi := _) (v := ?_) rfl (by kernel_rfl) (by kernel_rfl) (by kernel_rfl) (fun _ _ _ h => h) (Or.inl ⟨by rfl, ?_⟩) (by assumption) ?_
        rotate_left
        · (intro w' hSw; obtain ⟨z0, z1, z2⟩ := hSw; go_simp; try with_reducible rfl)
        (try simp only [List.getElem_toArray, List.getElem_cons_succ, List.getElem_cons_zero, Act.put, List.setIfInBounds_toArray, List.set_cons_zero, List.set_cons_succ])
        refine wpAnyH_take (i := 9) (oi := _) (v := ?_) rfl (by kernel_rfl) (by kernel_rfl) (by kernel_rfl) (fun _ _ _ h => h) (Or.inl ⟨by rfl, ?_⟩) (by assumption) ?_
        rotate_left
        · (intro w' hSw; obtain ⟨z0, z1, z2⟩ := hSw; go_simp; try with_reducible rfl)
        (try simp only [List.getElem_toArray, List.getElem_cons_succ, List.getElem_cons_zero, Act.put, List.setIfInBounds_toArray, List.set_cons_zero, List.set_cons_succ])
        refine wpAnyH_take (i := 10) (oi := _) (v := ?_) rfl (by kernel_rfl) (by kernel_rfl) (by kernel_rfl) (fun _ _ _ h => h) (Or.inl ⟨by rfl, ?_⟩) (by assumption) ?_
        rotate_left
        · (intro w' hSw; obtain ⟨z0, z1, z2⟩ := hSw; go_simp; try with_reducible rfl)
        (try simp only [List.getElem_toArray, List.getElem_cons_succ, List.getElem_cons_zero, Act.put, List.setIfInBounds_toArray, List.set_cons_zero, List.set_cons_succ])
        refine wpAnyH_ready (rs := [11]) (by kernel_rfl) (by simp) ?_
        refine AllReadyH.cons (o := _) rfl (fun K hK => ?_) AllReadyH.nil
        go_simp
        refine (lay_any w6.drew B L g vk6 m2.fresh 0 1 ⟨8, 0, m2.next, t.hd.s, t.hd.n, false⟩ (HM6.out.below hbd) (Ins.fit_of (by omega) (by omega) (by omega) ⟨hn1, hn2⟩ hns) (by show m2.code.length ≤ _; omega)).mono ?_
        rintro e w7 ⟨rfl, vk7, hM7, hF7, hN7⟩
        have hF := frK_trans HF6.out HN6.out ((Fr.of hbd).trans hF7)
        have hN := newAtN_trans HN6.out HF6.out.size (newAtN_trans (v1 := vk6) (.inl rfl) hbd.size hN7)
        have HG7 := mkHid (HG.out.mkr (hM7.slack (Nat.le_refl _) (by omega)) hF hN)
        have hq := row_hdN HG7.out.tr
        obtain ⟨b9, off9, e9, _, q1, q2, _⟩ := hq
        cases e9
        have m7 := (veil_cell HG7.out.mc).2
        have s7 := (veil_cell q1).2
        have n7 := (veil_cell q2).2
        clear hM7 hF7 hN7 hF hN q1 q2
        try dsimp only
        refine hK.out _ _ ⟨m7, s7, n7⟩ (fun _ => ?_)
        clear hK K
        (try simp only [List.getElem_toArray, List.getElem_cons_succ, List.getElem_cons_zero, Act.put, List.setIfInBounds_toArray, List.set_cons_zero, List.set_cons_succ])
        refine wpAnyH_done (by kernel_rfl) (NoPanic.normal ?_) _
        clear HM6 HF6 HN6 m6 s6 n6 m7 s7 n7 HG
        have HG8 : Hid (StrN w B L g vc F M (some ⟨b, off, none⟩) c t a3 c3 I rs (setsS (ts.take 0) (rs.take 0) (m2.fresh.lay ⟨8, 0, m2.next, t.hd.s, t.hd.n, false⟩)) vk7 w7) := by
          simp only [List.take_zero, setsS]
          exact HG7.out
        have HCL : Hid ((m2.fresh.lay ⟨8, 0, m2.next, t.hd.s, t.hd.n, false⟩).code.length ≤ 800000) := by rw [Hid, lay_len]; show m2.code.length + 1 ≤ _; omega
        clear HG7
        generalize hm3 : m2.fresh.lay ⟨8, 0, m2.next, t.hd.s, t.hd.n, false⟩ = m3 at *
        generalize hrn : m2.next = rn at *
        go_wp2_with fail
        go_loopw [10, 11, 52] (fun _ _ i wr => ∃ (k : Nat) (vk : Value), i = .int .i64 k ∧ k ≤ ts.length ∧ Hid (StrN w B L g vc F M (some ⟨b, off, none⟩) c t a3 c3 I rs (setsS (ts.take k) (rs.take k) m3) vk wr)) (fun _ _ i wr => ts.length - (intOf i).toNat)
        case atStart => exact ⟨0, vk7, rfl, Nat.zero_le _, HG8⟩
        case round =>
          clear HG8
          obtain ⟨k, vk, rfl, hk, HG⟩ := hrel
          by_cases hlt : k < ts.length
          · have hpsr := HG.out.ps
            rw [HTS.out] at hpsr
            obtain ⟨b4, off4, a5, c5, rfl, p0, hrp⟩ := row_partN hpsr (k := k) (by simpa using hlt)
            simp only [List.getElem_map] at p0 hrp
            obtain ⟨b6, off6, rfl, q0, q1, q2, hfp⟩ := row_hdN hrp
            have hpl5 := hrp.le
            have hpm5 := hrp.max
            have hpp := flat_pos ts[k]
            have p0' := (veil_cell p0).2
            have r0 := (veil_cell q0).2
            have r1 := (veil_cell q1).2
            have r2 := (veil_cell q2).2
            have HFP := mkHid hfp
            have HRP := mkHid hrp
            have hkr : k < rs.length := by have := HLN.out; omega
            have HNX := mkHid (setsS_next hlt hkr m3)
            have hsh := setsS_short (ts.take k) (rs.take k) m3
            rw [List.length_take] at hsh
            have hml : (setsS (ts.take k) (rs.take k) m3).code.length ≤ 800010 := by have := HCL.out; omega
            have hrr := HRG.out _ (List.getElem_mem hkr)
            have i0 := HG.out.inn.read hkr
            have c9 := (veil_cell HG.out.mc).2
            clear p0 q0 q1 q2 hrp hfp hpsr hsh
            generalize setsS (ts.take k) (rs.take k) m3 = m4 at *
            generalize hrk : rs[k] = rk at *
            have HRK := mkHid hrk
            clear hrk
            generalize ts[k] = u at *
            go_wp2_with fail
            have hbd : Below wr.heap.size wr wr.drew := (Below.refl _ _).drew
            refine wp_region_noPanic ?_
            refine wp_region_held_drew (S := fun X => X.cell? ⟨M, 0, none⟩ = some (.pointer (some ⟨L, 0, none⟩)) ∧ X.cell? ⟨b6, off6, none⟩ = some (.int .i64 u.hd.k) ∧ X.cell? ⟨b6, off6 + 1, none⟩ = some (.string u.hd.s) ∧ X.cell? ⟨b6, off6 + 2, none⟩ = some (.int .i64 u.hd.n) ∧ X.cell? ⟨I, k, none⟩ = some (.int .i64 rk)) (by kernel_rfl) ⟨c9, r0, r1, r2, i0⟩ (fun hSd => ?_)
            refine wpAnyH_take (i := 0) (oi := _) (v := ?_) rfl (by kernel_rfl) (by kernel_rfl) (by kernel_rfl) (fun _ _ _ h => h) (Or.inl ⟨by rfl, ?_⟩) (by assumption) ?_
            rotate_left
            · (intro w' hSw; obtain ⟨z0, z1, z2, z3, z4⟩ := hSw; go_simp; try with_reducible rfl)
            (try simp only [List.getElem_toArray, List.getElem_cons_succ, List.getElem_cons_zero, Act.put, List.setIfInBounds_toArray, List.set_cons_zero, List.set_cons_succ])
            refine wpAnyH_take (i := 1) (oi := _) (v := ?_) rfl (by kernel_rfl) (by kernel_rfl) (by kernel_rfl) (fun _ _ _ h => h) (Or.inl ⟨by rfl, ?_⟩) (by assumption) ?_
            rotate_left
            · (intro w' hSw; obtain ⟨z0, z1, z2, z3, z4⟩ := hSw; go_simp; try with_reducible rfl)
            (try simp only [List.getElem_toArray, List.getElem_cons_succ, List.getElem_cons_zero, Act.put, List.setIfInBounds_toArray, List.set_cons_zero, List.set_cons_succ])
            refine wpAnyH_take (i := 2) (oi := _) (v := ?_) rfl (by kernel_rfl) (by kernel_rfl) (by kernel_rfl) (fun _ _ _ h => h) (Or.inl ⟨by rfl, ?_⟩) (by assumption) ?_
            rotate_left
            · (intro w' hSw; obtain ⟨z0, z1, z2, z3, z4⟩ := hSw; go_simp; try with_reducible rfl)
            (try simp only [List.getElem_toArray, List.getElem_cons_succ, List.getElem_cons_zero, Act.put, List.setIfInBounds_toArray, List.set_cons_zero, List.set_cons_succ])
            refine wpAnyH_take (i := 3) (oi := _) (v := ?_) rfl (by kernel_rfl) (by kernel_rfl) (by kernel_rfl) (fun _ _ _ h => h) (Or.inl ⟨by rfl, ?_⟩) (by assumption) ?_
            rotate_left
            · (intro w' hSw; obtain ⟨z0, z1, z2, z3, z4⟩ := hSw; go_simp; try with_reducible rfl)
            (try simp only [List.getElem_toArray, List.getElem_cons_succ, List.getElem_cons_zero, Act.put, List.setIfInBounds_toArray, List.set_cons_zero, List.set_cons_succ])
            refine wpAnyH_take (i := 4) (oi := _) (v := ?_) rfl (by kernel_rfl) (by kernel_rfl) (by kernel_rfl) (fun _ _ _ h => h) (Or.inl ⟨by rfl, ?_⟩) (by assumption) ?_
            rotate_left
            · (intro w' hSw; obtain ⟨z0, z1, z2, z3, z4⟩ := hSw; go_simp; try with_reducible rfl)
            (try simp only [List.getElem_toArray, List.getElem_cons_succ, List.getElem_cons_zero, Act.put, List.setIfInBounds_toArray, List.set_cons_zero, List.set_cons_succ])
            refine wpAnyH_take (i := 5) (oi := _) (v := ?_) rfl (by kernel_rfl) (by kernel_rfl) (by kernel_rfl) (fun _ _ _ h => h) (Or.inl ⟨by rfl, ?_⟩) (by assumption) ?_
            rotate_left
            · (intro w' hSw; obtain ⟨z0, z1, z2, z3, z4⟩ := hSw; go_simp; try with_reducible rfl)
            (try simp only [List.getElem_toArray, List.getElem_cons_succ, List.getElem_cons_zero, Act.put, List.setIfInBounds_toArray, List.set_cons_zero, List.set_cons_succ])
            refine wpAnyH_take (i := 6) (oi := _) (v := ?_) rfl (by kernel_rfl) (by kernel_rfl) (by kernel_rfl) (fun _ _ _ h => h) (Or.inl ⟨by rfl, ?_⟩) (by assumption) ?_
            rotate_left
            · (intro w' hSw; obtain ⟨z0, z1, z2, z3, z4⟩ := hSw; go_simp; try with_reducible rfl)
            (try simp only [List.getElem_toArray, List.getElem_cons_succ, List.getElem_cons_zero, Act.put, List.setIfInBounds_toArray, List.set_cons_zero, List.set_cons_succ])
            refine wpAnyH_take (i := 7) (oi := _) (v := ?_) rfl (by kernel_rfl) (by kernel_rfl) (by kernel_rfl) (fun _ _ _ h => h) (Or.inl ⟨by rfl, ?_⟩) (by assumption) ?_
            rotate_left
            · (intro w' hSw; obtain ⟨z0, z1, z2, z3, z4⟩ := hSw; go_simp; try with_reducible rfl)
            (try simp only [List.getElem_toArray, List.getElem_cons_succ, List.getElem_cons_zero, Act.put, List.setIfInBounds_toArray, List.set_cons_zero, List.set_cons_succ])
            refine wpAnyH_ready (rs := [8]) (by kernel_rfl) (by simp) ?_
            refine AllReadyH.cons (o := _) rfl (fun K hK => ?_) AllReadyH.nil
            go_simp
            refine (set_any wr.drew B L g vk m4 u.hd rk (HG.out.mkm.below hbd) (by omega) HFP.out (by omega)).mono ?_
            rintro e w9 ⟨rfl, vk9, hM9, hF9, hN9⟩
            have hF := (Fr.of (us := kB L g vk) hbd).trans hF9
            have hN : NewAtN wr vk vk9 := newAtN_trans (v1 := vk) (.inl rfl) hbd.size hN9
            have HG9 := mkHid (HG.out.mkr hM9 hF hN)
            have hS9 : (fun X => X.cell? ⟨M, 0, none⟩ = some (.pointer (some ⟨L, 0, none⟩)) ∧ X.cell? ⟨b6, off6, none⟩ = some (.int .i64 u.hd.k) ∧ X.cell? ⟨b6, off6 + 1, none⟩ = some (.string u.hd.s) ∧ X.cell? ⟨b6, off6 + 2, none⟩ = some (.int .i64 u.hd.n) ∧ X.cell? ⟨I, k, none⟩ = some (.int .i64 rk)) w9 := by
              obtain ⟨b9, off9, e9, q0, q1, q2, _⟩ := row_hdN (HRP.out.keeps (veilI_keeps hF hN))
              cases e9
              have i9 := HG9.out.inn.read hkr
              rw [HRK.out] at i9
              exact ⟨(veil_cell HG9.out.mc).2, (veil_cell q0).2, (veil_cell q1).2, (veil_cell q2).2, i9⟩
            clear hM9 hF9 hN9 hF hN p0' r0 r1 r2 i0 c9
            try dsimp only
            refine hK.out _ _ hS9 (fun _ => ?_)
            clear hK K hS9
            (try simp only [List.getElem_toArray, List.getElem_cons_succ, List.getElem_cons_zero, Act.put, List.setIfInBounds_toArray, List.set_cons_zero, List.set_cons_succ])
            refine wpAnyH_done (by kernel_rfl) (NoPanic.normal ?_) _
            go_wp2_with fail
            go_round
            case rel => exact ⟨k + 1, vk9, by go_num, by omega, by rw [HNX.out]; exact HG9⟩
            case measure => simp [intOf]; omega
          · obtain rfl : k = ts.length := by omega
            go_wp2_with fail
            go_ret
            refine ⟨by first | (rw [HST.out]; done) | (rw [HST.out]; rfl), vk, ?_, HG.out.fr, HG.out.new⟩
            rw [HST.out]
            have h := HG.out.mkm
            rw [List.take_length, ← HLN.out, List.take_length] at h
            exact h
end Go.Proofs.Ytkkiemideldioaa
namespace Go.Proofs.Ytkkiemideldioaa
open Go.RowKit

theorem right_ne {xs : List Cel} (h : rightB xs = true) : 0 < xs.length := by
  rcases Nat.lt_or_ge 0 xs.length with h0 | h0
  · exact h0
  · rw [rightB_pos (by omega)] at h; cases h
theorem right_200 {xs : List Cel} (h : rightB xs = true) : xs.length ≤ 200 := by
  simp [rightB] at h; omega
theorem atom_right {xs : List Cel} (h : atomB xs = true) : rightB xs = true := by simp [atomB] at h; exact h.1
theorem atom_200 {xs : List Cel} (h : atomB xs = true) : xs.length ≤ 200 := right_200 (atom_right h)
theorem atom_ne {xs : List Cel} (h : atomB xs = true) : 0 < xs.length := right_ne (atom_right h)
theorem isFun_at {xs : List Cel} (h : 0 < xs.length) : isFun xs = decide (xs[0].k = 3) := by
  cases xs with
  | nil => simp at h
  | cons c l => rfl
theorem predOf_at {xs : List Cel} (h : 0 < xs.length) : predOf xs = ⟨xs[0].s, xs[0].n⟩ := by
  cases xs with
  | nil => simp at h
  | cons c l => rfl
theorem cel_zero {w wr : World} {a : Option Addr} {cap : Nat} {xs : List Cel} (hr : Row w a cap xs) (hb : Below w.heap.size w wr) (h0 : 0 < xs.length) :
    ∃ b off, a = some ⟨b, off, none⟩ ∧ wr.cell? ⟨b, off, none⟩ = some (.int .i64 xs[0].k) ∧ wr.cell? ⟨b, off + 1, none⟩ = some (.string xs[0].s) ∧ wr.cell? ⟨b, off + 2, none⟩ = some (.int .i64 xs[0].n) ∧ xs[0].fit := by
  obtain ⟨b, off, rfl, hlt, hat⟩ := hr.cases.resolve_left (fun e => by simp [e] at h0)
  obtain ⟨c0, c1, c2, hf⟩ := cel_at hat hb h0
  rw [Nat.zero_mul, Nat.add_zero] at c0 c1 c2
  exact ⟨b, off, rfl, c0, c1, c2, hf⟩

set_option maxHeartbeats 400000 in
theorem refatom_any (a : Option Addr) (cap : Nat) (w : World) (xs : List Cel) (hr : Row w a cap xs) :
    Calls Try.prog 67 #[.slice a xs.length cap] w fun e w' => e = .returned (.bool (atomB xs)) ∧ Below w.heap.size w w' := by
  cases hR : rightB xs with
  | false =>
    have HR := mkHid hR
    have HF : Hid (atomB xs = false) := by simp [Hid, atomB, hR]
    clear hR
    go_enter Try.func67, Try.ntmps67
    go_wp2_with (go_at_call 36; refine (refright_any _ _ _ _ hr).mono ?_; rintro e w' ⟨rfl, hb1⟩; rw [HR.out])
    go_ret
    exact ⟨ret_bool HF.out.symm, hb1⟩
  | true =>
    have h0 := right_ne hR
    have HR := mkHid hR
    have HF : Hid (atomB xs = decide (xs[0].k = 3)) := by simp [Hid, atomB, hR, isFun_at h0]
    have hm := hr.le
    obtain ⟨b, off, rfl, c0, c1, c2, hf⟩ := cel_zero hr (Below.refl _ _) h0
    clear hR
    go_enter Try.func67, Try.ntmps67
    go_wp2_with (go_at_call 36; refine (refright_any _ _ _ _ hr).mono ?_; rintro e w' ⟨rfl, hb1⟩; rw [HR.out]; have d0 := keep c0 hb1)
    go_ret
    exact ⟨ret_bool (by rw [HF.out]; rfl), hb1⟩
theorem scan_next {α : Type} {xs : List α} {p : α → Bool} {k : Nat} (h : (xs.take k).all p = true) (hk : k < xs.length) (hp : p xs[k] = true) : (xs.take (k + 1)).all p = true := by
  rw [List.take_succ_eq_append_getElem hk, List.all_append, h]; simp [hp]
theorem scan_bad {α : Type} {xs : List α} {p : α → Bool} {k : Nat} (hk : k < xs.length) (hp : p xs[k] = false) : xs.all p = false := by
  rw [List.all_eq_false]; exact ⟨xs[k], List.getElem_mem hk, by simp [hp]⟩
theorem scan_end {α : Type} {xs : List α} {p : α → Bool} {k : Nat} (h : (xs.take k).all p = true) (hk : xs.length ≤ k) : xs.all p = true := by
  rwa [List.take_of_length_le hk] at h

set_option maxHeartbeats 800000 in
theorem refmay_any (a : Option Addr) (cap : Nat) (a' : Option Addr) (cap' : Nat) (w : World) (hs : List Cel) (bs : List Lt) (hr : Row w a cap hs) (hr' : Row w a' cap' bs) :
    Calls Try.prog 25 #[.agg #[.slice a hs.length cap, .slice a' bs.length cap']] w fun e w' => e = .returned (.bool (mayB ⟨hs, bs⟩)) ∧ Below w.heap.size w w' := by
  have hm := hr'.max
  have hm2 := hr'.le
  have hb0 := (Below.refl w.heap.size w).new (.cells #[.slice a hs.length cap, .slice a' bs.length cap'] 25)
  go_enter Try.func25, Try.ntmps25
  go_wp2
  go_loopw [3] (fun i wr => ∃ k : Nat, k ≤ bs.length ∧ i = .int .i64 k ∧ Below w.heap.size w wr ∧ w.heap.size < wr.heap.size ∧ wr.cell? ⟨w.heap.size, 0, none⟩ = some (.slice a hs.length cap) ∧ wr.cell? ⟨w.heap.size, 1, none⟩ = some (.slice a' bs.length cap') ∧ Hid ((bs.take k).all (fun x => atomB x.t) = true)) (fun i wr => bs.length - (intOf i).toNat)
  case atStart => exact ⟨0, Nat.zero_le _, rfl, hb0, by simp, by go_simp, by go_simp, rfl⟩
  case round =>
    obtain ⟨k, hk, rfl, hbl, hsz, q0, q1, HS⟩ := hrel
    by_cases hlt : k < bs.length
    · obtain ⟨b, off, rfl, hb, hat⟩ := hr'.cases.resolve_left (fun e => by simp [e] at hlt)
      obtain ⟨a1, cap1, c0, c1, hr1⟩ := lt_at hat hbl hlt
      cases hA : atomB bs[k].t with
      | true =>
        have HA := mkHid hA
        have HT := mkHid (scan_next (p := fun x => atomB x.t) HS.out hlt hA)
        clear hA HS
        go_wp2_with (go_at_call 67; refine (refatom_any _ _ _ _ hr1).mono ?_; rintro e w' ⟨rfl, hb1⟩; rw [HA.out])
        go_round
        case rel => exact ⟨k + 1, by omega, by go_num, hbl.then hb1, Nat.lt_of_lt_of_le hsz hb1.size, keep q0 hb1, keep q1 hb1, HT⟩
        case measure => simp [intOf]; omega
      | false =>
        have HA := mkHid hA
        have HF : Hid (mayB ⟨hs, bs⟩ = false) := by simp only [Hid, mayB]; rw [scan_bad (p := fun x => atomB x.t) hlt hA]; simp
        clear hA HS
        go_wp2_with (go_at_call 67; refine (refatom_any _ _ _ _ hr1).mono ?_; rintro e w' ⟨rfl, hb1⟩; rw [HA.out])
        go_ret
        exact ⟨ret_bool HF.out.symm, hbl.then hb1⟩
    · have HT := mkHid (scan_end HS.out (by omega))
      have hrh := hr.below hbl
      clear HS
      cases hA : atomB hs with
      | true =>
        have HA := mkHid hA
        have HF : Hid (mayB ⟨hs, bs⟩ = decide ((bs.length : Int) ≤ 8)) := by simp only [Hid, mayB]; rw [HT.out, hA]; simp; omega
        clear hA
        go_wp2_with (go_at_call 67; refine (refatom_any _ _ _ _ hrh).mono ?_; rintro e w' ⟨rfl, hb1⟩; rw [HA.out]; have d1 := keep q1 hb1)
        go_ret
        exact ⟨ret_bool HF.out.symm, hbl.then hb1⟩
      | false =>
        have HA := mkHid hA
        have HF : Hid (mayB ⟨hs, bs⟩ = false) := by simp only [Hid, mayB]; rw [hA]; simp
        clear hA
        go_wp2_with (go_at_call 67; refine (refatom_any _ _ _ _ hrh).mono ?_; rintro e w' ⟨rfl, hb1⟩; rw [HA.out]; have d1 := keep q1 hb1)
        go_ret
        exact ⟨ret_bool HF.out.symm, hbl.then hb1⟩

end Go.Proofs.Ytkkiemideldioaa
