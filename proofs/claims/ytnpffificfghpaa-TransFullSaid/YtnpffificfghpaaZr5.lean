import Derived.Test.YtnpffificfghpaaZr4
namespace Go.Proofs.Ytnpffificfghpaa
open Go.RowKit

/-! ### the document's Drop, Find, Diff -/
set_option maxHeartbeats 3200000 in
set_option maxRecDepth 100000 in
theorem refdropF_any (a : Option Addr) (cap : Nat) (l : List (List Cel)) (a' : Option Addr) (cap' : Nat) (t : List Cel) (w : World) (hr : Row w a cap l) (ht : Row w a' cap' t) (hl : l.length ≤ 512) :
    Calls Try.prog 152 #[.slice a l.length cap, .slice a' t.length cap'] w fun e w' => ∃ a2 c2, e = .returned (.tuple #[.slice a2 (dropF l t).length c2, .int .i64 (dropE l t)]) ∧ Row w' a2 c2 (dropF l t) ∧ Below w.heap.size w w' := by
  have hm := hr.max
  have hm2 := hr.le
  have hm3 := ht.max
  have hm4 := ht.le
  obtain ⟨q, hq⟩ : ∃ q, factB t = q := ⟨_, rfl⟩
  have HQ := mkHid hq
  obtain ⟨g, hg⟩ : ∃ g, decide (t ∈ l) = g := ⟨_, rfl⟩
  have HG := mkHid hg
  clear hq hg
  go_enter Try.func152, Try.ntmps152
  go_wp2_with fail
  refine (reffact_is ht HQ).mono ?_; rintro e w1 ⟨rfl, hb1⟩
  cases q with
  | false =>
    have HE : Hid (dropE l t = 120) := by unfold Hid dropE; rw [HQ.out]; rfl
    have HL : Hid (dropF l t = []) := by unfold Hid dropF; rw [HQ.out]; rfl
    go_wp2_with fail
    go_ret2
    rw [HE.out, HL.out]
    exact ⟨none, 0, rfl, nilRow _, hb1⟩
  | true =>
  go_wp2_with fail
  refine (refhasK (hr.below hb1) (ht.below hb1) HG).mono ?_; rintro e w2 ⟨rfl, hb2⟩
  have hbB := hb1.then hb2
  cases g with
  | false =>
    have HE : Hid (dropE l t = 3) := by unfold Hid dropE; rw [if_pos HQ.out, if_neg (of_decide_eq_false HG.out)]
    have HL : Hid (dropF l t = []) := by unfold Hid dropF; rw [if_pos HQ.out, if_neg (of_decide_eq_false HG.out)]
    go_wp2_with fail
    go_ret2
    rw [HE.out, HL.out]
    exact ⟨none, 0, rfl, nilRow _, hbB⟩
  | true =>
  have HE : Hid (dropE l t = 0) := by unfold Hid dropE; rw [if_pos HQ.out, if_pos (of_decide_eq_true HG.out)]
  have HL : Hid (dropF l t = l.filter (fun x => !decide (x = t))) := by unfold Hid dropF; rw [if_pos HQ.out, if_pos (of_decide_eq_true HG.out)]
  have hrB := hr.below hbB
  have htB := ht.below hbB
  have hm0 := AccInv.made (α := List Cel) (B := w2.heap.size) (e := 30) (T := 30) w2 (Nat.le_refl _) rfl
  have hb0 := (Below.refl w2.heap.size w2).new (.cells #[] 30)
  go_wp2_with fail
  go_loopw [6, 7] (fun v i wr => ∃ (k : Nat) (A : List (List Cel)), k ≤ l.length ∧ A.length ≤ k ∧ i = .int .i64 k ∧ AccInv w2.heap.size 30 A v wr ∧ Below w2.heap.size w2 wr ∧ Hid ((l.take k).filter (fun x => !decide (x = t)) = A)) (fun v i wr => l.length - (intOf i).toNat)
  case atStart => exact ⟨0, [], Nat.zero_le _, Nat.le_refl _, rfl, hm0, hb0, rfl⟩
  case round =>
    clear hm0 hb0
    obtain ⟨k, A, hk, hA, rfl, hacc, hbl, HS⟩ := hrel
    by_cases hlt : k < l.length
    · obtain ⟨b, off, rfl, hb, hat⟩ := hrB.cases.resolve_left (fun e => by simp [e] at hlt)
      obtain ⟨a1, cap1, d0, rx⟩ := list_at hat (Below.refl _ _) hlt
      have c0 := keep d0 hbl
      have r1 := rx.below hbl
      have t1 := htB.below hbl
      obtain ⟨q, hq⟩ : ∃ q, (fun x => !decide (x = t)) l[k] = q := ⟨_, rfl⟩
      have HQ := mkHid hq
      have HD : Hid (decide (l[k] = t) = !q) := by rw [Hid, ← hq]; simp
      clear hq
      cases q with
      | false =>
        have HT : Hid ((l.take (k + 1)).filter (fun x => !decide (x = t)) = A) := by rw [Hid, filt_no hlt HQ.out, HS.out]
        clear HS
        go_wp2_with fail
        refine (refsameF_is (d := true) r1 t1 HD).mono ?_; rintro e w4 ⟨rfl, hb1⟩
        have hacc1 := hacc.below hb1
        have hbl1 := hbl.then hb1
        go_wp2_with fail
        go_round
        case rel => exact ⟨k + 1, A, by omega, by omega, by go_num, hacc1, hbl1, HT⟩
        case measure => simp [intOf]; omega
      | true =>
        have HT : Hid ((l.take (k + 1)).filter (fun x => !decide (x = t)) = A ++ [l[k]]) := by rw [Hid, filt_yes hlt HQ.out, HS.out]
        clear HS
        go_wp2_with fail
        refine (refsameF_is (d := false) r1 t1 HD).mono ?_; rintro e w4 ⟨rfl, hb1⟩
        have hacc1 := hacc.below hb1
        have hbl1 := hbl.then hb1
        have hsz1 := hbl1.size
        have c1 := keep c0 hb1
        have hrh := rx.keeps (hacc1.fresh hbl1)
        go_wp2_with (at_builtin; refine wpList_acc (α := List Cel) rfl _ _ 22 rfl w2.heap.size 30 24 _ Try.underlying22 Try.infoSl rfl (by decide) _ A hacc1 (by rfl) _ #[.slice a1 l[k].length cap1] l[k] ⟨a1, cap1, rfl, hrh⟩ (by rfl) (by omega) hsz1 ?_; intro v9 w9 hacc9 hb9)
        go_round
        case rel => exact ⟨k + 1, A ++ [l[k]], by omega, by simp; omega, by go_num, hacc9, hbl1.trans hb9, HT⟩
        case measure => simp [intOf]; omega
    · have HT : Hid (l.filter (fun x => !decide (x = t)) = A) := by rw [Hid, ← HS.out, List.take_of_length_le (by omega)]
      obtain ⟨a9, c9, rfl, r9⟩ := hacc.row
      clear HS
      go_wp2_with fail
      go_ret2
      rw [HE.out, HL.out, HT.out]
      exact ⟨a9, c9, rfl, r9, hbB.then hbl⟩

set_option maxHeartbeats 3200000 in
set_option maxRecDepth 100000 in
theorem reflessF_any (a : Option Addr) (cap : Nat) (l : List (List Cel)) (a' : Option Addr) (cap' : Nat) (m : List (List Cel)) (w : World) (hrB : Row w a cap l) (htB : Row w a' cap' m) (hl : l.length ≤ 512) :
    Calls Try.prog 153 #[.slice a l.length cap, .slice a' m.length cap'] w fun e w' => ∃ a2 c2, e = .returned (.slice a2 (lessF l m).length c2) ∧ Row w' a2 c2 (lessF l m) ∧ Below w.heap.size w w' := by
  have hm := hrB.max
  have hm2 := hrB.le
  have HL : Hid (lessF l m = l.filter (fun x => !decide (x ∈ m))) := rfl
  go_enter Try.func153, Try.ntmps153
  have hm0 := AccInv.made (α := List Cel) (B := w.heap.size) (e := 30) (T := 30) w (Nat.le_refl _) rfl
  have hb0 := (Below.refl w.heap.size w).new (.cells #[] 30)
  go_wp2_with fail
  go_loopw [5, 6] (fun v i wr => ∃ (k : Nat) (A : List (List Cel)), k ≤ l.length ∧ A.length ≤ k ∧ i = .int .i64 k ∧ AccInv w.heap.size 30 A v wr ∧ Below w.heap.size w wr ∧ Hid ((l.take k).filter (fun x => !decide (x ∈ m)) = A)) (fun v i wr => l.length - (intOf i).toNat)
  case atStart => exact ⟨0, [], Nat.zero_le _, Nat.le_refl _, rfl, hm0, hb0, rfl⟩
  case round =>
    clear hm0 hb0
    obtain ⟨k, A, hk, hA, rfl, hacc, hbl, HS⟩ := hrel
    by_cases hlt : k < l.length
    · obtain ⟨b, off, rfl, hb, hat⟩ := hrB.cases.resolve_left (fun e => by simp [e] at hlt)
      obtain ⟨a1, cap1, d0, rx⟩ := list_at hat (Below.refl _ _) hlt
      have c0 := keep d0 hbl
      have r1 := rx.below hbl
      have t1 := htB.below hbl
      obtain ⟨q, hq⟩ : ∃ q, (fun x => !decide (x ∈ m)) l[k] = q := ⟨_, rfl⟩
      have HQ := mkHid hq
      have HD : Hid (decide (l[k] ∈ m) = !q) := by rw [Hid, ← hq]; simp
      clear hq
      cases q with
      | false =>
        have HT : Hid ((l.take (k + 1)).filter (fun x => !decide (x ∈ m)) = A) := by rw [Hid, filt_no hlt HQ.out, HS.out]
        clear HS
        go_wp2_with fail
        refine (refhasK (b := true) t1 r1 HD).mono ?_; rintro e w4 ⟨rfl, hb1⟩
        have hacc1 := hacc.below hb1
        have hbl1 := hbl.then hb1
        go_wp2_with fail
        go_round
        case rel => exact ⟨k + 1, A, by omega, by omega, by go_num, hacc1, hbl1, HT⟩
        case measure => simp [intOf]; omega
      | true =>
        have HT : Hid ((l.take (k + 1)).filter (fun x => !decide (x ∈ m)) = A ++ [l[k]]) := by rw [Hid, filt_yes hlt HQ.out, HS.out]
        clear HS
        go_wp2_with fail
        refine (refhasK (b := false) t1 r1 HD).mono ?_; rintro e w4 ⟨rfl, hb1⟩
        have hacc1 := hacc.below hb1
        have hbl1 := hbl.then hb1
        have hsz1 := hbl1.size
        have c1 := keep c0 hb1
        have hrh := rx.keeps (hacc1.fresh hbl1)
        go_wp2_with (at_builtin; refine wpList_acc (α := List Cel) rfl _ _ 22 rfl w.heap.size 30 24 _ Try.underlying22 Try.infoSl rfl (by decide) _ A hacc1 (by rfl) _ #[.slice a1 l[k].length cap1] l[k] ⟨a1, cap1, rfl, hrh⟩ (by rfl) (by omega) hsz1 ?_; intro v9 w9 hacc9 hb9)
        go_round
        case rel => exact ⟨k + 1, A ++ [l[k]], by omega, by simp; omega, by go_num, hacc9, hbl1.trans hb9, HT⟩
        case measure => simp [intOf]; omega
    · have HT : Hid (l.filter (fun x => !decide (x ∈ m)) = A) := by rw [Hid, ← HS.out, List.take_of_length_le (by omega)]
      obtain ⟨a9, c9, rfl, r9⟩ := hacc.row
      clear HS
      go_wp2_with fail
      go_ret
      rw [HL.out, HT.out]
      exact ⟨a9, c9, rfl, r9, hbl⟩

set_option maxHeartbeats 1600000 in
set_option maxRecDepth 100000 in
theorem refdiffF_any (a : Option Addr) (cap : Nat) (l : List (List Cel)) (a' : Option Addr) (cap' : Nat) (m : List (List Cel)) (w : World) (hr : Row w a cap l) (ht : Row w a' cap' m) (hl : l.length ≤ 512) (hl2 : m.length ≤ 512) :
    Calls Try.prog 79 #[.slice a l.length cap, .slice a' m.length cap'] w fun e w' => ∃ a2 c2 a3 c3, e = .returned (.tuple #[.slice a2 (lessF m l).length c2, .slice a3 (lessF l m).length c3]) ∧ Row w' a2 c2 (lessF m l) ∧ Row w' a3 c3 (lessF l m) ∧ Below w.heap.size w w' := by
  go_enter Try.func79, Try.ntmps79
  go_wp2_with fail
  refine (reflessF_any a' cap' m a cap l w ht hr hl2).mono ?_; rintro e w1 ⟨a1, c1, rfl, hr1, hb1⟩
  go_wp2_with fail
  with_reducible refine (reflessF_any a cap l a' cap' m w1 (hr.below hb1) (ht.below hb1) hl).mono ?_
  rintro e w2 ⟨a2, c2, rfl, hr2, hb2⟩
  go_wp2_with fail
  go_ret2
  exact ⟨a1, c1, a2, c2, rfl, hr1.below hb2, hr2, hb1.then hb2⟩
end Go.Proofs.Ytnpffificfghpaa
set_option linter.unusedVariables false
namespace Go.Proofs.Ytnpffificfghpaa
open Go.RowKit

/-! ### the document's: Right, Begin, Back, do, Now, Commit -/
set_option maxHeartbeats 1600000 in
set_option maxRecDepth 100000 in
theorem refright13_t (w : World) (a : Option Addr) (c : Nat) (f : List (List Cel)) (v : Int) (a' : Option Addr) (c' : Nat) (td : List Lt) (h : BR w a c f a' c' td) (r : Bool) (hr : Hid ((⟨f, v, true, td⟩ : Bs).right = r)) :
    Calls Try.prog 16 #[.agg #[.slice a f.length c, .int .i64 v, .bool true, .slice a' td.length c']] w fun e w' => e = .returned (.bool r) ∧ Below w.heap.size w w' := by
  obtain ⟨W, hW⟩ : ∃ W, w.alloc (.cells #[.slice a f.length c, .int .i64 v, .bool true, .slice a' td.length c'] 25) = W := ⟨_, rfl⟩
  have hb0 : Below w.heap.size w W := by rw [← hW]; exact (Below.refl _ _).new _
  have HX : Hid (BX W w.heap.size a c f v true a' c' td) := by rw [Hid, ← hW]; exact BX.made h
  have htm := h.t.max
  have htl := h.t.le
  have HT := mkHid (h.t.below hb0)
  clear h
  go_enter Try.func16, Try.ntmps16
  go_wp2_with fail
  first | rw [hW] | skip
  clear hW
  go_loopw [3] (fun i wr => ∃ k : Nat, k ≤ td.length ∧ i = .int .i64 k ∧ Hid (Below W.heap.size W wr) ∧ Hid (∀ j (hj : j < td.length), j < k → factB td[j].t = true)) (fun i wr => td.length - (intOf i).toNat)
  case atStart => exact ⟨0, Nat.zero_le _, rfl, Below.refl _ _, fun j _ hj => absurd hj (Nat.not_lt_zero _)⟩
  case round =>
    obtain ⟨k, hk, rfl, HBL, HS⟩ := hrel
    obtain ⟨e0, e1, e2, e3⟩ := (HX.out.below HBL.out).cells
    by_cases hlt : k < td.length
    · obtain ⟨tb, to, rfl, htb, hat⟩ := HT.out.cases.resolve_left (fun e => by simp [e] at hlt)
      obtain ⟨ya, yc, d0, d1, hry⟩ := lt_at hat HBL.out hlt
      clear hat
      cases hf : factB td[k].t with
      | true =>
        have HF := mkHid hf
        have HT2 : Hid (∀ j (hj : j < td.length), j < k + 1 → factB td[j].t = true) := fun j hj h => by
          by_cases e : j < k
          · exact HS.out j hj e
          · obtain rfl : j = k := by omega
            exact HF.out
        clear HS hf
        go_wp2_with fail
        refine (reffact_is hry HF).mono ?_; rintro e w2 ⟨rfl, hb2⟩
        have HB2 := mkHid (HBL.out.then hb2)
        clear hb2 hry
        go_wp2_with fail
        go_round
        case rel => exact ⟨k + 1, by omega, by go_num, HB2, HT2⟩
        case measure => simp [intOf]; omega
      | false =>
        have HF := mkHid hf
        have HA : Hid (r = false) := by rw [Hid, ← hr.out, rightOf, tdB_bad hlt hf, Bool.and_false, Bool.and_false]
        clear HS hf
        go_wp2_with fail
        refine (reffact_is hry HF).mono ?_; rintro e w2 ⟨rfl, hb2⟩
        go_wp2_with fail
        go_ret
        exact ⟨ret_bool HA.out.symm, hb0.then (HBL.out.then hb2)⟩
    · have HA : Hid (r = (frightB f && (decide (0 ≤ v) && decide (v ≤ 1099511627776) && (true || decide (td.length = 0))))) := by
        rw [Hid, ← hr.out, rightOf, tdB_end hlt HS.out, Bool.and_true]
      have HXr := mkHid (HX.out.below HBL.out)
      have hf0 := HXr.out.2.f
      clear HS hr HT
      cases hq : frightB f with
      | false =>
        have HQ := mkHid hq
        have HZ : Hid (r = false) := by rw [Hid, HA.out, hq, Bool.false_and]
        clear hq HA
        go_wp2_with fail
        refine (refrightK hf0 HQ).mono ?_; rintro e w2 ⟨rfl, hb2⟩
        go_wp2_with fail
        go_ret
        exact ⟨ret_bool HZ.out.symm, hb0.then (HBL.out.then hb2)⟩
      | true =>
        have HQ := mkHid hq
        rw [hq, Bool.true_and] at HA
        clear hq
        have HXX := mkHid HXr.out
        by_cases h0 : 0 ≤ v
        · by_cases h1 : v ≤ 1099511627776
          · rw [decide_eq_true h0, decide_eq_true h1, Bool.true_and, Bool.true_and] at HA
            have HZ : Hid (r = true) := by rw [Hid, HA.out, Bool.true_or]
            clear HA
            go_wp2_with fail
            refine (refrightK hf0 HQ).mono ?_; rintro e w2 ⟨rfl, hb2⟩
            obtain ⟨g0, g1, g2, g3⟩ := (HXr.out.below hb2).cells
            clear e0 e1 e2 e3 hf0
            go_wp2_with fail
            go_ret
            exact ⟨ret_bool HZ.out.symm, hb0.then (HBL.out.then hb2)⟩
          · have HZ : Hid (r = false) := by rw [Hid, HA.out, decide_eq_false h1, Bool.and_false, Bool.false_and]
            clear HA
            go_wp2_with fail
            refine (refrightK hf0 HQ).mono ?_; rintro e w2 ⟨rfl, hb2⟩
            obtain ⟨g0, g1, g2, g3⟩ := (HXr.out.below hb2).cells
            clear e0 e1 e2 e3 hf0
            go_wp2_with fail
            go_ret
            exact ⟨ret_bool HZ.out.symm, hb0.then (HBL.out.then hb2)⟩
        · have HZ : Hid (r = false) := by rw [Hid, HA.out, decide_eq_false h0, Bool.false_and, Bool.false_and]
          clear HA
          go_wp2_with fail
          refine (refrightK hf0 HQ).mono ?_; rintro e w2 ⟨rfl, hb2⟩
          obtain ⟨g0, g1, g2, g3⟩ := (HXr.out.below hb2).cells
          clear e0 e1 e2 e3 hf0
          go_wp2_with fail
          go_ret
          exact ⟨ret_bool HZ.out.symm, hb0.then (HBL.out.then hb2)⟩
set_option maxHeartbeats 1600000 in
set_option maxRecDepth 100000 in
theorem refright13_f (w : World) (a : Option Addr) (c : Nat) (f : List (List Cel)) (v : Int) (a' : Option Addr) (c' : Nat) (td : List Lt) (h : BR w a c f a' c' td) (r : Bool) (hr : Hid ((⟨f, v, false, td⟩ : Bs).right = r)) :
    Calls Try.prog 16 #[.agg #[.slice a f.length c, .int .i64 v, .bool false, .slice a' td.length c']] w fun e w' => e = .returned (.bool r) ∧ Below w.heap.size w w' := by
  obtain ⟨W, hW⟩ : ∃ W, w.alloc (.cells #[.slice a f.length c, .int .i64 v, .bool false, .slice a' td.length c'] 25) = W := ⟨_, rfl⟩
  have hb0 : Below w.heap.size w W := by rw [← hW]; exact (Below.refl _ _).new _
  have HX : Hid (BX W w.heap.size a c f v false a' c' td) := by rw [Hid, ← hW]; exact BX.made h
  have htm := h.t.max
  have htl := h.t.le
  have HT := mkHid (h.t.below hb0)
  clear h
  go_enter Try.func16, Try.ntmps16
  go_wp2_with fail
  first | rw [hW] | skip
  clear hW
  go_loopw [3] (fun i wr => ∃ k : Nat, k ≤ td.length ∧ i = .int .i64 k ∧ Hid (Below W.heap.size W wr) ∧ Hid (∀ j (hj : j < td.length), j < k → factB td[j].t = true)) (fun i wr => td.length - (intOf i).toNat)
  case atStart => exact ⟨0, Nat.zero_le _, rfl, Below.refl _ _, fun j _ hj => absurd hj (Nat.not_lt_zero _)⟩
  case round =>
    obtain ⟨k, hk, rfl, HBL, HS⟩ := hrel
    obtain ⟨e0, e1, e2, e3⟩ := (HX.out.below HBL.out).cells
    by_cases hlt : k < td.length
    · obtain ⟨tb, to, rfl, htb, hat⟩ := HT.out.cases.resolve_left (fun e => by simp [e] at hlt)
      obtain ⟨ya, yc, d0, d1, hry⟩ := lt_at hat HBL.out hlt
      clear hat
      cases hf : factB td[k].t with
      | true =>
        have HF := mkHid hf
        have HT2 : Hid (∀ j (hj : j < td.length), j < k + 1 → factB td[j].t = true) := fun j hj h => by
          by_cases e : j < k
          · exact HS.out j hj e
          · obtain rfl : j = k := by omega
            exact HF.out
        clear HS hf
        go_wp2_with fail
        refine (reffact_is hry HF).mono ?_; rintro e w2 ⟨rfl, hb2⟩
        have HB2 := mkHid (HBL.out.then hb2)
        clear hb2 hry
        go_wp2_with fail
        go_round
        case rel => exact ⟨k + 1, by omega, by go_num, HB2, HT2⟩
        case measure => simp [intOf]; omega
      | false =>
        have HF := mkHid hf
        have HA : Hid (r = false) := by rw [Hid, ← hr.out, rightOf, tdB_bad hlt hf, Bool.and_false, Bool.and_false]
        clear HS hf
        go_wp2_with fail
        refine (reffact_is hry HF).mono ?_; rintro e w2 ⟨rfl, hb2⟩
        go_wp2_with fail
        go_ret
        exact ⟨ret_bool HA.out.symm, hb0.then (HBL.out.then hb2)⟩
    · have HA : Hid (r = (frightB f && (decide (0 ≤ v) && decide (v ≤ 1099511627776) && (false || decide (td.length = 0))))) := by
        rw [Hid, ← hr.out, rightOf, tdB_end hlt HS.out, Bool.and_true]
      have HXr := mkHid (HX.out.below HBL.out)
      have hf0 := HXr.out.2.f
      clear HS hr HT
      cases hq : frightB f with
      | false =>
        have HQ := mkHid hq
        have HZ : Hid (r = false) := by rw [Hid, HA.out, hq, Bool.false_and]
        clear hq HA
        go_wp2_with fail
        refine (refrightK hf0 HQ).mono ?_; rintro e w2 ⟨rfl, hb2⟩
        go_wp2_with fail
        go_ret
        exact ⟨ret_bool HZ.out.symm, hb0.then (HBL.out.then hb2)⟩
      | true =>
        have HQ := mkHid hq
        rw [hq, Bool.true_and] at HA
        clear hq
        have HXX := mkHid HXr.out
        by_cases h0 : 0 ≤ v
        · by_cases h1 : v ≤ 1099511627776
          · rw [decide_eq_true h0, decide_eq_true h1, Bool.true_and, Bool.true_and] at HA
            by_cases h2 : td.length = 0
            · have HZ : Hid (r = true) := by rw [Hid, HA.out, decide_eq_true h2, Bool.or_true]
              have t2 : ((td.length : Int) == 0) = true := by simp [h2]
              clear HA h2
              go_wp2_with fail
              refine (refrightK hf0 HQ).mono ?_; rintro e w2 ⟨rfl, hb2⟩
              obtain ⟨g0, g1, g2, g3⟩ := (HXr.out.below hb2).cells
              clear e0 e1 e2 e3 hf0
              go_wp2_with fail
              go_ret
              exact ⟨ret_bool HZ.out.symm, hb0.then (HBL.out.then hb2)⟩
            · have HZ : Hid (r = false) := by rw [Hid, HA.out, decide_eq_false h2, Bool.or_false]
              have t2 : ((td.length : Int) == 0) = false := beq_eq_false_iff_ne.2 (by omega)
              clear HA h2
              go_wp2_with fail
              refine (refrightK hf0 HQ).mono ?_; rintro e w2 ⟨rfl, hb2⟩
              obtain ⟨g0, g1, g2, g3⟩ := (HXr.out.below hb2).cells
              clear e0 e1 e2 e3 hf0
              go_wp2_with fail
              go_ret
              exact ⟨ret_bool HZ.out.symm, hb0.then (HBL.out.then hb2)⟩
          · have HZ : Hid (r = false) := by rw [Hid, HA.out, decide_eq_false h1, Bool.and_false, Bool.false_and]
            clear HA
            go_wp2_with fail
            refine (refrightK hf0 HQ).mono ?_; rintro e w2 ⟨rfl, hb2⟩
            obtain ⟨g0, g1, g2, g3⟩ := (HXr.out.below hb2).cells
            clear e0 e1 e2 e3 hf0
            go_wp2_with fail
            go_ret
            exact ⟨ret_bool HZ.out.symm, hb0.then (HBL.out.then hb2)⟩
        · have HZ : Hid (r = false) := by rw [Hid, HA.out, decide_eq_false h0, Bool.false_and, Bool.false_and]
          clear HA
          go_wp2_with fail
          refine (refrightK hf0 HQ).mono ?_; rintro e w2 ⟨rfl, hb2⟩
          obtain ⟨g0, g1, g2, g3⟩ := (HXr.out.below hb2).cells
          clear e0 e1 e2 e3 hf0
          go_wp2_with fail
          go_ret
          exact ⟨ret_bool HZ.out.symm, hb0.then (HBL.out.then hb2)⟩
theorem refright13_any (w : World) (a : Option Addr) (c : Nat) (f : List (List Cel)) (v : Int) (on : Bool) (a' : Option Addr) (c' : Nat) (td : List Lt) (h : BR w a c f a' c' td) :
    Calls Try.prog 16 #[.agg #[.slice a f.length c, .int .i64 v, .bool on, .slice a' td.length c']] w fun e w' => e = .returned (.bool (⟨f, v, on, td⟩ : Bs).right) ∧ Below w.heap.size w w' := by
  cases on with
  | true => exact refright13_t w a c f v a' c' td h _ rfl
  | false => exact refright13_f w a c f v a' c' td h _ rfl
end Go.Proofs.Ytnpffificfghpaa
set_option linter.unusedVariables false
namespace Go.Proofs.Ytnpffificfghpaa
open Go.RowKit

/-! ### the document's: Begin, Back, do -/

set_option maxHeartbeats 1600000 in
set_option maxRecDepth 100000 in
theorem refbegin_on (w : World) (a : Option Addr) (c : Nat) (f : List (List Cel)) (v : Int) (a' : Option Addr) (c' : Nat) (td : List Lt) (h : BR w a c f a' c' td) :
    Calls Try.prog 19 #[.agg #[.slice a f.length c, .int .i64 v, .bool true, .slice a' td.length c']] w fun e w' =>
      e = .returned (.tuple #[.agg #[.slice a f.length c, .int .i64 v, .bool true, .slice a' td.length c'], .int .i64 130]) ∧ BR w' a c f a' c' td ∧ Below w.heap.size w w' := by
  obtain ⟨W, hW⟩ : ∃ W, (w.alloc (.cells #[.slice a f.length c, .int .i64 v, .bool true, .slice a' td.length c'] 25)).alloc (.cells #[.slice none 0 0, .int .i64 0, .bool false, .slice none 0 0] 25) = W := ⟨_, rfl⟩
  have HE : Hid (Ent w W a c f v true a' c' td) := by rw [Hid, ← hW]; exact ent_made h
  obtain ⟨e0, e1, e2, e3⟩ := HE.out.arg.cells
  obtain ⟨f0, f1, f2, f3⟩ := HE.out.arg.free
  obtain ⟨l0, l1, l2, l3⟩ := HE.out.res.cells
  obtain ⟨k0, k1, k2, k3⟩ := HE.out.res.free
  have HB := mkHid HE.out.bel
  have H := mkHid h
  have HSZ := mkHid HE.out.size
  clear h
  go_enter Try.func19, Try.ntmps19
  go_wp2_with fail
  first | rw [hW] | skip
  have HF := mkHid (below_four (g := w.heap.size + 1) HB.out (Nat.le_succ _) (.slice a f.length c) (.int .i64 v) (.bool true) (.slice a' td.length c'))
  refine bodyPost_ret (v := .tuple #[.agg #[.slice a f.length c, .int .i64 v, .bool true, .slice a' td.length c'], .int .i64 130]) (by simp [results, Try.results19, go_sem, *]) rfl ⟨rfl, H.out.below HF.out, HF.out⟩

set_option maxHeartbeats 1600000 in
set_option maxRecDepth 100000 in
theorem refbegin_off (w : World) (a : Option Addr) (c : Nat) (f : List (List Cel)) (v : Int) (a' : Option Addr) (c' : Nat) (td : List Lt) (h : BR w a c f a' c' td) :
    Calls Try.prog 19 #[.agg #[.slice a f.length c, .int .i64 v, .bool false, .slice a' td.length c']] w fun e w' =>
      e = .returned (.tuple #[.agg #[.slice a f.length c, .int .i64 v, .bool true, .slice a' td.length c'], .int .i64 0]) ∧ BR w' a c f a' c' td ∧ Below w.heap.size w w' := by
  obtain ⟨W, hW⟩ : ∃ W, (w.alloc (.cells #[.slice a f.length c, .int .i64 v, .bool false, .slice a' td.length c'] 25)).alloc (.cells #[.slice none 0 0, .int .i64 0, .bool false, .slice none 0 0] 25) = W := ⟨_, rfl⟩
  have HE : Hid (Ent w W a c f v false a' c' td) := by rw [Hid, ← hW]; exact ent_made h
  obtain ⟨w3, hw3⟩ : ∃ w3, W.setCell ⟨w.heap.size, 2, none⟩ (.bool true) = w3 := ⟨_, rfl⟩
  have q0 : w3.heap[w.heap.size]? = some (.cells #[.slice a f.length c, .int .i64 v, .bool true, .slice a' td.length c'] 25 (0, 0)) := by rw [← hw3]; exact st2_set HE.out.arg.1 _
  have q1 : w3.heap[w.heap.size + 1]? = some (.cells #[.slice none 0 0, .int .i64 0, .bool false, .slice none 0 0] 25 (0, 0)) := by rw [← hw3]; exact blk_far HE.out.res.1 (by omega)
  obtain ⟨p0, p1, p2, p3⟩ := st_cells q0
  obtain ⟨m0, m1, m2, m3⟩ := st_cells q1
  obtain ⟨n0, n1, n2, n3⟩ := st_free q1
  have HB3 : Hid (Below w.heap.size w w3) := by rw [Hid, ← hw3]; exact HE.out.bel.setCell (p := ⟨w.heap.size, 2, none⟩) (Nat.le_refl _) _
  clear q0 q1
  obtain ⟨e0, e1, e2, e3⟩ := HE.out.arg.cells
  obtain ⟨f0, f1, f2, f3⟩ := HE.out.arg.free
  have HB := mkHid HE.out.bel
  have H := mkHid h
  have HSZ := mkHid HE.out.size
  clear h
  go_enter Try.func19, Try.ntmps19
  go_wp2_with fail
  first | rw [hW] | skip
  first | rw [hw3] | skip
  have HF := mkHid (below_four (g := w.heap.size + 1) HB3.out (Nat.le_succ _) (.slice a f.length c) (.int .i64 v) (.bool true) (.slice a' td.length c'))
  refine bodyPost_ret (v := .tuple #[.agg #[.slice a f.length c, .int .i64 v, .bool true, .slice a' td.length c'], .int .i64 0]) (by simp [results, Try.results19, go_sem, *]) rfl ⟨rfl, H.out.below HF.out, HF.out⟩

set_option maxHeartbeats 1600000 in
set_option maxRecDepth 100000 in
theorem refback_off (w : World) (a : Option Addr) (c : Nat) (f : List (List Cel)) (v : Int) (a' : Option Addr) (c' : Nat) (td : List Lt) (h : BR w a c f a' c' td) :
    Calls Try.prog 25 #[.agg #[.slice a f.length c, .int .i64 v, .bool false, .slice a' td.length c']] w fun e w' =>
      e = .returned (.tuple #[.agg #[.slice a f.length c, .int .i64 v, .bool false, .slice a' td.length c'], .int .i64 131]) ∧ BR w' a c f a' c' td ∧ Below w.heap.size w w' := by
  obtain ⟨W, hW⟩ : ∃ W, (w.alloc (.cells #[.slice a f.length c, .int .i64 v, .bool false, .slice a' td.length c'] 25)).alloc (.cells #[.slice none 0 0, .int .i64 0, .bool false, .slice none 0 0] 25) = W := ⟨_, rfl⟩
  have HE : Hid (Ent w W a c f v false a' c' td) := by rw [Hid, ← hW]; exact ent_made h
  obtain ⟨e0, e1, e2, e3⟩ := HE.out.arg.cells
  obtain ⟨f0, f1, f2, f3⟩ := HE.out.arg.free
  obtain ⟨l0, l1, l2, l3⟩ := HE.out.res.cells
  obtain ⟨k0, k1, k2, k3⟩ := HE.out.res.free
  have HB := mkHid HE.out.bel
  have H := mkHid h
  have HSZ := mkHid HE.out.size
  clear h
  go_enter Try.func25, Try.ntmps25
  go_wp2_with fail
  first | rw [hW] | skip
  have HF := mkHid (below_four (g := w.heap.size + 1) HB.out (Nat.le_succ _) (.slice a f.length c) (.int .i64 v) (.bool false) (.slice a' td.length c'))
  refine bodyPost_ret (v := .tuple #[.agg #[.slice a f.length c, .int .i64 v, .bool false, .slice a' td.length c'], .int .i64 131]) (by simp [results, Try.results25, go_sem, *]) rfl ⟨rfl, H.out.below HF.out, HF.out⟩

set_option maxHeartbeats 1600000 in
set_option maxRecDepth 100000 in
theorem refback_on (w : World) (a : Option Addr) (c : Nat) (f : List (List Cel)) (v : Int) (a' : Option Addr) (c' : Nat) (td : List Lt) (h : BR w a c f a' c' td) :
    Calls Try.prog 25 #[.agg #[.slice a f.length c, .int .i64 v, .bool true, .slice a' td.length c']] w fun e w' =>
      e = .returned (.tuple #[.agg #[.slice a f.length c, .int .i64 v, .bool false, .slice none 0 0], .int .i64 0]) ∧ BR w' a c f none 0 [] ∧ Below w.heap.size w w' := by
  obtain ⟨W, hW⟩ : ∃ W, (w.alloc (.cells #[.slice a f.length c, .int .i64 v, .bool true, .slice a' td.length c'] 25)).alloc (.cells #[.slice none 0 0, .int .i64 0, .bool false, .slice none 0 0] 25) = W := ⟨_, rfl⟩
  have HE : Hid (Ent w W a c f v true a' c' td) := by rw [Hid, ← hW]; exact ent_made h
  obtain ⟨e0, e1, e2, e3⟩ := HE.out.arg.cells
  obtain ⟨f0, f1, f2, f3⟩ := HE.out.arg.free
  obtain ⟨l0, l1, l2, l3⟩ := HE.out.res.cells
  obtain ⟨k0, k1, k2, k3⟩ := HE.out.res.free
  have HB := mkHid HE.out.bel
  have H := mkHid h
  have HSZ := mkHid HE.out.size
  clear h
  go_enter Try.func25, Try.ntmps25
  go_wp2_with fail
  first | rw [hW] | skip
  have HF := mkHid (below_four (g := w.heap.size + 1) HB.out (Nat.le_succ _) (.slice a f.length c) (.int .i64 v) (.bool false) (.slice none 0 0))
  refine bodyPost_ret (v := .tuple #[.agg #[.slice a f.length c, .int .i64 v, .bool false, .slice none 0 0], .int .i64 0]) (by simp [results, Try.results25, go_sem, *]) rfl ⟨rfl, ⟨H.out.f.below HF.out, nilRow _⟩, HF.out⟩

set_option maxHeartbeats 1600000 in
theorem refdo_add (w : World) (a : Option Addr) (c : Nat) (L : List (List Cel)) (y : Lt) (ya : Option Addr) (yc : Nat) (hn : Hid (y.neg = true)) (hr : Row w a c L) (hy : Row w ya yc y.t) (hF : Hid (FR L)) (D : List (List Cel)) (E : Int) (hD : Hid (doF L y = D)) (hE : Hid (doE L y = E)) :
    Calls Try.prog 78 #[.slice a L.length c, .agg #[.bool true, .slice ya y.t.length yc]] w fun e w' => ∃ a2 c2, e = .returned (.tuple #[.slice a2 D.length c2, .int .i64 E]) ∧ Row w' a2 c2 D ∧ Below w.heap.size w w' := by
  have HD : Hid (addF L y.t = D) := by have h := hD.out; unfold doF at h; rw [hn.out] at h; exact h
  have HE : Hid (addE L y.t = E) := by have h := hE.out; unfold doE at h; rw [hn.out] at h; exact h
  obtain ⟨W, hW⟩ : ∃ W, w.alloc (.cells #[.bool true, .slice ya y.t.length yc] 32) = W := ⟨_, rfl⟩
  have hb0 : Below w.heap.size w W := by rw [← hW]; exact (Below.refl _ _).new _
  have HK : Hid (W.heap[w.heap.size]? = some (.cells #[.bool true, .slice ya y.t.length yc] 32 (0, 0))) := by rw [Hid, ← hW]; exact heap_alloc_new _ _
  obtain ⟨e0, e1⟩ := b2_cells HK.out
  have HC : Hid (Calls Try.prog 146 #[.slice a L.length c, .slice ya y.t.length yc] W fun e w' => ∃ a2 c2, e = .returned (.tuple #[.slice a2 D.length c2, .int .i64 E]) ∧ Row w' a2 c2 D ∧ Below W.heap.size W w') := by
    have h := refaddF_any a c L ya yc y.t W (hr.below hb0) (hy.below hb0) hF.out
    rw [HD.out, HE.out] at h
    exact h
  clear hr hy hF hD hE hn
  go_enter Try.func78, Try.ntmps78
  go_wp2_with fail
  first | rw [hW] | skip
  refine HC.out.mono ?_; rintro e w2 ⟨a2, c2, rfl, hr2, hb2⟩
  go_wp2_with fail
  go_ret2
  exact ⟨a2, c2, rfl, hr2, hb0.then hb2⟩

set_option maxHeartbeats 1600000 in
theorem refdo_drop (w : World) (a : Option Addr) (c : Nat) (L : List (List Cel)) (y : Lt) (ya : Option Addr) (yc : Nat) (hn : Hid (y.neg = false)) (hr : Row w a c L) (hy : Row w ya yc y.t) (hF : Hid (FR L)) (D : List (List Cel)) (E : Int) (hD : Hid (doF L y = D)) (hE : Hid (doE L y = E)) :
    Calls Try.prog 78 #[.slice a L.length c, .agg #[.bool false, .slice ya y.t.length yc]] w fun e w' => ∃ a2 c2, e = .returned (.tuple #[.slice a2 D.length c2, .int .i64 E]) ∧ Row w' a2 c2 D ∧ Below w.heap.size w w' := by
  have HD : Hid (dropF L y.t = D) := by have h := hD.out; unfold doF at h; rw [hn.out] at h; exact h
  have HE : Hid (dropE L y.t = E) := by have h := hE.out; unfold doE at h; rw [hn.out] at h; exact h
  obtain ⟨W, hW⟩ : ∃ W, w.alloc (.cells #[.bool false, .slice ya y.t.length yc] 32) = W := ⟨_, rfl⟩
  have hb0 : Below w.heap.size w W := by rw [← hW]; exact (Below.refl _ _).new _
  have HK : Hid (W.heap[w.heap.size]? = some (.cells #[.bool false, .slice ya y.t.length yc] 32 (0, 0))) := by rw [Hid, ← hW]; exact heap_alloc_new _ _
  obtain ⟨e0, e1⟩ := b2_cells HK.out
  have HC : Hid (Calls Try.prog 152 #[.slice a L.length c, .slice ya y.t.length yc] W fun e w' => ∃ a2 c2, e = .returned (.tuple #[.slice a2 D.length c2, .int .i64 E]) ∧ Row w' a2 c2 D ∧ Below W.heap.size W w') := by
    have h := refdropF_any a c L ya yc y.t W (hr.below hb0) (hy.below hb0) hF.out.len
    rw [HD.out, HE.out] at h
    exact h
  clear hr hy hF hD hE hn
  go_enter Try.func78, Try.ntmps78
  go_wp2_with fail
  first | rw [hW] | skip
  refine HC.out.mono ?_; rintro e w2 ⟨a2, c2, rfl, hr2, hb2⟩
  go_wp2_with fail
  go_ret2
  exact ⟨a2, c2, rfl, hr2, hb0.then hb2⟩
theorem refdo_any (w : World) (a : Option Addr) (c : Nat) (L : List (List Cel)) (y : Lt) (ya : Option Addr) (yc : Nat) (hr : Row w a c L) (hy : Row w ya yc y.t) (hF : Hid (FR L)) (D : List (List Cel)) (E : Int) (hD : Hid (doF L y = D)) (hE : Hid (doE L y = E)) :
    Calls Try.prog 78 #[.slice a L.length c, .agg #[.bool y.neg, .slice ya y.t.length yc]] w fun e w' => ∃ a2 c2, e = .returned (.tuple #[.slice a2 D.length c2, .int .i64 E]) ∧ Row w' a2 c2 D ∧ Below w.heap.size w w' := by
  cases hn : y.neg with
  | true => exact refdo_add w a c L y ya yc hn hr hy hF D E hD hE
  | false => exact refdo_drop w a c L y ya yc hn hr hy hF D E hD hE
end Go.Proofs.Ytnpffificfghpaa
set_option linter.unusedVariables false
namespace Go.Proofs.Ytnpffificfghpaa
open Go.RowKit

/-! ### the document's: Now, Commit -/
theorem refdiffK {w : World} {a a' : Option Addr} {c c' : Nat} {l m x y : List (List Cel)} (hr : Row w a c l) (ht : Row w a' c' m) (hF : Hid (FR l)) (hG : Hid (FR m)) (hx : Hid (lessF m l = x)) (hy : Hid (lessF l m = y)) :
    Calls Try.prog 79 #[.slice a l.length c, .slice a' m.length c'] w fun e w' => ∃ a2 c2 a3 c3, e = .returned (.tuple #[.slice a2 x.length c2, .slice a3 y.length c3]) ∧ Row w' a2 c2 x ∧ Row w' a3 c3 y ∧ Below w.heap.size w w' := by
  have h := refdiffF_any a c l a' c' m w hr ht hF.out.len hG.out.len
  rw [hx.out, hy.out] at h
  exact h

set_option maxHeartbeats 3200000 in
set_option maxRecDepth 100000 in
theorem refnow_any (w : World) (a : Option Addr) (c : Nat) (f : List (List Cel)) (v : Int) (on : Bool) (a' : Option Addr) (c' : Nat) (td : List Lt) (h : BR w a c f a' c' td) (hF : FR f) (m : List (List Cel)) (hm : Hid (nowF f td = m)) :
    Calls Try.prog 29 #[.agg #[.slice a f.length c, .int .i64 v, .bool on, .slice a' td.length c']] w fun e w' => ∃ a2 c2, e = .returned (.slice a2 m.length c2) ∧ Row w' a2 c2 m ∧ Below w.heap.size w w' := by
  obtain ⟨W, hW⟩ : ∃ W, w.alloc (.cells #[.slice a f.length c, .int .i64 v, .bool on, .slice a' td.length c'] 25) = W := ⟨_, rfl⟩
  have hb0 : Below w.heap.size w W := by rw [← hW]; exact (Below.refl _ _).new _
  have HX : Hid (BX W w.heap.size a c f v on a' c' td) := by rw [Hid, ← hW]; exact BX.made h
  have htm := h.t.max
  have htl := h.t.le
  have HT := mkHid (h.t.below hb0)
  have HR0 := mkHid (h.f.below hb0)
  have HFR := mkHid hF
  have HI0 : Hid (nowF f (td.take 0) = f) := rfl
  obtain ⟨e0, e1, e2, e3⟩ := HX.out.cells
  clear h hF
  go_enter Try.func29, Try.ntmps29
  go_wp2_with fail
  first | rw [hW] | skip
  clear hW e0 e1 e2 e3
  go_loopw [3, 4] (fun l i wr => ∃ (k : Nat) (L : List (List Cel)) (al : Option Addr) (cl : Nat), k ≤ td.length ∧ i = .int .i64 k ∧ l = .slice al L.length cl ∧ Hid (Row wr al cl L) ∧ Hid (Below W.heap.size W wr) ∧ Hid (FR L) ∧ Hid (nowF f (td.take k) = L)) (fun l i wr => td.length - (intOf i).toNat)
  case atStart => exact ⟨0, f, a, c, Nat.zero_le _, rfl, rfl, HR0, Below.refl _ _, HFR, HI0⟩
  case round =>
    clear HR0 HFR HI0
    obtain ⟨k, L, al, cl, hk, rfl, rfl, HRL, HBL, HFL, HNL⟩ := hrel
    have hlm := HRL.out.max
    have hll := HRL.out.le
    obtain ⟨e0, e1, e2, e3⟩ := (HX.out.below HBL.out).cells
    by_cases hlt : k < td.length
    · obtain ⟨tb, to, rfl, htb, hat⟩ := HT.out.cases.resolve_left (fun e => by simp [e] at hlt)
      obtain ⟨ya, yc, d0, d1, hry⟩ := lt_at hat HBL.out hlt
      obtain ⟨y, hy⟩ : ∃ y, td[k] = y := ⟨_, rfl⟩
      rw [hy] at d0 d1 hry
      have hym := hry.max
      have hyl := hry.le
      obtain ⟨E, hE⟩ : ∃ E, doE L y = E := ⟨_, rfl⟩
      obtain ⟨D, hD⟩ : ∃ D, doF L y = D := ⟨_, rfl⟩
      have HN1 : Hid (nowF f (td.take (k + 1)) = stepF L y) := by rw [Hid, now_take hlt, HNL.out, hy]
      have HFD : Hid (FR (stepF L y)) := HFL.out.step y
      have HSY : Hid (E = 0 → stepF L y = D) := fun h => by rw [step_yes (by rw [hE]; exact h), hD]
      have HSN : Hid (¬ E = 0 → stepF L y = L) := fun h => step_no (by rw [hE]; exact h)
      have HDE : Hid (doE L y = E) := hE
      have HDF : Hid (doF L y = D) := hD
      clear hy hE hD hat
      go_wp2_with fail
      refine (refdo_any wr al cl L y ya yc HRL.out hry HFL D E HDF HDE).mono ?_
      rintro e w5 ⟨a5, c5, rfl, hr5, hb5⟩
      have HR5 := mkHid hr5
      have HL5 := mkHid (HRL.out.below hb5)
      have HB5 := mkHid (HBL.out.then hb5)
      obtain ⟨g0, g1, g2, g3⟩ := (HX.out.below HB5.out).cells
      have d05 := keep d0 hb5
      have d15 := keep d1 hb5
      clear hr5 hb5 d0 d1 e0 e1 e2 e3 hry HDE HDF HRL HBL HNL
      by_cases h0 : E = 0
      · have t0 : (E == 0) = true := by simp [h0]
        have t1 : (E != 0) = false := by simp [h0]
        have HND : Hid (nowF f (td.take (k + 1)) = D) := HN1.out.trans (HSY.out h0)
        have HFDD : Hid (FR D) := by rw [Hid, ← HSY.out h0]; exact HFD.out
        clear h0 HSY HSN HN1 HFD
        go_wp2_with fail
        go_round
        case rel => exact ⟨k + 1, D, a5, c5, by omega, by go_num, rfl, HR5, HB5, HFDD, HND⟩
        case measure => simp [intOf]; omega
      · have t0 : (E == 0) = false := by simp [h0]
        have t1 : (E != 0) = true := by simp [h0]
        have HND : Hid (nowF f (td.take (k + 1)) = L) := HN1.out.trans (HSN.out h0)
        clear h0 HSY HSN HN1 HFD
        go_wp2_with fail
        go_round
        case rel => exact ⟨k + 1, L, al, cl, by omega, by go_num, rfl, HL5, HB5, HFL, HND⟩
        case measure => simp [intOf]; omega
    · have HLL : Hid (m = L) := by rw [Hid, ← hm.out, ← HNL.out, List.take_of_length_le (by omega)]
      clear HNL
      go_wp2_with fail
      go_ret
      rw [HLL.out]
      exact ⟨al, cl, rfl, HRL.out, hb0.then HBL.out⟩

set_option maxHeartbeats 6400000 in
set_option maxRecDepth 100000 in
theorem refcommit_off (w : World) (a : Option Addr) (c : Nat) (f : List (List Cel)) (v : Int) (a' : Option Addr) (c' : Nat) (td : List Lt) (h : BR w a c f a' c' td) :
    Calls Try.prog 23 #[.agg #[.slice a f.length c, .int .i64 v, .bool false, .slice a' td.length c']] w fun e w' =>
      e = .returned (.tuple #[.agg #[.slice a f.length c, .int .i64 v, .bool false, .slice a' td.length c'], .slice none 0 0, .slice none 0 0, .int .i64 131]) ∧ BR w' a c f a' c' td ∧ Below w.heap.size w w' := by
  obtain ⟨W, hW⟩ : ∃ W, (w.alloc (.cells #[.slice a f.length c, .int .i64 v, .bool false, .slice a' td.length c'] 25)).alloc (.cells #[.slice none 0 0, .int .i64 0, .bool false, .slice none 0 0] 25) = W := ⟨_, rfl⟩
  have HE : Hid (Ent w W a c f v false a' c' td) := by rw [Hid, ← hW]; exact ent_made h
  obtain ⟨e0, e1, e2, e3⟩ := HE.out.arg.cells
  obtain ⟨l0, l1, l2, l3⟩ := HE.out.res.cells
  obtain ⟨k0, k1, k2, k3⟩ := HE.out.res.free
  have HB := mkHid HE.out.bel
  have H := mkHid h
  clear h
  go_enter Try.func23, Try.ntmps23
  go_wp2_with fail
  first | rw [hW] | skip
  have HF := mkHid (below_four (g := w.heap.size + 1) HB.out (Nat.le_succ _) (.slice a f.length c) (.int .i64 v) (.bool false) (.slice a' td.length c'))
  refine bodyPost_ret (v := .tuple #[.agg #[.slice a f.length c, .int .i64 v, .bool false, .slice a' td.length c'], .slice none 0 0, .slice none 0 0, .int .i64 131]) (by simp [results, Try.results23, go_sem, *]) rfl ⟨rfl, H.out.below HF.out, HF.out⟩

set_option maxHeartbeats 6400000 in
set_option maxRecDepth 100000 in
theorem refcommit_big (w : World) (a : Option Addr) (c : Nat) (f : List (List Cel)) (v : Int) (a' : Option Addr) (c' : Nat) (td : List Lt) (h : BR w a c f a' c' td) (hF : FR f) (hbig : Hid (bigF f td = true)) :
    Calls Try.prog 23 #[.agg #[.slice a f.length c, .int .i64 v, .bool true, .slice a' td.length c']] w fun e w' =>
      e = .returned (.tuple #[.agg #[.slice a f.length c, .int .i64 v, .bool true, .slice a' td.length c'], .slice none 0 0, .slice none 0 0, .int .i64 2]) ∧ BR w' a c f a' c' td ∧ Below w.heap.size w w' := by
  obtain ⟨W, hW⟩ : ∃ W, (w.alloc (.cells #[.slice a f.length c, .int .i64 v, .bool true, .slice a' td.length c'] 25)).alloc (.cells #[.slice none 0 0, .int .i64 0, .bool false, .slice none 0 0] 25) = W := ⟨_, rfl⟩
  have HE : Hid (Ent w W a c f v true a' c' td) := by rw [Hid, ← hW]; exact ent_made h
  have hb0 := HE.out.bel
  have HX := mkHid HE.out.arg
  have HRS := mkHid HE.out.res
  have htm := h.t.max
  have htl := h.t.le
  have HT := mkHid (h.t.below hb0)
  have HR0 := mkHid (h.f.below hb0)
  have HFR := mkHid hF
  have HI0 : Hid (nowF f (td.take 0) = f) := rfl
  have HP0 : Hid (bigF f (td.take 0) = false) := rfl
  have H := mkHid h
  obtain ⟨e0, e1, e2, e3⟩ := HX.out.cells
  clear h hF
  go_enter Try.func23, Try.ntmps23
  go_wp2_with fail
  first | rw [hW] | skip
  clear hW e0 e1 e2 e3
  go_loopw [6, 7] (fun l i wr => ∃ (k : Nat) (L : List (List Cel)) (al : Option Addr) (cl : Nat), k ≤ td.length ∧ i = .int .i64 k ∧ l = .slice al L.length cl ∧ Hid (Row wr al cl L) ∧ Hid (Below W.heap.size W wr) ∧ Hid (FR L) ∧ Hid (nowF f (td.take k) = L) ∧ Hid (bigF f (td.take k) = false)) (fun l i wr => td.length - (intOf i).toNat)
  case atStart => exact ⟨0, f, a, c, Nat.zero_le _, rfl, rfl, HR0, Below.refl _ _, HFR, HI0, HP0⟩
  case round =>
    clear HR0 HI0 HP0
    obtain ⟨k, L, al, cl, hk, rfl, rfl, HRL, HBL, HFL, HNL, HPL⟩ := hrel
    have hlm := HRL.out.max
    have hll := HRL.out.le
    obtain ⟨e0, e1, e2, e3⟩ := (HX.out.below HBL.out).cells
    by_cases hlt : k < td.length
    · obtain ⟨tb, to, rfl, htb, hat⟩ := HT.out.cases.resolve_left (fun e => by simp [e] at hlt)
      obtain ⟨ya, yc, d0, d1, hry⟩ := lt_at hat HBL.out hlt
      obtain ⟨y, hy⟩ : ∃ y, td[k] = y := ⟨_, rfl⟩
      rw [hy] at d0 d1 hry
      have hym := hry.max
      have hyl := hry.le
      obtain ⟨E, hE⟩ : ∃ E, doE L y = E := ⟨_, rfl⟩
      obtain ⟨D, hD⟩ : ∃ D, doF L y = D := ⟨_, rfl⟩
      have HN1 : Hid (nowF f (td.take (k + 1)) = stepF L y) := by rw [Hid, now_take hlt, HNL.out, hy]
      have HFD : Hid (FR (stepF L y)) := HFL.out.step y
      have HSY : Hid (E = 0 → stepF L y = D) := fun h => by rw [step_yes (by rw [hE]; exact h), hD]
      have HSN : Hid (¬ E = 0 → stepF L y = L) := fun h => step_no (by rw [hE]; exact h)
      have HDE : Hid (doE L y = E) := hE
      have HDF : Hid (doF L y = D) := hD
      have HBD : Hid (badF L y = (y.neg && !decide (E = 0))) := by unfold badF; rw [Hid, hE]
      have HP1 : Hid (bigF f (td.take (k + 1)) = badF L y) := by rw [Hid, big_take hlt, HPL.out, HNL.out, hy, Bool.false_or]
      have HBT : Hid (badF L y = true → bigF f td = true) := fun hp => big_at hlt (by rw [HNL.out, hy]; exact hp)
      clear hy hE hD hat
      go_wp2_with fail
      refine (refdo_any wr al cl L y ya yc HRL.out hry HFL D E HDF HDE).mono ?_
      rintro e w5 ⟨a5, c5, rfl, hr5, hb5⟩
      have HR5 := mkHid hr5
      have HL5 := mkHid (HRL.out.below hb5)
      have HB5 := mkHid (HBL.out.then hb5)
      obtain ⟨g0, g1, g2, g3⟩ := (HX.out.below HB5.out).cells
      have d05 := keep d0 hb5
      have d15 := keep d1 hb5
      clear hr5 hb5 d0 d1 e0 e1 e2 e3 hry HDE HDF HRL HBL HNL
      by_cases h0 : E = 0
      · have t0 : (E == 0) = true := by simp [h0]
        have t1 : (E != 0) = false := by simp [h0]
        have HND : Hid (nowF f (td.take (k + 1)) = D) := HN1.out.trans (HSY.out h0)
        have HFDD : Hid (FR D) := by rw [Hid, ← HSY.out h0]; exact HFD.out
        have HPP : Hid (bigF f (td.take (k + 1)) = false) := by rw [Hid, HP1.out, HBD.out, decide_eq_true h0]; simp
        clear h0 HSY HSN HN1 HFD
        go_wp2_with fail
        go_round
        case rel => exact ⟨k + 1, D, a5, c5, by omega, by go_num, rfl, HR5, HB5, HFDD, HND, HPP⟩
        case measure => simp [intOf]; omega
      · have t0 : (E == 0) = false := by simp [h0]
        have t1 : (E != 0) = true := by simp [h0]
        have HND : Hid (nowF f (td.take (k + 1)) = L) := HN1.out.trans (HSN.out h0)
        cases hn : y.neg with
        | true =>
          have HBB : Hid (bigF f td = true) := HBT.out (by rw [HBD.out, hn, decide_eq_false h0]; rfl)
          rw [hn] at d05
          clear h0 HSY HSN HN1 HFD hn
          have HR6 := mkHid (HRS.out.below HB5.out)
          have HB6 := mkHid (hb0.then HB5.out)
          obtain ⟨l0, l1, l2, l3⟩ := HR6.out.cells
          obtain ⟨k0, k1, k2, k3⟩ := HR6.out.free
          go_wp2_with fail
          have HF := mkHid (below_four (g := w.heap.size + 1) HB6.out (Nat.le_succ _) (.slice a f.length c) (.int .i64 v) (.bool true) (.slice (some ⟨tb, to, none⟩) td.length c'))
          refine bodyPost_ret (v := .tuple #[.agg #[.slice a f.length c, .int .i64 v, .bool true, .slice (some ⟨tb, to, none⟩) td.length c'], .slice none 0 0, .slice none 0 0, .int .i64 2]) (by simp [results, Try.results23, go_sem, *]) rfl ⟨rfl, H.out.below HF.out, HF.out⟩
        | false =>
          have HPP : Hid (bigF f (td.take (k + 1)) = false) := by rw [Hid, HP1.out, HBD.out, hn]; rfl
          rw [hn] at d05
          clear h0 HSY HSN HN1 HFD hn
          go_wp2_with fail
          go_round
          case rel => exact ⟨k + 1, L, al, cl, by omega, by go_num, rfl, HL5, HB5, HFL, HND, HPP⟩
          case measure => simp [intOf]; omega
    · exfalso
      have h1 := HPL.out
      rw [List.take_of_length_le (by omega), hbig.out] at h1
      cases h1

set_option maxHeartbeats 6400000 in
set_option maxRecDepth 100000 in
theorem refcommit_ok (w : World) (a : Option Addr) (c : Nat) (f : List (List Cel)) (v : Int) (a' : Option Addr) (c' : Nat) (td : List Lt) (h : BR w a c f a' c' td) (hF : FR f) (hbig : Hid (bigF f td = false)) (hv1 : -4611686018427387904 ≤ v) (hv2 : v ≤ 4611686018427387904) (m x z : List (List Cel)) (hm : Hid (nowF f td = m)) (hx : Hid (lessF m f = x)) (hz : Hid (lessF f m = z)) :
    Calls Try.prog 23 #[.agg #[.slice a f.length c, .int .i64 v, .bool true, .slice a' td.length c']] w fun e w' =>
      ∃ a2 c2 a3 c3 a4 c4, e = .returned (.tuple #[.agg #[.slice a2 m.length c2, .int .i64 (v + 1), .bool false, .slice none 0 0], .slice a3 x.length c3, .slice a4 z.length c4, .int .i64 0]) ∧ Row w' a2 c2 m ∧ Row w' a3 c3 x ∧ Row w' a4 c4 z ∧ Below w.heap.size w w' := by
  obtain ⟨W, hW⟩ : ∃ W, (w.alloc (.cells #[.slice a f.length c, .int .i64 v, .bool true, .slice a' td.length c'] 25)).alloc (.cells #[.slice none 0 0, .int .i64 0, .bool false, .slice none 0 0] 25) = W := ⟨_, rfl⟩
  have HE : Hid (Ent w W a c f v true a' c' td) := by rw [Hid, ← hW]; exact ent_made h
  have hb0 := HE.out.bel
  have HX := mkHid HE.out.arg
  have HRS := mkHid HE.out.res
  have htm := h.t.max
  have htl := h.t.le
  have HT := mkHid (h.t.below hb0)
  have HR0 := mkHid (h.f.below hb0)
  have HFR := mkHid hF
  have HI0 : Hid (nowF f (td.take 0) = f) := rfl
  have HP0 : Hid (bigF f (td.take 0) = false) := rfl
  have H := mkHid h
  obtain ⟨e0, e1, e2, e3⟩ := HX.out.cells
  clear h hF
  go_enter Try.func23, Try.ntmps23
  go_wp2_with fail
  first | rw [hW] | skip
  clear hW e0 e1 e2 e3
  go_loopw [6, 7] (fun l i wr => ∃ (k : Nat) (L : List (List Cel)) (al : Option Addr) (cl : Nat), k ≤ td.length ∧ i = .int .i64 k ∧ l = .slice al L.length cl ∧ Hid (Row wr al cl L) ∧ Hid (Below W.heap.size W wr) ∧ Hid (FR L) ∧ Hid (nowF f (td.take k) = L) ∧ Hid (bigF f (td.take k) = false)) (fun l i wr => td.length - (intOf i).toNat)
  case atStart => exact ⟨0, f, a, c, Nat.zero_le _, rfl, rfl, HR0, Below.refl _ _, HFR, HI0, HP0⟩
  case round =>
    clear HR0 HI0 HP0
    obtain ⟨k, L, al, cl, hk, rfl, rfl, HRL, HBL, HFL, HNL, HPL⟩ := hrel
    have hlm := HRL.out.max
    have hll := HRL.out.le
    obtain ⟨e0, e1, e2, e3⟩ := (HX.out.below HBL.out).cells
    by_cases hlt : k < td.length
    · obtain ⟨tb, to, rfl, htb, hat⟩ := HT.out.cases.resolve_left (fun e => by simp [e] at hlt)
      obtain ⟨ya, yc, d0, d1, hry⟩ := lt_at hat HBL.out hlt
      obtain ⟨y, hy⟩ : ∃ y, td[k] = y := ⟨_, rfl⟩
      rw [hy] at d0 d1 hry
      have hym := hry.max
      have hyl := hry.le
      obtain ⟨E, hE⟩ : ∃ E, doE L y = E := ⟨_, rfl⟩
      obtain ⟨D, hD⟩ : ∃ D, doF L y = D := ⟨_, rfl⟩
      have HN1 : Hid (nowF f (td.take (k + 1)) = stepF L y) := by rw [Hid, now_take hlt, HNL.out, hy]
      have HFD : Hid (FR (stepF L y)) := HFL.out.step y
      have HSY : Hid (E = 0 → stepF L y = D) := fun h => by rw [step_yes (by rw [hE]; exact h), hD]
      have HSN : Hid (¬ E = 0 → stepF L y = L) := fun h => step_no (by rw [hE]; exact h)
      have HDE : Hid (doE L y = E) := hE
      have HDF : Hid (doF L y = D) := hD
      have HBD : Hid (badF L y = (y.neg && !decide (E = 0))) := by unfold badF; rw [Hid, hE]
      have HP1 : Hid (bigF f (td.take (k + 1)) = badF L y) := by rw [Hid, big_take hlt, HPL.out, HNL.out, hy, Bool.false_or]
      have HBT : Hid (badF L y = true → bigF f td = true) := fun hp => big_at hlt (by rw [HNL.out, hy]; exact hp)
      clear hy hE hD hat
      go_wp2_with fail
      refine (refdo_any wr al cl L y ya yc HRL.out hry HFL D E HDF HDE).mono ?_
      rintro e w5 ⟨a5, c5, rfl, hr5, hb5⟩
      have HR5 := mkHid hr5
      have HL5 := mkHid (HRL.out.below hb5)
      have HB5 := mkHid (HBL.out.then hb5)
      obtain ⟨g0, g1, g2, g3⟩ := (HX.out.below HB5.out).cells
      have d05 := keep d0 hb5
      have d15 := keep d1 hb5
      clear hr5 hb5 d0 d1 e0 e1 e2 e3 hry HDE HDF HRL HBL HNL
      by_cases h0 : E = 0
      · have t0 : (E == 0) = true := by simp [h0]
        have t1 : (E != 0) = false := by simp [h0]
        have HND : Hid (nowF f (td.take (k + 1)) = D) := HN1.out.trans (HSY.out h0)
        have HFDD : Hid (FR D) := by rw [Hid, ← HSY.out h0]; exact HFD.out
        have HPP : Hid (bigF f (td.take (k + 1)) = false) := by rw [Hid, HP1.out, HBD.out, decide_eq_true h0]; simp
        clear h0 HSY HSN HN1 HFD
        go_wp2_with fail
        go_round
        case rel => exact ⟨k + 1, D, a5, c5, by omega, by go_num, rfl, HR5, HB5, HFDD, HND, HPP⟩
        case measure => simp [intOf]; omega
      · have t0 : (E == 0) = false := by simp [h0]
        have t1 : (E != 0) = true := by simp [h0]
        have HND : Hid (nowF f (td.take (k + 1)) = L) := HN1.out.trans (HSN.out h0)
        cases hn : y.neg with
        | true =>
          have HBB : Hid (bigF f td = true) := HBT.out (by rw [HBD.out, hn, decide_eq_false h0]; rfl)
          rw [hn] at d05
          clear h0 HSY HSN HN1 HFD hn
          exfalso
          have h1 := HBB.out
          rw [hbig.out] at h1
          cases h1
        | false =>
          have HPP : Hid (bigF f (td.take (k + 1)) = false) := by rw [Hid, HP1.out, HBD.out, hn]; rfl
          rw [hn] at d05
          clear h0 HSY HSN HN1 HFD hn
          go_wp2_with fail
          go_round
          case rel => exact ⟨k + 1, L, al, cl, by omega, by go_num, rfl, HL5, HB5, HFL, HND, HPP⟩
          case measure => simp [intOf]; omega
    · have HLL : Hid (L = m) := by rw [Hid, ← hm.out, ← HNL.out, List.take_of_length_le (by omega)]
      obtain rfl : L = m := HLL.out
      have HNM := mkHid HFL.out.ne
      have HNX : Hid (NEf x) := by rw [Hid, ← hx.out]; exact (lessF_fr HFL.out).ne
      have HNZ : Hid (NEf z) := by rw [Hid, ← hz.out]; exact (lessF_fr HFR.out).ne
      have hf0 := (HX.out.below HBL.out).2.f
      clear HNL HLL HPL
      go_wp2_with fail
      refine (refdiffK hf0 HRL.out HFR HFL hx hz).mono ?_
      rintro e w3 ⟨a3, c3, a4, c4, rfl, hr3, hr4, hb3⟩
      have HB3 := mkHid (HBL.out.then hb3)
      have HM3 := mkHid (HRL.out.below hb3)
      have HX3 := mkHid hr3
      have HZ3 := mkHid hr4
      have HR3 := mkHid (HRS.out.below HB3.out)
      have HB4 := mkHid (hb0.then HB3.out)
      obtain ⟨e0, e1, e2, e3⟩ := (HX.out.below HB3.out).cells
      obtain ⟨l0, l1, l2, l3⟩ := HR3.out.cells
      obtain ⟨k0, k1, k2, k3⟩ := HR3.out.free
      clear hr3 hr4 hb3 hf0
      go_wp2_with fail
      refine bodyPost_ret (v := .tuple #[.agg #[.slice al L.length cl, .int .i64 (v + 1), .bool false, .slice none 0 0], .slice a3 x.length c3, .slice a4 z.length c4, .int .i64 0]) (by simp [results, Try.results23, go_sem, *]) rfl ⟨al, cl, a3, c3, a4, c4, rfl, HR3.out.rows4 HNM.out HM3.out _ _ _ _, HR3.out.rows4 HNX.out HX3.out _ _ _ _, HR3.out.rows4 HNZ.out HZ3.out _ _ _ _, below_four HB4.out (by simp) _ _ _ _⟩
end Go.Proofs.Ytnpffificfghpaa
set_option linter.unusedVariables false
namespace Go.Proofs.Ytnpffificfghpaa
open Go.RowKit

/-! ### the document's Change -/
theorem chg_end {w6 w7 : World} {X : Nat} {a a' a6 : Option Addr} {c c' c6 : Nat} {f : List (List Cel)} {v : Int} {on : Bool} {td : List Lt} {y : Lt} (hA : BX w6 X a c f v on a' c' td) (hR : BX w6 (X + 2) none 0 [] 0 false none 0 []) (h6 : Row w6 a6 c6 (td ++ [y])) (hne : NEf f ∧ NEt (td ++ [y])) (hw7 : w6.setCell ⟨X, 3, none⟩ (.slice a6 (td.length + 1) c6) = w7) :
    w7.heap[X]? = some (.cells #[.slice a f.length c, .int .i64 v, .bool on, .slice a6 (td.length + 1) c6] 25 (0, 0)) ∧ BR w7 a c f a6 c6 (td ++ [y]) ∧ BX w7 (X + 2) none 0 [] 0 false none 0 [] := by
  subst hw7
  have hk : Keeps (hide (some X) w6) (w6.setCell ⟨X, 3, none⟩ (.slice a6 (td.length + 1) c6)) := fun b o v h => by
    obtain ⟨h1, h2⟩ := hide_cell h
    exact cell_far h1 h2
  exact ⟨st3_set hA.1 _, ⟨(hA.rows hne.1 hA.2.f).keeps hk, (hA.chgs hne.2 h6).keeps hk⟩, ⟨blk_far hR.1 (by omega), noB_row _⟩⟩
theorem own_keeps {w w' : World} {v : Value} (hb : Below w.heap.size w w') (hl : ∀ g, v.ownBlock = some g → w.heap.size ≤ g ∧ g < w'.heap.size) : Keeps w (hide v.ownBlock w') := by
  cases hv : v.ownBlock with
  | none => exact Keeps.of hb
  | some q => exact fresh_keeps (Keeps.of hb) (hl q hv).1

set_option maxHeartbeats 6400000 in
set_option maxRecDepth 100000 in
theorem refchange_off (w : World) (a : Option Addr) (c : Nat) (f : List (List Cel)) (v : Int) (a' : Option Addr) (c' : Nat) (td : List Lt) (ya : Option Addr) (yc : Nat) (y : Lt) (h : BR w a c f a' c' td) (hy : Row w ya yc y.t) :
    Calls Try.prog 21 #[.agg #[.slice a f.length c, .int .i64 v, .bool false, .slice a' td.length c'], .agg #[.bool y.neg, .slice ya y.t.length yc]] w fun e w' =>
      e = .returned (.tuple #[.agg #[.slice a f.length c, .int .i64 v, .bool false, .slice a' td.length c'], .int .i64 131]) ∧ BR w' a c f a' c' td ∧ Below w.heap.size w w' := by
  obtain ⟨W, hW⟩ : ∃ W, ((w.alloc (.cells #[.slice a f.length c, .int .i64 v, .bool false, .slice a' td.length c'] 25)).alloc (.cells #[.bool y.neg, .slice ya y.t.length yc] 32)).alloc (.cells #[.slice none 0 0, .int .i64 0, .bool false, .slice none 0 0] 25) = W := ⟨_, rfl⟩
  have HE : Hid (Ent3 w W a c f v false a' c' td ya yc y) := by rw [Hid, ← hW]; exact ent3_made h
  have HY := mkHid (hy.below HE.out.bel)
  have hyl := hy.le
  have hym := hy.max
  have H := mkHid h
  have HB := mkHid HE.out.bel
  have HSZ := mkHid HE.out.size
  obtain ⟨e0, e1, e2, e3⟩ := HE.out.arg.cells
  obtain ⟨m0, m1⟩ := b2_cells HE.out.chg
  obtain ⟨l0, l1, l2, l3⟩ := HE.out.res.cells
  obtain ⟨k0, k1, k2, k3⟩ := HE.out.res.free
  clear h hy
  go_enter Try.func21, Try.ntmps21
  go_wp2_with fail
  first | rw [hW] | skip
  have HF := mkHid (below_four (g := w.heap.size + 1 + 1) HB.out (by omega) (.slice a f.length c) (.int .i64 v) (.bool false) (.slice a' td.length c'))
  refine bodyPost_ret (v := .tuple #[.agg #[.slice a f.length c, .int .i64 v, .bool false, .slice a' td.length c'], .int .i64 131]) (by simp [results, Try.results21, go_sem, *]) rfl ⟨rfl, H.out.below HF.out, HF.out⟩

set_option maxHeartbeats 6400000 in
set_option maxRecDepth 100000 in
theorem refchange_no (w : World) (a : Option Addr) (c : Nat) (f : List (List Cel)) (v : Int) (a' : Option Addr) (c' : Nat) (td : List Lt) (ya : Option Addr) (yc : Nat) (y : Lt) (h : BR w a c f a' c' td) (hy : Row w ya yc y.t) (hF : factB y.t = false) :
    Calls Try.prog 21 #[.agg #[.slice a f.length c, .int .i64 v, .bool true, .slice a' td.length c'], .agg #[.bool y.neg, .slice ya y.t.length yc]] w fun e w' =>
      e = .returned (.tuple #[.agg #[.slice a f.length c, .int .i64 v, .bool true, .slice a' td.length c'], .int .i64 120]) ∧ BR w' a c f a' c' td ∧ Below w.heap.size w w' := by
  obtain ⟨W, hW⟩ : ∃ W, ((w.alloc (.cells #[.slice a f.length c, .int .i64 v, .bool true, .slice a' td.length c'] 25)).alloc (.cells #[.bool y.neg, .slice ya y.t.length yc] 32)).alloc (.cells #[.slice none 0 0, .int .i64 0, .bool false, .slice none 0 0] 25) = W := ⟨_, rfl⟩
  have HE : Hid (Ent3 w W a c f v true a' c' td ya yc y) := by rw [Hid, ← hW]; exact ent3_made h
  have HY := mkHid (hy.below HE.out.bel)
  have hyl := hy.le
  have hym := hy.max
  have H := mkHid h
  have HB := mkHid HE.out.bel
  have HSZ := mkHid HE.out.size
  obtain ⟨e0, e1, e2, e3⟩ := HE.out.arg.cells
  obtain ⟨m0, m1⟩ := b2_cells HE.out.chg
  have HF0 := mkHid hF
  clear h hy hF
  go_enter Try.func21, Try.ntmps21
  go_wp2_with fail
  first | rw [hW] | skip
  clear hW
  refine (reffact_is HY.out HF0).mono ?_; rintro e w4 ⟨rfl, hb4⟩
  have HB4 := mkHid (HB.out.then hb4)
  obtain ⟨l0, l1, l2, l3⟩ := (HE.out.res.below hb4).cells
  obtain ⟨k0, k1, k2, k3⟩ := (HE.out.res.below hb4).free
  obtain ⟨q0, q1, q2, q3⟩ := (HE.out.arg.below hb4).cells
  clear hb4 e0 e1 e2 e3 m0 m1
  go_wp2_with fail
  have HF := mkHid (below_four (g := w.heap.size + 1 + 1) HB4.out (by omega) (.slice a f.length c) (.int .i64 v) (.bool true) (.slice a' td.length c'))
  refine bodyPost_ret (v := .tuple #[.agg #[.slice a f.length c, .int .i64 v, .bool true, .slice a' td.length c'], .int .i64 120]) (by simp [results, Try.results21, go_sem, *]) rfl ⟨rfl, H.out.below HF.out, HF.out⟩

set_option maxHeartbeats 6400000 in
set_option maxRecDepth 100000 in
theorem refchange_yes (w : World) (a : Option Addr) (c : Nat) (f : List (List Cel)) (v : Int) (a' : Option Addr) (c' : Nat) (td : List Lt) (ya : Option Addr) (yc : Nat) (y : Lt) (h : BR w a c f a' c' td) (hy : Row w ya yc y.t) (ok : OkB f td) (hF : factB y.t = true) :
    Calls Try.prog 21 #[.agg #[.slice a f.length c, .int .i64 v, .bool true, .slice a' td.length c'], .agg #[.bool y.neg, .slice ya y.t.length yc]] w fun e w' =>
      ∃ a3 c3, e = .returned (.tuple #[.agg #[.slice a f.length c, .int .i64 v, .bool true, .slice a3 (td.length + 1) c3], .int .i64 0]) ∧ BR w' a c f a3 c3 (td ++ [y]) ∧ Below w.heap.size w w' := by
  obtain ⟨W, hW⟩ : ∃ W, ((w.alloc (.cells #[.slice a f.length c, .int .i64 v, .bool true, .slice a' td.length c'] 25)).alloc (.cells #[.bool y.neg, .slice ya y.t.length yc] 32)).alloc (.cells #[.slice none 0 0, .int .i64 0, .bool false, .slice none 0 0] 25) = W := ⟨_, rfl⟩
  have HE : Hid (Ent3 w W a c f v true a' c' td ya yc y) := by rw [Hid, ← hW]; exact ent3_made h
  have HY := mkHid (hy.below HE.out.bel)
  have hyl := hy.le
  have hym := hy.max
  have H := mkHid h
  have HB := mkHid HE.out.bel
  have HSZ := mkHid HE.out.size
  obtain ⟨e0, e1, e2, e3⟩ := HE.out.arg.cells
  obtain ⟨m0, m1⟩ := b2_cells HE.out.chg
  have HF0 := mkHid hF
  have HNE := mkHid ok.ne
  have htl := ok.len
  have htm := h.t.max
  have htc := h.t.le
  have HYN : Hid (y.t ≠ []) := fact_ne hF
  have HNE2 : Hid (NEf f ∧ NEt (td ++ [y])) := ⟨HNE.out.1, fun x hx => by
    rcases List.mem_append.1 hx with h | h
    · exact HNE.out.2 x h
    · rw [List.mem_singleton] at h; rw [h]; exact HYN.out⟩
  clear h hy hF ok
  go_enter Try.func21, Try.ntmps21
  go_wp2_with fail
  first | rw [hW] | skip
  clear hW
  refine (reffact_is HY.out HF0).mono ?_; rintro e w4 ⟨rfl, hb4⟩
  have HB4 := mkHid (HB.out.then hb4)
  have HA4 := mkHid (HE.out.arg.below hb4)
  have HR4 := mkHid (HE.out.res.below hb4)
  have HG4 := mkHid ((hb4.block _ (by have h1 := HSZ.out; omega)).trans HE.out.chg)
  have HY4 := mkHid (HY.out.below hb4)
  have hm0 : AccInv w4.heap.size 32 ([] : List Lt) (.slice (some ⟨w4.heap.size, 0, none⟩) 0 0) (w4.alloc (.cells #[] 32)) := AccInv.made w4 (Nat.le_refl _) rfl
  have hba := (Below.refl w4.heap.size w4).new (.cells #[] 32)
  have hsz := hba.size
  have hrh : Row (hide (some w4.heap.size) (w4.alloc (.cells #[] 32))) a' c' td := HA4.out.2.t.keeps (fresh_keeps (Keeps.of hba) (Nat.le_refl _))
  obtain ⟨q0, q1, q2, q3⟩ := (HA4.out.below hba).cells
  obtain ⟨n0, n1⟩ := b2_cells HG4.out
  clear hb4 e0 e1 e2 e3 m0 m1
  go_wp2_with (first
    | (at_builtin; refine wpList_accs (α := Lt) rfl _ _ 23 rfl w4.heap.size 32 32 _ Try.underlying23 Try.infoChg rfl (by decide) _ [] hm0 (by rfl) _ _ td hrh (by rfl) (by simp; omega) hsz ?_; intro v5 w5 hacc5 hb5; rw [List.nil_append] at hacc5; have hb45 := hba.trans hb5; obtain ⟨n50, n51⟩ := b2_cells ((hb45.block (w.heap.size + 1) (by have h1 := HSZ.out; have h2 := HR4.out.lt; omega)).trans HG4.out); have hy5 : Row (hide v5.ownBlock w5) ya yc y.t := HY4.out.keeps (own_keeps hb45 hacc5.lt); have hsz5 := hb45.size; obtain ⟨a5, c5, rfl, hr5⟩ := hacc5.row; clear hb5 hm0 hrh q0 q1 q2 q3 n0 n1 hr5)
    | (at_builtin; refine wpList_acc (α := Lt) rfl _ _ 23 rfl w4.heap.size 32 32 _ Try.underlying23 Try.infoChg rfl (by decide) _ td hacc5 (by rfl) _ #[.bool y.neg, .slice ya y.t.length yc] y ⟨ya, yc, rfl, hy5⟩ (by rfl) (by omega) hsz5 ?_; intro v6 w6 hacc6 hb6; have hb46 := hb45.trans hb6; obtain ⟨a6, c6, rfl, hr6⟩ := hacc6.row; have HR6 := mkHid hr6; have HA6 := mkHid (HA4.out.below hb46); have HRS6 := mkHid (HR4.out.below hb46); have HB6 := mkHid (HB4.out.then hb46); obtain ⟨q0, q1, q2, q3⟩ := HA6.out.cells; obtain ⟨f0, f1, f2, f3⟩ := HA6.out.free; have hln : (td ++ [y]).length = td.length + 1 := List.length_append; rw [hln]; obtain ⟨w7, hw7⟩ : ∃ w7, w6.setCell ⟨w.heap.size, 3, none⟩ (.slice a6 (td.length + 1) c6) = w7 := ⟨_, rfl⟩; obtain ⟨hq7, hbr7, hrs7⟩ := chg_end HA6.out HRS6.out HR6.out HNE2.out hw7; have HBR7 := mkHid hbr7; have HRS7 := mkHid hrs7; have HB7 : Hid (Below w.heap.size w w7) := (by (rw [Hid, ← hw7]; exact HB6.out.setCell (p := ⟨w.heap.size, 3, none⟩) (Nat.le_refl _) _)); obtain ⟨p0, p1, p2, p3⟩ := st_cells hq7; obtain ⟨l0, l1, l2, l3⟩ := hrs7.cells; obtain ⟨k0, k1, k2, k3⟩ := hrs7.free; clear hacc5 hacc6 hr6 hb45 hb46 hb6 hln hq7 n50 n51 hy5 hbr7 hrs7))
  go_wp2_with fail
  first | rw [hw7] | skip
  refine bodyPost_ret (v := .tuple #[.agg #[.slice a f.length c, .int .i64 v, .bool true, .slice a6 (td.length + 1) c6], .int .i64 0]) (by simp [results, Try.results21, go_sem, *]) rfl ⟨a6, c6, rfl, HRS7.out.br4 HNE2.out HBR7.out _ _ _ _, below_four (g := w.heap.size + 1 + 1) HB7.out (by omega) _ _ _ _⟩

/-! ### the document's Same, of what is the same -/
set_option maxHeartbeats 6400000 in
set_option maxRecDepth 100000 in
theorem same13_is (w : World) (a b : Option Addr) (c d : Nat) (f : List (List Cel)) (v : Int) (on : Bool) (a' b' : Option Addr) (c' d' : Nat) (td : List Lt) (h : BR w a c f a' c' td) (k : BR w b d f b' d' td) :
    Calls Try.prog 26 #[.agg #[.slice a f.length c, .int .i64 v, .bool on, .slice a' td.length c'], .agg #[.slice b f.length d, .int .i64 v, .bool on, .slice b' td.length d']] w fun e w' => e = .returned (.bool true) ∧ Below w.heap.size w w' := by
  obtain ⟨W, hW⟩ : ∃ W, (w.alloc (.cells #[.slice a f.length c, .int .i64 v, .bool on, .slice a' td.length c'] 25)).alloc (.cells #[.slice b f.length d, .int .i64 v, .bool on, .slice b' td.length d'] 25) = W := ⟨_, rfl⟩
  have hb0 : Below w.heap.size w W := by rw [← hW]; exact ((Below.refl _ _).new _).new _
  have HX : Hid (BX W w.heap.size a c f v on a' c' td) := by rw [Hid, ← hW]; exact (BX.made h).below ((Below.refl _ _).new _)
  have HY : Hid (BX W (w.heap.size + 1) b d f v on b' d' td) := by
    have h1 := BX.made (v := v) (on := on) (k.below ((Below.refl w.heap.size w).new (.cells #[.slice a f.length c, .int .i64 v, .bool on, .slice a' td.length c'] 25)))
    have hs1 : (w.alloc (.cells #[.slice a f.length c, .int .i64 v, .bool on, .slice a' td.length c'] 25)).heap.size = w.heap.size + 1 := by simp
    rw [hs1] at h1
    rw [Hid, ← hW]; exact h1
  have htm := h.t.max
  have htl := h.t.le
  have htm2 := k.t.max
  have htl2 := k.t.le
  have HT := mkHid (h.t.below hb0)
  have HU := mkHid (k.t.below hb0)
  have tn : (on != on) = false := by cases on <;> rfl
  have tv : (v != v) = false := by simp
  have tl : ((td.length : Int) != (td.length : Int)) = false := by simp
  obtain ⟨e0, e1, e2, e3⟩ := HX.out.cells
  obtain ⟨g0, g1, g2, g3⟩ := HY.out.cells
  clear h k
  go_enter Try.func26, Try.ntmps26
  go_wp2_with fail
  first | rw [hW] | skip
  clear hW
  refine (sameall_lit rfl HX.out.2.f rfl HY.out.2.f (decide_eq_true rfl)).mono ?_; rintro e w1 ⟨rfl, hb1⟩
  have HX1 := mkHid (HX.out.below hb1)
  have HY1 := mkHid (HY.out.below hb1)
  have HT1 := mkHid (HT.out.below hb1)
  have HU1 := mkHid (HU.out.below hb1)
  have hb01 := hb0.then hb1
  clear e0 e1 e2 e3 g0 g1 g2 g3 HX HY HT HU hb1
  go_wp2_with fail
  go_loopw [5] (fun i wr => ∃ k : Nat, k ≤ td.length ∧ i = .int .i64 k ∧ Hid (Below w1.heap.size w1 wr)) (fun i wr => td.length - (intOf i).toNat)
  case atStart => exact ⟨0, Nat.zero_le _, rfl, Below.refl _ _⟩
  case round =>
    obtain ⟨k, hk, rfl, HBL⟩ := hrel
    have e3 := (HX1.out.below HBL.out).cells.2.2.2
    have g3 := (HY1.out.below HBL.out).cells.2.2.2
    by_cases hlt : k < td.length
    · obtain ⟨tb, to, rfl, htb, hat⟩ := HT1.out.cases.resolve_left (fun e => by simp [e] at hlt)
      obtain ⟨ub, uo, rfl, hub, hau⟩ := HU1.out.cases.resolve_left (fun e => by simp [e] at hlt)
      obtain ⟨ya, yc, d0, d1, hry⟩ := lt_at hat HBL.out hlt
      obtain ⟨za, zc, d2, d3, hrz⟩ := lt_at hau HBL.out hlt
      have tq : (td[k].neg != td[k].neg) = false := by cases td[k].neg <;> rfl
      have f0 : ∀ x : Later wr, x.w'.cell? ⟨tb, to + k * 2, none⟩ = some (.bool td[k].neg) := keepL d0
      have f1 : ∀ x : Later wr, x.w'.cell? ⟨tb, to + k * 2 + 1, none⟩ = some (.slice ya td[k].t.length yc) := keepL d1
      have f2 : ∀ x : Later wr, x.w'.cell? ⟨ub, uo + k * 2, none⟩ = some (.bool td[k].neg) := keepL d2
      have f3 : ∀ x : Later wr, x.w'.cell? ⟨ub, uo + k * 2 + 1, none⟩ = some (.slice za td[k].t.length zc) := keepL d3
      have f4 : ∀ x : Later wr, x.w'.cell? ⟨w.heap.size, 3, none⟩ = some (.slice (some ⟨tb, to, none⟩) td.length c') := keepL e3
      have f5 : ∀ x : Later wr, x.w'.cell? ⟨w.heap.size + 1, 3, none⟩ = some (.slice (some ⟨ub, uo, none⟩) td.length d') := keepL g3
      have HQ : Hid (decide (td[k].t = td[k].t) = true) := decide_eq_true rfl
      have hcall : ∀ x : Later wr, Calls Try.prog 60 #[.slice ya td[k].t.length yc, .slice za td[k].t.length zc] x.w' fun e w'' => e = .returned (.bool true) ∧ Below x.w'.heap.size x.w' w'' := fun x => refsameF_is (hry.below x.ok) (hrz.below x.ok) HQ
      go_wp2
      refine wp_region_calm (by kernel_rfl) (by kernel_rfl) ?_
      repeat (go_big_quiet_step (exact Calls.calm_of (hcall _)))
      refine wpQuiet_nil ?_
      rintro _ ⟨x, rfl⟩
      have HB2 := mkHid (HBL.out.then x.ok)
      go_wp2
      go_round
      case rel => exact ⟨k + 1, by omega, by go_num, HB2⟩
      case measure => simp [intOf]; omega
    · go_wp2_with fail
      go_ret
      exact ⟨rfl, hb01.then HBL.out⟩
end Go.Proofs.Ytnpffificfghpaa
namespace Go.Proofs.Ytnpffificfghpaa
open Go.RowKit

/-! ### Made, told as a function -/
def nameOf (s : ByteArray) : ByteArray := if bits .and .i64 s.size 1 = 1 then ⟨#[102]⟩ else if bits .and .i64 s.size 2 = 2 then ⟨#[103]⟩ else ⟨#[97]⟩
theorem name3_is (s : ByteArray) (w : World) : Calls Try.prog 206 #[.string s] w fun e w' => (∃ t : ByteArray, e = .returned (.string t) ∧ Hid (t = nameOf s) ∧ (t = ⟨#[102]⟩ ∨ t = ⟨#[103]⟩ ∨ t = ⟨#[97]⟩)) ∧ w' = w := by
  by_cases h1 : bits .and .i64 s.size 1 = 1
  · have t1 : (bits .and .i64 s.size 1 == 1) = true := by simp [h1]
    have HT : Hid ((⟨#[102]⟩ : ByteArray) = nameOf s) := (if_pos h1).symm
    clear h1
    go_enter Try.func206, Try.ntmps206
    go_wp2
    go_ret
    exact ⟨⟨_, rfl, HT.out, by simp⟩, rfl⟩
  · have t1 : (bits .and .i64 s.size 1 == 1) = false := by simp [h1]
    by_cases h2 : bits .and .i64 s.size 2 = 2
    · have t2 : (bits .and .i64 s.size 2 == 2) = true := by simp [h2]
      have HT : Hid ((⟨#[103]⟩ : ByteArray) = nameOf s) := ((if_neg h1).trans (if_pos h2)).symm
      clear h1 h2
      go_enter Try.func206, Try.ntmps206
      go_wp2
      go_ret
      exact ⟨⟨_, rfl, HT.out, by simp⟩, rfl⟩
    · have t2 : (bits .and .i64 s.size 2 == 2) = false := by simp [h2]
      have HT : Hid ((⟨#[97]⟩ : ByteArray) = nameOf s) := ((if_neg h1).trans (if_neg h2)).symm
      clear h1 h2
      go_enter Try.func206, Try.ntmps206
      go_wp2
      go_ret
      exact ⟨⟨_, rfl, HT.out, by simp⟩, rfl⟩
/-- the cell that comes next -/
def nextC (xs : List Cel) (most : Nat) (out : List Cel) (m : Nat) : Cel :=
  match xs[out.length]? with
  | none => aC
  | some x => if bits .and .i64 x.k 3 = 1 then ⟨1, ⟨#[]⟩, bits .and .i64 x.n 7⟩ else if bits .and .i64 x.k 3 = 2 then ⟨2, ⟨#[]⟩, bits .and .i64 x.n 3⟩ else if (out.length : Int) + ((m : Int) + 1) + bits .and .i64 x.n 3 ≤ (most : Int) then ⟨3, nameOf x.s, bits .and .i64 x.n 3⟩ else aC
theorem next_at {xs : List Cel} {most : Nat} {out : List Cel} {m : Nat} (h : out.length < xs.length) : nextC xs most out m = if bits .and .i64 xs[out.length].k 3 = 1 then ⟨1, ⟨#[]⟩, bits .and .i64 xs[out.length].n 7⟩ else if bits .and .i64 xs[out.length].k 3 = 2 then ⟨2, ⟨#[]⟩, bits .and .i64 xs[out.length].n 3⟩ else if (out.length : Int) + ((m : Int) + 1) + bits .and .i64 xs[out.length].n 3 ≤ (most : Int) then ⟨3, nameOf xs[out.length].s, bits .and .i64 xs[out.length].n 3⟩ else aC := by
  unfold nextC; rw [List.getElem?_eq_getElem h]
theorem next_end {xs : List Cel} {most : Nat} {out : List Cel} {m : Nat} (h : ¬ out.length < xs.length) : nextC xs most out m = aC := by
  unfold nextC; rw [List.getElem?_eq_none (by omega)]
inductive MadeP (xs : List Cel) (most : Nat) : List Cel → Nat → Prop
  | nil : MadeP xs most [] 1
  | snoc {out : List Cel} {m : Nat} (h : MadeP xs most out (m + 1)) : MadeP xs most (out ++ [nextC xs most out m]) (m + ar (nextC xs most out m))
theorem MadeP.pre {xs : List Cel} {most : Nat} {o : List Cel} {n : Nat} (h : MadeP xs most o n) : ∀ k, k < o.length → ∃ j, MadeP xs most (o.take k) (j + 1) ∧ o.take (k + 1) = o.take k ++ [nextC xs most (o.take k) j] ∧ (k + 1 = o.length → n = j + ar (nextC xs most (o.take k) j)) := by
  induction h with
  | nil => intro k hk; simp at hk
  | @snoc out m h ih =>
    intro k hk
    simp only [List.length_append, List.length_singleton] at hk
    by_cases e : k = out.length
    · subst e
      refine ⟨m, by simpa using h, by rw [List.take_of_length_le (by simp)]; simp, fun _ => by simp⟩
    · have hk2 : k < out.length := by omega
      obtain ⟨j, h1, h2, _⟩ := ih k hk2
      have e1 : (out ++ [nextC xs most out m]).take k = out.take k := List.take_append_of_le_length (by omega)
      have e2 : (out ++ [nextC xs most out m]).take (k + 1) = out.take (k + 1) := List.take_append_of_le_length (by omega)
      rw [e1, e2]
      exact ⟨j, h1, h2, fun h => by simp at h; omega⟩
theorem MadeP.det {xs : List Cel} {most : Nat} : ∀ (k : Nat) {o o' : List Cel} {n n' : Nat}, MadeP xs most o n → MadeP xs most o' n' → o.length = k → o'.length = k → o = o' ∧ n = n' := by
  intro k
  induction k with
  | zero =>
    intro o o' n n' h h' e e'
    obtain rfl := List.eq_nil_of_length_eq_zero e
    obtain rfl := List.eq_nil_of_length_eq_zero e'
    refine ⟨rfl, ?_⟩
    have hz : ∀ {q n}, MadeP xs most q n → q = [] → n = 1 := by
      intro q n h
      cases h with
      | nil => intro _; rfl
      | snoc h => intro e; simp at e
    rw [hz h rfl, hz h' rfl]
  | succ k ih =>
    intro o o' n n' h h' e e'
    obtain ⟨j, h1, h2, h3⟩ := h.pre k (by omega)
    obtain ⟨j', h1', h2', h3'⟩ := h'.pre k (by omega)
    obtain ⟨e1, e2⟩ := ih h1 h1' (by rw [List.length_take]; omega) (by rw [List.length_take]; omega)
    obtain rfl : j = j' := by omega
    rw [List.take_of_length_le (by omega)] at h2 h2'
    have hn := h3 (by omega)
    have hn' := h3' (by omega)
    rw [e1] at h2 hn
    exact ⟨h2.trans h2'.symm, hn.trans hn'.symm⟩
theorem MadeP.uniq {xs : List Cel} {most : Nat} {o o' : List Cel} (h : MadeP xs most o 0) (h' : MadeP xs most o' 0) : o = o' := by
  have aux : ∀ {o o' : List Cel}, MadeP xs most o 0 → MadeP xs most o' 0 → ¬ o.length < o'.length := by
    intro o o' h h' hl
    obtain ⟨j, h1, _⟩ := h'.pre o.length hl
    have := (MadeP.det o.length h h1 rfl (by rw [List.length_take]; omega)).2
    omega
  have h1 := aux h h'
  have h2 := aux h' h
  exact (MadeP.det o.length h h' rfl (by omega)).1
structure MadeJ (xs : List Cel) (most n : Nat) (out : List Cel) : Prop extends MadeI most n out where
  path : MadeP xs most out n
theorem MadeJ.start {xs : List Cel} {most : Nat} (h : 1 ≤ most) : MadeJ xs most 1 [] := ⟨MadeI.start h, .nil⟩
theorem MadeJ.snoc {xs : List Cel} {most m : Nat} {out : List Cel} {c : Cel} (h : MadeJ xs most (m + 1) out) (hc : cellOk c = true) (hf : c.fit) (hr : out.length + (m + 1) + ar c ≤ most) (hn : nextC xs most out m = c) : MadeJ xs most (m + ar c) (out ++ [c]) :=
  ⟨h.toMadeI.snoc hc hf hr, by subst hn; exact h.path.snoc⟩
theorem MadeJ.done {xs : List Cel} {most : Nat} {out : List Cel} (h : MadeJ xs most 0 out) (hm : most ≤ 200) : rightB out = true ∧ out.length ≤ most := h.toMadeI.done hm
/-- what is made -/
def MadeIs (xs : List Cel) (most : Nat) (ys : List Cel) : Prop := (rightB xs = true ∧ xs.length ≤ most ∧ ys = xs) ∨ (¬ (rightB xs = true ∧ xs.length ≤ most) ∧ MadeP xs most ys 0)
theorem MadeIs.uniq {xs : List Cel} {most : Nat} {ys zs : List Cel} (h : MadeIs xs most ys) (k : MadeIs xs most zs) : ys = zs := by
  rcases h with ⟨h1, h2, rfl⟩ | ⟨h1, h2⟩
  · rcases k with ⟨_, _, rfl⟩ | ⟨k1, _⟩
    · rfl
    · exact absurd ⟨h1, h2⟩ k1
  · rcases k with ⟨k1, k2, _⟩ | ⟨_, k2⟩
    · exact absurd ⟨k1, k2⟩ h1
    · exact h2.uniq k2
theorem MadeAt.row {w w' : World} {a a' : Option Addr} {cap cap' : Nat} {xs ys : List Cel} (hx : Row w a cap xs) (h : MadeAt w a cap xs w' a' cap' ys) (hb : Below w.heap.size w w') : Row w' a' cap' ys := by
  rcases h with ⟨rfl, rfl, rfl⟩ | h
  · exact hx.below hb
  · exact h.row
def AtomIs (xs : List Cel) (most : Nat) (ys : List Cel) : Prop := ∃ zs, MadeIs xs most zs ∧ ys = if funB zs then zs else aL
def Made12Is (xs ys : List Cel) : Prop := ∃ zs, AtomIs xs 12 zs ∧ ys = zs.map gndC
theorem Made12Is.uniq {xs ys zs : List Cel} (h : Made12Is xs ys) (k : Made12Is xs zs) : ys = zs := by
  obtain ⟨a, ⟨b, h1, rfl⟩, rfl⟩ := h
  obtain ⟨c, ⟨d, k1, rfl⟩, rfl⟩ := k
  rw [h1.uniq k1]
theorem gnd_self : ∀ {xs : List Cel}, groundB xs = true → xs.map gndC = xs := by
  intro xs h
  unfold groundB at h
  rw [List.all_eq_true] at h
  refine (List.map_congr_left fun c hc => ?_).trans (List.map_id xs)
  have := h c hc
  unfold gndC
  rw [if_neg (by simpa using this)]; rfl
/-- a small fact is made of itself -/
theorem Made12Is.self {xs ys : List Cel} (hf : factB xs = true) (hl : xs.length ≤ 12) (h : Made12Is xs ys) : ys = xs := by
  obtain ⟨a, ⟨b, h1, rfl⟩, rfl⟩ := h
  obtain rfl : b = xs := h1.uniq (.inl ⟨fact_right hf, hl, rfl⟩)
  rw [fact_fun hf, if_pos rfl]
  exact gnd_self (fact_ground hf)
set_option maxRecDepth 100000 in
set_option maxHeartbeats 16000000 in
theorem made_det (a : Option Addr) (cap : Nat) (w : World) (xs : List Cel) (hx : Row w a cap xs) (most : Nat) (hm1 : 1 ≤ most) (hm2 : most ≤ 200) :
    Calls Try.prog 157 #[.slice a xs.length cap, .int .i64 most] w fun e w' => ∃ a' cap' ys, e = .returned (.slice a' ys.length cap') ∧ MadeAt w a cap xs w' a' cap' ys ∧ MadeIs xs most ys ∧ rightB ys = true ∧ ys.length ≤ most ∧ Below w.heap.size w w' := by
  have hm := hx.max
  have hle := hx.le
  have HX := mkHid hx
  clear hx
  go_enter Try.func157, Try.ntmps157
  go_wp2_with fail
  refine (refright_any a cap _ xs HX.out).mono ?_
  rintro e w1 ⟨rfl, hb1⟩
  by_cases hg : rightB xs = true ∧ xs.length ≤ most
  · obtain ⟨hr, hl⟩ := hg
    have t1 : decide (xs.length ≤ most) = true := by simp; omega
    have HE : Hid (∃ a' cap' ys, Ending.returned (.slice a xs.length cap) = .returned (.slice a' ys.length cap') ∧ MadeAt w a cap xs w1 a' cap' ys ∧ MadeIs xs most ys ∧ rightB ys = true ∧ ys.length ≤ most ∧ Below w.heap.size w w1) := ⟨a, cap, xs, rfl, .inl ⟨rfl, rfl, rfl⟩, .inl ⟨hr, hl, rfl⟩, hr, hl, hb1⟩
    rw [hr]
    clear hl hr
    go_wp2_with fail
    go_ret
    exact HE.out
  · have HG0 := mkHid hg
    by_cases hr : rightB xs = true
    · have t1 : decide (xs.length ≤ most) = false := by
        have : ¬ xs.length ≤ most := fun e => hg ⟨hr, e⟩
        simp; omega
      rw [hr]
      clear hr hg
      go_wp2_with fail
      have hown0 : LR (w1.alloc (.cells #[] 93)) w.heap.size (.slice (some ⟨w1.heap.size, 0, none⟩) 0 0) [] := World.ownsRow_made (base := w.heap.size) (e := 93) (size := 3) w1 #[] 0 hb1.size (by unfold maxLen; omega) rfl
      have HOWN0 := mkHid hown0
      have HMI0 := mkHid (MadeJ.start (xs := xs) hm1)
      have hb2 := hb1.new (.cells #[] 93)
      clear hown0
      go_loopw [5, 6, 7] (fun v nd i wr => ∃ (n : Nat) (out : List Cel) (g capo : Nat), nd = .int .i64 n ∧ i = .int .i64 out.length ∧ v = .slice (some ⟨g, 0, none⟩) out.length capo ∧ Hid (MadeJ xs most n out) ∧ Hid (LR wr w.heap.size (.slice (some ⟨g, 0, none⟩) out.length capo) out) ∧ Below w.heap.size w wr ∧ out.length + n ≤ most) (fun v nd i wr => most - (intOf i).toNat)
      case atStart => exact ⟨1, [], w1.heap.size, 0, rfl, rfl, rfl, HMI0, HOWN0, hb2, by simpa using hm1⟩
      case round =>
        clear HOWN0 HMI0 hb2
        obtain ⟨n, out, g, capo, rfl, rfl, rfl, HMI, HLR, hbl, hrm⟩ := hrel
        cases n with
        | zero =>
          have HE : Hid (∃ a' cap' ys, Ending.returned (.slice (some ⟨g, 0, none⟩) out.length capo) = .returned (.slice a' ys.length cap') ∧ MadeAt w a cap xs wr a' cap' ys ∧ MadeIs xs most ys ∧ rightB ys = true ∧ ys.length ≤ most ∧ Below w.heap.size w wr) := by
            obtain ⟨q1, q2⟩ := HMI.out.done hm2
            obtain ⟨a5, cap5, e5, hr5⟩ := own_new (xs := out) HLR.out HMI.out.fit
            cases e5
            exact ⟨_, _, out, rfl, .inr hr5, .inr ⟨HG0.out, HMI.out.path⟩, q1, q2, hbl⟩
          go_wp2_with fail
          go_ret
          exact HE.out
        | succ m =>
          by_cases hlt : out.length < xs.length
          · obtain ⟨b, off, rfl, hb', hat⟩ := HX.out.cases.resolve_left (fun e => by simp [e] at hlt)
            obtain ⟨c0, c1, c2, hf⟩ := cel_at hat hbl hlt
            obtain ⟨k1, k2⟩ := mask xs[out.length].k 3 (by omega)
            obtain ⟨m1, m2⟩ := mask xs[out.length].n 7 (by omega)
            obtain ⟨n1, n2⟩ := mask xs[out.length].n 3 (by omega)
            rw [show ((3 : Nat) : Int) = 3 from rfl] at k1 k2 n1 n2
            rw [show ((7 : Nat) : Int) = 7 from rfl] at m1 m2
            have t27 : decide ((out.length : Int) < (xs.length : Int)) = true := by simp; omega
            have t27n : decide (out.length < xs.length) = true := by simp; omega
            have hbw := cell_lt c0
            have hk0 : (0 : Int) ≤ (out.length : Int) := by omega
            have hk1 : (out.length : Int) < (xs.length : Int) := by omega
            have hb3 := hbl.new (.cells #[.int .i64 3, .string ⟨#[97]⟩, .int .i64 0] 93)
            have HLR3 : Hid (LR (wr.alloc (.cells #[.int .i64 3, .string ⟨#[97]⟩, .int .i64 0] 93)) w.heap.size (.slice (some ⟨g, 0, none⟩) out.length capo) out) := World.ownsRow.alloc HLR.out _
            generalize hkk : bits .and .i64 xs[out.length].k 3 = kk at k1 k2
            generalize hm7 : bits .and .i64 xs[out.length].n 7 = v7 at m1 m2
            generalize hn3 : bits .and .i64 xs[out.length].n 3 = v3 at n1 n2
            by_cases h1 : kk = 1
            · have t35 : (kk == 1) = true := by simp [h1]
              obtain ⟨q1, q2⟩ := vcel_ok v7 ⟨m1, m2⟩
              have HN := mkHid (HMI.out.snoc q1 q2 (by show out.length + (m + 1) + 0 ≤ most; omega) (by rw [next_at hlt, if_pos (by rw [hkk]; exact h1), hm7]))
              clear h1 q1 q2
              have hb4 := hbl.new (.cells #[.int .i64 1, .string ⟨#[]⟩, .int .i64 v7] 93)
              have HLR4 : Hid (LR (wr.alloc (.cells #[.int .i64 1, .string ⟨#[]⟩, .int .i64 v7] 93)) w.heap.size (.slice (some ⟨g, 0, none⟩) out.length capo) out) := World.ownsRow.alloc HLR.out _
              go_wp2_with (at_builtin; refine wpList_lay rfl _ _ rfl w.heap.size _ out (⟨1, ⟨#[]⟩, v7⟩ : Cel) HLR4.out rfl (by simp only [World.size_alloc]; rfl) hb4.size (by omega) ?_; intro v2 w2 h1 h2 h3; obtain ⟨g2, cap2, rfl⟩ := h3)
              go_round
              case rel => exact ⟨m + ar (⟨1, ⟨#[]⟩, v7⟩ : Cel), out ++ [(⟨1, ⟨#[]⟩, v7⟩ : Cel)], g2, cap2, by go_num, by simp, by simp, HN.out, by rw [Hid, List.length_append]; exact h1, hb4.trans h2, HN.out.room⟩
              case measure => simp [intOf]; omega
            · have t35 : (kk == 1) = false := by simp [h1]
              by_cases h2 : kk = 2
              · have t55 : (kk == 2) = true := by simp [h2]
                obtain ⟨q1, q2⟩ := ncel_ok v3 ⟨n1, n2⟩
                have HN := mkHid (HMI.out.snoc q1 q2 (by show out.length + (m + 1) + 0 ≤ most; omega) (by rw [next_at hlt, if_neg (by rw [hkk]; exact h1), if_pos (by rw [hkk]; exact h2), hn3]))
                clear h1 h2 q1 q2
                have hb4 := hbl.new (.cells #[.int .i64 2, .string ⟨#[]⟩, .int .i64 v3] 93)
                have HLR4 : Hid (LR (wr.alloc (.cells #[.int .i64 2, .string ⟨#[]⟩, .int .i64 v3] 93)) w.heap.size (.slice (some ⟨g, 0, none⟩) out.length capo) out) := World.ownsRow.alloc HLR.out _
                go_wp2_with (at_builtin; refine wpList_lay rfl _ _ rfl w.heap.size _ out (⟨2, ⟨#[]⟩, v3⟩ : Cel) HLR4.out rfl (by simp only [World.size_alloc]; rfl) hb4.size (by omega) ?_; intro v2 w2 h1 h2 h3; obtain ⟨g2, cap2, rfl⟩ := h3)
                go_round
                case rel => exact ⟨m + ar (⟨2, ⟨#[]⟩, v3⟩ : Cel), out ++ [(⟨2, ⟨#[]⟩, v3⟩ : Cel)], g2, cap2, by go_num, by simp, by simp, HN.out, by rw [Hid, List.length_append]; exact h1, hb4.trans h2, HN.out.room⟩
                case measure => simp [intOf]; omega
              · have t55 : (kk == 2) = false := by simp [h2]
                have HX3 : Hid (nextC xs most out m = if (out.length : Int) + ((m : Int) + 1) + v3 ≤ (most : Int) then ⟨3, nameOf xs[out.length].s, v3⟩ else aC) := by rw [Hid, next_at hlt, if_neg (by rw [hkk]; exact h1), if_neg (by rw [hkk]; exact h2), hn3]
                clear h1 h2
                by_cases hro : (out.length : Int) + ((m : Int) + 1) + v3 ≤ (most : Int)
                · have t81 : decide ((out.length : Int) + ((m : Int) + 1) + v3 ≤ (most : Int)) = true := by simp; omega
                  have HKS : Hid (∀ w', Below wr.heap.size wr w' → w'.cell? ⟨b, off + out.length * 3 + 1, none⟩ = some (.string xs[out.length].s) ∧ w'.cell? ⟨b, off + out.length * 3 + 2, none⟩ = some (.int .i64 xs[out.length].n)) := fun w' h => ⟨keep c1 h, keep c2 h⟩
                  have HB0 : Hid (Below wr.heap.size wr (wr.alloc (.cells #[.int .i64 3, .string ⟨#[97]⟩, .int .i64 0] 93)).drew) := ((Below.refl _ _).new _).drew
                  have hro2 : out.length + (m + 1) + v3.toNat ≤ most := by omega
                  have HX4 : Hid (nextC xs most out m = ⟨3, nameOf xs[out.length].s, v3⟩) := HX3.out.trans (if_pos hro)
                  clear HX3
                  clear hro
                  go_wp2_with fail
                  go_region_held3 (fun w' => w'.cell? ⟨b, off + out.length * 3 + 1, none⟩ = some (.string xs[out.length].s) ∧ w'.cell? ⟨b, off + out.length * 3 + 2, none⟩ = some (.int .i64 xs[out.length].n))
                    (first | exact HKS.out _ HB0.out | exact HKS.out _ (((Below.refl _ _).new _).drew) | exact HKS.out _ ((HB0.out).setCell (Nat.le_refl _) _) | exact HKS.out _ (((((HB0.out).setCell (p := ⟨wr.heap.size, 0, none⟩) (Nat.le_refl _) _).setCell (p := ⟨wr.heap.size, 1, none⟩) (Nat.le_refl _) _)).setCell (p := ⟨wr.heap.size, 2, none⟩) (Nat.le_refl _) _))
                    ((go_at_call 206; refine (name3_is _ _).mono ?_; rintro e w2 ⟨⟨tn, rfl, htn⟩, rfl⟩))
                  have hw5 : ∃ W5, W5 = (wr.alloc (.cells #[.int .i64 3, .string tn, .int .i64 v3] 93)).drew := ⟨_, rfl⟩
                  obtain ⟨W5, hW5⟩ := hw5
                  rw [← hW5]
                  have z0 : W5.cell? ⟨wr.heap.size, 0, none⟩ = some (.int .i64 3) := by rw [hW5]; exact World.cell?_alloc_at _ _ _ 0 rfl
                  have z1 : W5.cell? ⟨wr.heap.size, 1, none⟩ = some (.string tn) := by rw [hW5]; exact World.cell?_alloc_at _ _ _ 1 rfl
                  have z2 : W5.cell? ⟨wr.heap.size, 2, none⟩ = some (.int .i64 v3) := by rw [hW5]; exact World.cell?_alloc_at _ _ _ 2 rfl
                  have hl5 := cell_lt z0
                  have hb4 : Below w.heap.size w W5 := by rw [hW5]; exact (hbl.new _).drew
                  have HLR5 : Hid (LR W5 w.heap.size (.slice (some ⟨g, 0, none⟩) out.length capo) out) := by
                    rw [hW5]
                    exact World.ownsRow.alloc HLR.out (.cells #[.int .i64 3, .string tn, .int .i64 v3] 93)
                  obtain ⟨q1, q2⟩ := fcel_ok tn htn.2 v3 ⟨n1, n2⟩
                  have HN := mkHid (HMI.out.snoc q1 q2 (by show out.length + (m + 1) + v3.toNat ≤ most; exact hro2) (by rw [HX4.out, htn.1.out]))
                  clear hW5 q1 q2 htn
                  go_wp2_with (at_builtin; refine wpList_lay rfl _ _ rfl w.heap.size _ out (⟨3, tn, v3⟩ : Cel) HLR5.out rfl rfl hb4.size (by omega) ?_; intro v2 w2 h1 h2 h3; obtain ⟨g2, cap2, rfl⟩ := h3)
                  go_round
                  case rel => exact ⟨m + ar (⟨3, tn, v3⟩ : Cel), out ++ [(⟨3, tn, v3⟩ : Cel)], g2, cap2, (by show Value.int .i64 _ = Value.int .i64 ((m + v3.toNat : Nat) : Int); congr 1; omega), by simp, by simp, HN.out, by rw [Hid, List.length_append]; exact h1, hb4.trans h2, HN.out.room⟩
                  case measure => simp [intOf]; omega
                · have t81 : decide ((out.length : Int) + ((m : Int) + 1) + v3 ≤ (most : Int)) = false := by simp; omega
                  have HN := mkHid (HMI.out.snoc aC_ok aC_fit (by show out.length + (m + 1) + 0 ≤ most; omega) (HX3.out.trans (if_neg hro)))
                  clear hro
                  have hb4 := hbl.new (.cells #[.int .i64 3, .string ⟨#[97]⟩, .int .i64 0] 93)
                  have HLR4 : Hid (LR (wr.alloc (.cells #[.int .i64 3, .string ⟨#[97]⟩, .int .i64 0] 93)) w.heap.size (.slice (some ⟨g, 0, none⟩) out.length capo) out) := World.ownsRow.alloc HLR.out _
                  go_wp2_with (at_builtin; refine wpList_lay rfl _ _ rfl w.heap.size _ out aC HLR4.out rfl (by simp only [World.size_alloc]; rfl) hb4.size (by omega) ?_; intro v2 w2 h1 h2 h3; obtain ⟨g2, cap2, rfl⟩ := h3)
                  go_round
                  case rel => exact ⟨m + ar aC, out ++ [aC], g2, cap2, by go_num, by simp, by simp, HN.out, by rw [Hid, List.length_append]; exact h1, hb4.trans h2, HN.out.room⟩
                  case measure => simp [intOf]; omega
          · have t27 : decide ((out.length : Int) < (xs.length : Int)) = false := by simp; omega
            have t27n : decide (out.length < xs.length) = false := by simp; omega
            have HN := mkHid (HMI.out.snoc aC_ok aC_fit (by show out.length + (m + 1) + 0 ≤ most; omega) (next_end hlt))
            clear hlt
            have hb3 := hbl.new (.cells #[.int .i64 3, .string ⟨#[97]⟩, .int .i64 0] 93)
            have HLR3 : Hid (LR (wr.alloc (.cells #[.int .i64 3, .string ⟨#[97]⟩, .int .i64 0] 93)) w.heap.size (.slice (some ⟨g, 0, none⟩) out.length capo) out) := World.ownsRow.alloc HLR.out _
            go_wp2_with (at_builtin; refine wpList_lay rfl _ _ rfl w.heap.size _ out aC HLR3.out rfl (by simp only [World.size_alloc]; rfl) hb3.size (by omega) ?_; intro v2 w2 h1 h2 h3; obtain ⟨g2, cap2, rfl⟩ := h3)
            go_round
            case rel => exact ⟨m + ar aC, out ++ [aC], g2, cap2, by go_num, by simp, by simp, HN.out, by rw [Hid, List.length_append]; exact h1, hb3.trans h2, HN.out.room⟩
            case measure => simp [intOf]; omega
    · rw [show rightB xs = false by simpa using hr]
      clear hr hg
      go_wp2_with fail
      have hown0 : LR (w1.alloc (.cells #[] 93)) w.heap.size (.slice (some ⟨w1.heap.size, 0, none⟩) 0 0) [] := World.ownsRow_made (base := w.heap.size) (e := 93) (size := 3) w1 #[] 0 hb1.size (by unfold maxLen; omega) rfl
      have HOWN0 := mkHid hown0
      have HMI0 := mkHid (MadeJ.start (xs := xs) hm1)
      have hb2 := hb1.new (.cells #[] 93)
      clear hown0
      go_loopw [5, 6, 7] (fun v nd i wr => ∃ (n : Nat) (out : List Cel) (g capo : Nat), nd = .int .i64 n ∧ i = .int .i64 out.length ∧ v = .slice (some ⟨g, 0, none⟩) out.length capo ∧ Hid (MadeJ xs most n out) ∧ Hid (LR wr w.heap.size (.slice (some ⟨g, 0, none⟩) out.length capo) out) ∧ Below w.heap.size w wr ∧ out.length + n ≤ most) (fun v nd i wr => most - (intOf i).toNat)
      case atStart => exact ⟨1, [], w1.heap.size, 0, rfl, rfl, rfl, HMI0, HOWN0, hb2, by simpa using hm1⟩
      case round =>
        clear HOWN0 HMI0 hb2
        obtain ⟨n, out, g, capo, rfl, rfl, rfl, HMI, HLR, hbl, hrm⟩ := hrel
        cases n with
        | zero =>
          have HE : Hid (∃ a' cap' ys, Ending.returned (.slice (some ⟨g, 0, none⟩) out.length capo) = .returned (.slice a' ys.length cap') ∧ MadeAt w a cap xs wr a' cap' ys ∧ MadeIs xs most ys ∧ rightB ys = true ∧ ys.length ≤ most ∧ Below w.heap.size w wr) := by
            obtain ⟨q1, q2⟩ := HMI.out.done hm2
            obtain ⟨a5, cap5, e5, hr5⟩ := own_new (xs := out) HLR.out HMI.out.fit
            cases e5
            exact ⟨_, _, out, rfl, .inr hr5, .inr ⟨HG0.out, HMI.out.path⟩, q1, q2, hbl⟩
          go_wp2_with fail
          go_ret
          exact HE.out
        | succ m =>
          by_cases hlt : out.length < xs.length
          · obtain ⟨b, off, rfl, hb', hat⟩ := HX.out.cases.resolve_left (fun e => by simp [e] at hlt)
            obtain ⟨c0, c1, c2, hf⟩ := cel_at hat hbl hlt
            obtain ⟨k1, k2⟩ := mask xs[out.length].k 3 (by omega)
            obtain ⟨m1, m2⟩ := mask xs[out.length].n 7 (by omega)
            obtain ⟨n1, n2⟩ := mask xs[out.length].n 3 (by omega)
            rw [show ((3 : Nat) : Int) = 3 from rfl] at k1 k2 n1 n2
            rw [show ((7 : Nat) : Int) = 7 from rfl] at m1 m2
            have t27 : decide ((out.length : Int) < (xs.length : Int)) = true := by simp; omega
            have t27n : decide (out.length < xs.length) = true := by simp; omega
            have hbw := cell_lt c0
            have hk0 : (0 : Int) ≤ (out.length : Int) := by omega
            have hk1 : (out.length : Int) < (xs.length : Int) := by omega
            have hb3 := hbl.new (.cells #[.int .i64 3, .string ⟨#[97]⟩, .int .i64 0] 93)
            have HLR3 : Hid (LR (wr.alloc (.cells #[.int .i64 3, .string ⟨#[97]⟩, .int .i64 0] 93)) w.heap.size (.slice (some ⟨g, 0, none⟩) out.length capo) out) := World.ownsRow.alloc HLR.out _
            generalize hkk : bits .and .i64 xs[out.length].k 3 = kk at k1 k2
            generalize hm7 : bits .and .i64 xs[out.length].n 7 = v7 at m1 m2
            generalize hn3 : bits .and .i64 xs[out.length].n 3 = v3 at n1 n2
            by_cases h1 : kk = 1
            · have t35 : (kk == 1) = true := by simp [h1]
              obtain ⟨q1, q2⟩ := vcel_ok v7 ⟨m1, m2⟩
              have HN := mkHid (HMI.out.snoc q1 q2 (by show out.length + (m + 1) + 0 ≤ most; omega) (by rw [next_at hlt, if_pos (by rw [hkk]; exact h1), hm7]))
              clear h1 q1 q2
              have hb4 := hbl.new (.cells #[.int .i64 1, .string ⟨#[]⟩, .int .i64 v7] 93)
              have HLR4 : Hid (LR (wr.alloc (.cells #[.int .i64 1, .string ⟨#[]⟩, .int .i64 v7] 93)) w.heap.size (.slice (some ⟨g, 0, none⟩) out.length capo) out) := World.ownsRow.alloc HLR.out _
              go_wp2_with (at_builtin; refine wpList_lay rfl _ _ rfl w.heap.size _ out (⟨1, ⟨#[]⟩, v7⟩ : Cel) HLR4.out rfl (by simp only [World.size_alloc]; rfl) hb4.size (by omega) ?_; intro v2 w2 h1 h2 h3; obtain ⟨g2, cap2, rfl⟩ := h3)
              go_round
              case rel => exact ⟨m + ar (⟨1, ⟨#[]⟩, v7⟩ : Cel), out ++ [(⟨1, ⟨#[]⟩, v7⟩ : Cel)], g2, cap2, by go_num, by simp, by simp, HN.out, by rw [Hid, List.length_append]; exact h1, hb4.trans h2, HN.out.room⟩
              case measure => simp [intOf]; omega
            · have t35 : (kk == 1) = false := by simp [h1]
              by_cases h2 : kk = 2
              · have t55 : (kk == 2) = true := by simp [h2]
                obtain ⟨q1, q2⟩ := ncel_ok v3 ⟨n1, n2⟩
                have HN := mkHid (HMI.out.snoc q1 q2 (by show out.length + (m + 1) + 0 ≤ most; omega) (by rw [next_at hlt, if_neg (by rw [hkk]; exact h1), if_pos (by rw [hkk]; exact h2), hn3]))
                clear h1 h2 q1 q2
                have hb4 := hbl.new (.cells #[.int .i64 2, .string ⟨#[]⟩, .int .i64 v3] 93)
                have HLR4 : Hid (LR (wr.alloc (.cells #[.int .i64 2, .string ⟨#[]⟩, .int .i64 v3] 93)) w.heap.size (.slice (some ⟨g, 0, none⟩) out.length capo) out) := World.ownsRow.alloc HLR.out _
                go_wp2_with (at_builtin; refine wpList_lay rfl _ _ rfl w.heap.size _ out (⟨2, ⟨#[]⟩, v3⟩ : Cel) HLR4.out rfl (by simp only [World.size_alloc]; rfl) hb4.size (by omega) ?_; intro v2 w2 h1 h2 h3; obtain ⟨g2, cap2, rfl⟩ := h3)
                go_round
                case rel => exact ⟨m + ar (⟨2, ⟨#[]⟩, v3⟩ : Cel), out ++ [(⟨2, ⟨#[]⟩, v3⟩ : Cel)], g2, cap2, by go_num, by simp, by simp, HN.out, by rw [Hid, List.length_append]; exact h1, hb4.trans h2, HN.out.room⟩
                case measure => simp [intOf]; omega
              · have t55 : (kk == 2) = false := by simp [h2]
                have HX3 : Hid (nextC xs most out m = if (out.length : Int) + ((m : Int) + 1) + v3 ≤ (most : Int) then ⟨3, nameOf xs[out.length].s, v3⟩ else aC) := by rw [Hid, next_at hlt, if_neg (by rw [hkk]; exact h1), if_neg (by rw [hkk]; exact h2), hn3]
                clear h1 h2
                by_cases hro : (out.length : Int) + ((m : Int) + 1) + v3 ≤ (most : Int)
                · have t81 : decide ((out.length : Int) + ((m : Int) + 1) + v3 ≤ (most : Int)) = true := by simp; omega
                  have HKS : Hid (∀ w', Below wr.heap.size wr w' → w'.cell? ⟨b, off + out.length * 3 + 1, none⟩ = some (.string xs[out.length].s) ∧ w'.cell? ⟨b, off + out.length * 3 + 2, none⟩ = some (.int .i64 xs[out.length].n)) := fun w' h => ⟨keep c1 h, keep c2 h⟩
                  have HB0 : Hid (Below wr.heap.size wr (wr.alloc (.cells #[.int .i64 3, .string ⟨#[97]⟩, .int .i64 0] 93)).drew) := ((Below.refl _ _).new _).drew
                  have hro2 : out.length + (m + 1) + v3.toNat ≤ most := by omega
                  have HX4 : Hid (nextC xs most out m = ⟨3, nameOf xs[out.length].s, v3⟩) := HX3.out.trans (if_pos hro)
                  clear HX3
                  clear hro
                  go_wp2_with fail
                  go_region_held3 (fun w' => w'.cell? ⟨b, off + out.length * 3 + 1, none⟩ = some (.string xs[out.length].s) ∧ w'.cell? ⟨b, off + out.length * 3 + 2, none⟩ = some (.int .i64 xs[out.length].n))
                    (first | exact HKS.out _ HB0.out | exact HKS.out _ (((Below.refl _ _).new _).drew) | exact HKS.out _ ((HB0.out).setCell (Nat.le_refl _) _) | exact HKS.out _ (((((HB0.out).setCell (p := ⟨wr.heap.size, 0, none⟩) (Nat.le_refl _) _).setCell (p := ⟨wr.heap.size, 1, none⟩) (Nat.le_refl _) _)).setCell (p := ⟨wr.heap.size, 2, none⟩) (Nat.le_refl _) _))
                    ((go_at_call 206; refine (name3_is _ _).mono ?_; rintro e w2 ⟨⟨tn, rfl, htn⟩, rfl⟩))
                  have hw5 : ∃ W5, W5 = (wr.alloc (.cells #[.int .i64 3, .string tn, .int .i64 v3] 93)).drew := ⟨_, rfl⟩
                  obtain ⟨W5, hW5⟩ := hw5
                  rw [← hW5]
                  have z0 : W5.cell? ⟨wr.heap.size, 0, none⟩ = some (.int .i64 3) := by rw [hW5]; exact World.cell?_alloc_at _ _ _ 0 rfl
                  have z1 : W5.cell? ⟨wr.heap.size, 1, none⟩ = some (.string tn) := by rw [hW5]; exact World.cell?_alloc_at _ _ _ 1 rfl
                  have z2 : W5.cell? ⟨wr.heap.size, 2, none⟩ = some (.int .i64 v3) := by rw [hW5]; exact World.cell?_alloc_at _ _ _ 2 rfl
                  have hl5 := cell_lt z0
                  have hb4 : Below w.heap.size w W5 := by rw [hW5]; exact (hbl.new _).drew
                  have HLR5 : Hid (LR W5 w.heap.size (.slice (some ⟨g, 0, none⟩) out.length capo) out) := by
                    rw [hW5]
                    exact World.ownsRow.alloc HLR.out (.cells #[.int .i64 3, .string tn, .int .i64 v3] 93)
                  obtain ⟨q1, q2⟩ := fcel_ok tn htn.2 v3 ⟨n1, n2⟩
                  have HN := mkHid (HMI.out.snoc q1 q2 (by show out.length + (m + 1) + v3.toNat ≤ most; exact hro2) (by rw [HX4.out, htn.1.out]))
                  clear hW5 q1 q2 htn
                  go_wp2_with (at_builtin; refine wpList_lay rfl _ _ rfl w.heap.size _ out (⟨3, tn, v3⟩ : Cel) HLR5.out rfl rfl hb4.size (by omega) ?_; intro v2 w2 h1 h2 h3; obtain ⟨g2, cap2, rfl⟩ := h3)
                  go_round
                  case rel => exact ⟨m + ar (⟨3, tn, v3⟩ : Cel), out ++ [(⟨3, tn, v3⟩ : Cel)], g2, cap2, (by show Value.int .i64 _ = Value.int .i64 ((m + v3.toNat : Nat) : Int); congr 1; omega), by simp, by simp, HN.out, by rw [Hid, List.length_append]; exact h1, hb4.trans h2, HN.out.room⟩
                  case measure => simp [intOf]; omega
                · have t81 : decide ((out.length : Int) + ((m : Int) + 1) + v3 ≤ (most : Int)) = false := by simp; omega
                  have HN := mkHid (HMI.out.snoc aC_ok aC_fit (by show out.length + (m + 1) + 0 ≤ most; omega) (HX3.out.trans (if_neg hro)))
                  clear hro
                  have hb4 := hbl.new (.cells #[.int .i64 3, .string ⟨#[97]⟩, .int .i64 0] 93)
                  have HLR4 : Hid (LR (wr.alloc (.cells #[.int .i64 3, .string ⟨#[97]⟩, .int .i64 0] 93)) w.heap.size (.slice (some ⟨g, 0, none⟩) out.length capo) out) := World.ownsRow.alloc HLR.out _
                  go_wp2_with (at_builtin; refine wpList_lay rfl _ _ rfl w.heap.size _ out aC HLR4.out rfl (by simp only [World.size_alloc]; rfl) hb4.size (by omega) ?_; intro v2 w2 h1 h2 h3; obtain ⟨g2, cap2, rfl⟩ := h3)
                  go_round
                  case rel => exact ⟨m + ar aC, out ++ [aC], g2, cap2, by go_num, by simp, by simp, HN.out, by rw [Hid, List.length_append]; exact h1, hb4.trans h2, HN.out.room⟩
                  case measure => simp [intOf]; omega
          · have t27 : decide ((out.length : Int) < (xs.length : Int)) = false := by simp; omega
            have t27n : decide (out.length < xs.length) = false := by simp; omega
            have HN := mkHid (HMI.out.snoc aC_ok aC_fit (by show out.length + (m + 1) + 0 ≤ most; omega) (next_end hlt))
            clear hlt
            have hb3 := hbl.new (.cells #[.int .i64 3, .string ⟨#[97]⟩, .int .i64 0] 93)
            have HLR3 : Hid (LR (wr.alloc (.cells #[.int .i64 3, .string ⟨#[97]⟩, .int .i64 0] 93)) w.heap.size (.slice (some ⟨g, 0, none⟩) out.length capo) out) := World.ownsRow.alloc HLR.out _
            go_wp2_with (at_builtin; refine wpList_lay rfl _ _ rfl w.heap.size _ out aC HLR3.out rfl (by simp only [World.size_alloc]; rfl) hb3.size (by omega) ?_; intro v2 w2 h1 h2 h3; obtain ⟨g2, cap2, rfl⟩ := h3)
            go_round
            case rel => exact ⟨m + ar aC, out ++ [aC], g2, cap2, by go_num, by simp, by simp, HN.out, by rw [Hid, List.length_append]; exact h1, hb3.trans h2, HN.out.room⟩
            case measure => simp [intOf]; omega
set_option maxHeartbeats 1600000 in
set_option maxRecDepth 100000 in
theorem atom3_det (a : Option Addr) (cap : Nat) (w : World) (xs : List Cel) (hx : Row w a cap xs) (most : Nat) (hm1 : 1 ≤ most) (hm2 : most ≤ 200) :
    Calls Try.prog 82 #[.slice a xs.length cap, .int .i64 most] w fun e w' => ∃ a' cap' ys, e = .returned (.slice a' ys.length cap') ∧ Row w' a' cap' ys ∧ AtomIs xs most ys ∧ rightB ys = true ∧ funB ys = true ∧ ys.length ≤ most ∧ Below w.heap.size w w' := by
  go_enter Try.func82, Try.ntmps82
  go_wp2_with fail
  refine (made_det a cap w xs hx most hm1 hm2).mono ?_
  rintro e w1 ⟨a1, c1, ys, rfl, hr1, hM, hR, hl, hb1⟩
  replace hr1 := MadeAt.row hx hr1 hb1
  have HM := mkHid hM
  clear hM
  have h0 : 0 < ys.length := by obtain ⟨t, _, hxt, _⟩ := right_tm hR; rw [hxt]; exact flat_pos t
  obtain ⟨b, off, rfl, hb, hat⟩ := hr1.cases.resolve_left (fun e => by simp [e] at h0)
  obtain ⟨c0, _, _, _⟩ := cel_at hat (Below.refl _ _) h0
  simp only [Nat.zero_mul, Nat.add_zero] at c0
  have hmx := hr1.max
  have hle := hr1.le
  have HR := mkHid hR
  clear hR
  by_cases h3 : ys[0].k = 3
  · have t3 : (ys[0].k == 3) = true := by simp [h3]
    have HF : Hid (funB ys = true) := by
      unfold Hid
      cases ys with
      | nil => simp at h0
      | cons c l => simpa [funB] using h3
    clear h3
    go_wp2_with fail
    go_ret
    exact ⟨_, c1, ys, rfl, hr1, ⟨ys, HM.out, by rw [HF.out]; rfl⟩, HR.out, HF.out, hl, hb1⟩
  · have t3 : (ys[0].k == 3) = false := by simp [h3]
    have HF : Hid (funB ys = false) := by
      unfold Hid
      cases ys with
      | nil => simp at h0
      | cons c l => simpa [funB] using h3
    clear h3
    go_wp2_with fail
    go_ret
    exact ⟨_, 1, aL, rfl, aL_row w1, ⟨ys, HM.out, by rw [HF.out]; rfl⟩, fact_right aL_fact, rfl, hm1, hb1.new _⟩

set_option maxHeartbeats 3200000 in
set_option maxRecDepth 100000 in
theorem made12_det (a : Option Addr) (cap : Nat) (w : World) (xs : List Cel) (hx : Row w a cap xs) :
    Calls Try.prog 36 #[.slice a xs.length cap] w fun e w' => ∃ a' cap' ys, e = .returned (.slice a' ys.length cap') ∧ NewRow w.heap.size w' a' cap' ys ∧ Made12Is xs ys ∧ factB ys = true ∧ ys.length ≤ 12 ∧ Below w.heap.size w w' := by
  have hb0 := (Below.refl w.heap.size w).new (.cells #[] 93)
  have hm0 := AccInv.made (α := Cel) (B := w.heap.size) (e := 93) (T := 93) w (Nat.le_refl _) rfl
  have hg0 : (w.alloc (.cells #[] 93)).heap[w.heap.size]? = some (.cells #[] 93 (0, 0)) := heap_alloc_new _ _
  have hx0 := hx.below hb0
  go_enter Try.func36, Try.ntmps36
  go_wp2_with fail
  refine (atom3_det a cap _ xs hx0 12 (by omega) (by omega)).mono ?_
  rintro e w1 ⟨a1, c1, ys, rfl, hr1, hAI, hR, hF, hl, hb1⟩
  have HAI := mkHid hAI
  clear hAI
  have hacc1 := hm0.below hb1
  have hrh : Row (hide (some w.heap.size) w1) a1 c1 ys := hr1.keeps (hide_bare ((hb1.block _ (by simp)).trans hg0))
  have hb01 := hb0.then hb1
  have hsz1 := hb01.size
  obtain ⟨t, ht, hxt, h200⟩ := right_tm hR
  have h0 : 0 < ys.length := by rw [hxt]; exact flat_pos t
  have HG := mkHid (gnd_fact ht (by rw [← hxt]; exact h200) (by rw [← hxt]; exact hF))
  have HX := mkHid hxt
  clear hR hF hxt ht h200
  go_wp2_with (at_builtin; refine wpList_accs (α := Cel) rfl _ _ 30 rfl w.heap.size 93 32 _ Try.underlying30 Try.infoCell rfl (by decide) _ [] hacc1 (by rfl) _ _ ys hrh (by rfl) (by simp; omega) hsz1 ?_; intro v9 w9 hacc9 hb9)
  rw [List.nil_append] at hacc9
  obtain ⟨vs, hown, hcr⟩ := hacc9.ex
  obtain ⟨rfl, hfit⟩ := crows_cels hcr
  have HFIT := mkHid hfit
  have hb09 := hb01.trans (hb9.mono (Nat.le_refl _))
  clear hacc9 hcr hfit hacc1 hm0 hg0 hb9
  obtain ⟨g, cp, rfl, hg1, hg2, hg3, hg4⟩ := own_form hown h0
  go_wp2_with fail
  go_loopw [4] (fun i wr => ∃ k : Nat, k ≤ ys.length ∧ i = .int .i64 k ∧ wr.ownsRow w.heap.size 93 3 (.slice (some ⟨g, 0, none⟩) ys.length cp) ys.length (flat (upTo gndC ys k)) ∧ Below w.heap.size w wr) (fun i wr => ys.length - (intOf i).toNat)
  case atStart => exact ⟨0, Nat.zero_le _, rfl, by rw [upTo_zero]; exact hown, hb09⟩
  case round =>
    clear hown
    obtain ⟨k, hk, rfl, hown, hbl⟩ := hrel
    have hgl := (hown.lt g rfl).2
    by_cases hlt : k < ys.length
    · obtain ⟨o0, o1, o2⟩ := own_cel hown (upTo_at _ _ hlt)
      have hz0 := own_free hown (k * 3)
      have hz1 := own_free hown (k * 3 + 1)
      have hz2 := own_free hown (k * 3 + 2)
      by_cases h1 : ys[k].k = 1
      · have t1 : (ys[k].k == 1) = true := by simp [h1]
        have hs := own_store3 hown hlt (show gndC ys[k] = ⟨2, ⟨#[]⟩, ys[k].n⟩ from if_pos h1)
        have HS := mkHid hs
        have HB := mkHid (((hbl.setCell (p := ⟨g, k * 3, none⟩) hg1 (.int .i64 2)).setCell (p := ⟨g, k * 3 + 1, none⟩) hg1 (.string ⟨#[]⟩)).setCell (p := ⟨g, k * 3 + 2, none⟩) hg1 (.int .i64 ys[k].n))
        clear h1 hs
        go_wp2
        go_round
        case rel => exact ⟨k + 1, by omega, by go_num, HS.out, HB.out⟩
        case measure => simp [intOf]; omega
      · have t1 : (ys[k].k == 1) = false := by simp [h1]
        have HE := mkHid (upTo_same gndC ys hlt (if_neg h1))
        clear h1
        go_wp2
        go_round
        case rel => exact ⟨k + 1, by omega, by go_num, by rw [HE.out]; exact hown, hbl⟩
        case measure => simp [intOf]; omega
    · have hu := upTo_all gndC ys (k := k) (by omega)
      rw [hu] at hown
      have hml : (ys.map gndC).length = ys.length := by simp
      have hfm : ∀ c ∈ ys.map gndC, c.fit := fun c hc => by
        obtain ⟨c', hc', rfl⟩ := List.mem_map.1 hc
        exact gnd_fit (HFIT.out c' hc')
      obtain ⟨a2, cap2, ev, hrow⟩ := own_new (xs := ys.map gndC) (by rw [hml]; exact hown) hfm
      rw [hml] at ev
      injection ev with ev1 _ ev2
      subst ev1
      subst ev2
      obtain ⟨d, hd⟩ : ∃ d, t.depth = d := ⟨_, rfl⟩
      have hflat : (mapT gndC t).flat = ys.map gndC := by rw [HG.out.2.1, HX.out]
      have hcall := refdepth_litF (n := ys.length) hflat HG.out.1 hml.symm (by rw [hml]; omega) hrow.row (d := d) (by rw [HG.out.2.2.1]; exact hd)
      have HC := mkHid hcall
      have HM := mkHid hml
      have HY : Hid (d ≤ 12 → factB (ys.map gndC) = true) := fun h => by
        have := HG.out.2.2.2 (by rw [hd]; exact h)
        rwa [← HX.out] at this
      have hdn : (d : Int) ≤ 12 := by
        have h1 := depth_le t
        rw [← HX.out] at h1; omega
      clear hcall hu hml hflat hd
      go_wp2_with (go_at_call 83; refine HC.out.mono ?_; rintro e w2 ⟨rfl, hb2⟩)
      go_ret
      exact ⟨some ⟨g, 0, none⟩, cp, ys.map gndC, by rw [HM.out]; rfl, hrow.below hb2, ⟨ys, HAI.out, rfl⟩, HY.out (by omega), by rw [HM.out]; omega, hbl.then hb2⟩

/-- the fact that is made -/
noncomputable def madeF (xs : List Cel) : List Cel := open Classical in if h : ∃ ys, Made12Is xs ys then h.choose else []
theorem madeF_is {xs ys : List Cel} (h : Made12Is xs ys) : ys = madeF xs := by
  unfold madeF
  rw [dif_pos ⟨ys, h⟩]
  exact h.uniq (Exists.choose_spec (⟨ys, h⟩ : ∃ ys, Made12Is xs ys))
/-- it is made just so (where any world can lay the cells: that it is a fact is told by the call) -/
theorem made12_is (a : Option Addr) (cap : Nat) (w : World) (xs : List Cel) (hx : Row w a cap xs) :
    Calls Try.prog 36 #[.slice a xs.length cap] w fun e w' => ∃ a' cap', e = .returned (.slice a' (madeF xs).length cap') ∧ NewRow w.heap.size w' a' cap' (madeF xs) ∧ factB (madeF xs) = true ∧ (madeF xs).length ≤ 12 ∧ (factB xs = true → xs.length ≤ 12 → madeF xs = xs) ∧ Below w.heap.size w w' := by
  refine (made12_det a cap w xs hx).mono ?_
  rintro e w' ⟨a', cap', ys, rfl, hr, hm, hf, hl, hb⟩
  have he := madeF_is hm
  rw [← he]
  exact ⟨a', cap', rfl, hr, hf, hl, fun h1 h2 => hm.self h1 h2, hb⟩
end Go.Proofs.Ytnpffificfghpaa
set_option linter.unusedVariables false
namespace Go.Proofs.Ytnpffificfghpaa
open Go.RowKit

/-! ### what the laws use -/
theorem one13_any (n : Int) (h1 : -9223372036854775808 ≤ n) (h2 : n ≤ 9223372036854775807) (w : World) :
    Calls Try.prog 37 #[.int .i64 n] w fun e w' => ∃ a, e = .returned (.slice a 2 2) ∧ NewRow w.heap.size w' a 2 (oneF n) ∧ Below w.heap.size w w' := by
  have hb := (Below.refl w.heap.size w).new (.cells #[.int .i64 3, .string ⟨#[112]⟩, .int .i64 1, .int .i64 2, .string ⟨#[]⟩, .int .i64 n] 93)
  have hown : (w.alloc (.cells #[.int .i64 3, .string ⟨#[112]⟩, .int .i64 1, .int .i64 2, .string ⟨#[]⟩, .int .i64 n] 93)).ownsRow w.heap.size 93 3 (.slice (some ⟨w.heap.size, 0, none⟩) 2 2) 2 (flat (oneF n)) := by
    have := World.ownsRow_lit (base := w.heap.size) (e := 93) (size := 3) w #[.int .i64 3, .string ⟨#[112]⟩, .int .i64 1, .int .i64 2, .string ⟨#[]⟩, .int .i64 n] 2 (Nat.le_refl _) (by unfold maxLen; omega) rfl
    simpa [flat, oneF] using this
  obtain ⟨a2, c2, e2, hr⟩ := own_new (xs := oneF n) (by simpa [oneF] using hown) (fun c hc => by
    simp [oneF] at hc
    rcases hc with rfl | rfl
    · exact ⟨by simp, by simp, by simp, by simp, by show (1 : Nat) ≤ _; omega⟩
    · exact ⟨by simp, by simp, h1, h2, by show (0 : Nat) ≤ _; omega⟩)
  have e3 : (oneF n).length = 2 := rfl
  rw [e3] at e2
  injection e2 with e2 _ e4
  subst e2; subst e4
  go_enter Try.func37, Try.ntmps37
  go_wp2
  go_ret
  exact ⟨_, rfl, hr, hb⟩

def GrP (l : List (List Cel)) (cs : List Lt) (e : Ending) : Prop := ∃ b, e = .returned (.bool b) ∧ (b = false → l.length ≤ 60 ∧ cs.length ≤ 60)
def SomeB (e : Ending) : Prop := ∃ b, e = .returned (.bool b)
set_option maxHeartbeats 1600000 in
theorem great13_any (a : Option Addr) (cap : Nat) (l : List (List Cel)) (a' : Option Addr) (cap' : Nat) (cs : List Lt) (w : World) (hr : Row w a cap l) (hc : Row w a' cap' cs) :
    Calls Try.prog 32 #[.slice a l.length cap, .slice a' cs.length cap'] w fun e w' => GrP l cs e ∧ Below w.heap.size w w' := by
  have hm := hr.max
  have hm2 := hr.le
  have hm3 := hc.max
  have hm4 := hc.le
  by_cases hg : 60 < l.length
  · go_enter Try.func32, Try.ntmps32
    go_wp2
    go_ret
    exact ⟨⟨true, rfl, by simp⟩, Below.refl _ _⟩
  · by_cases hg2 : 60 < cs.length
    · go_enter Try.func32, Try.ntmps32
      go_wp2
      go_ret
      exact ⟨⟨true, rfl, by simp⟩, Below.refl _ _⟩
    · go_enter Try.func32, Try.ntmps32
      go_wp2
      go_loopw [5] (fun i wr => ∃ k : Nat, k ≤ l.length ∧ i = .int .i64 k ∧ Below w.heap.size w wr) (fun i wr => l.length - (intOf i).toNat)
      case atStart => exact ⟨0, Nat.zero_le _, rfl, Below.refl _ _⟩
      case round =>
        obtain ⟨k, hk, rfl, hbl⟩ := hrel
        by_cases hlt : k < l.length
        · obtain ⟨b, off, rfl, hb, hat⟩ := hr.cases.resolve_left (fun e => by simp [e] at hlt)
          obtain ⟨a1, c1, d0, hr1⟩ := list_at hat hbl hlt
          have hm5 := hr1.max
          have hm6 := hr1.le
          by_cases hx : 300 < l[k].length
          · go_wp2
            go_ret
            exact ⟨⟨true, rfl, by simp⟩, hbl⟩
          · go_wp2
            go_round
            case rel => exact ⟨k + 1, by omega, by go_num, hbl⟩
            case measure => simp [intOf]; omega
        · go_wp2
          go_loopw [6] (fun i wr2 => ∃ k2 : Nat, k2 ≤ cs.length ∧ i = .int .i64 k2 ∧ Below w.heap.size w wr2) (fun i wr2 => cs.length - (intOf i).toNat)
          case atStart => exact ⟨0, Nat.zero_le _, rfl, hbl⟩
          case round =>
            obtain ⟨k2, hk2, rfl, hbl2⟩ := hrel
            by_cases hlt2 : k2 < cs.length
            · obtain ⟨b, off, rfl, hb, hat⟩ := hc.cases.resolve_left (fun e => by simp [e] at hlt2)
              obtain ⟨a1, c1, d0, d1, hr1⟩ := lt_at hat hbl2 hlt2
              have hm5 := hr1.max
              have hm6 := hr1.le
              by_cases hx : 300 < cs[k2].t.length
              · go_wp2
                go_ret
                exact ⟨⟨true, rfl, by simp⟩, hbl2⟩
              · go_wp2
                go_round
                case rel => exact ⟨k2 + 1, by omega, by go_num, hbl2⟩
                case measure => simp [intOf]; omega
            · go_wp2
              go_ret
              exact ⟨⟨false, rfl, fun _ => ⟨by omega, by omega⟩⟩, hbl2⟩

set_option maxHeartbeats 1600000 in
set_option maxRecDepth 100000 in
theorem greatB13_any (a : Option Addr) (c : Nat) (f : List (List Cel)) (v : Int) (on : Bool) (a' : Option Addr) (c' : Nat) (td : List Lt) (w : World) (h : BR w a c f a' c' td) :
    Calls Try.prog 14 #[.agg #[.slice a f.length c, .int .i64 v, .bool on, .slice a' td.length c']] w fun e w' => SomeB e ∧ Below w.heap.size w w' := by
  obtain ⟨W, hW⟩ : ∃ W, w.alloc (.cells #[.slice a f.length c, .int .i64 v, .bool on, .slice a' td.length c'] 25) = W := ⟨_, rfl⟩
  have hb0 : Below w.heap.size w W := by rw [← hW]; exact (Below.refl _ _).new _
  have HX : Hid (BX W w.heap.size a c f v on a' c' td) := by rw [Hid, ← hW]; exact BX.made h
  have hm := h.f.max
  have hm2 := h.f.le
  have hm3 := h.t.max
  have hm4 := h.t.le
  obtain ⟨e0, e1, e2, e3⟩ := HX.out.cells
  clear h
  by_cases hg : 600 < f.length
  · go_enter Try.func14, Try.ntmps14
    go_wp2
    go_ret
    first | rw [hW] | skip
    exact ⟨⟨true, rfl⟩, hb0⟩
  · by_cases hg2 : 200 < td.length
    · go_enter Try.func14, Try.ntmps14
      go_wp2
      go_ret
      first | rw [hW] | skip
      exact ⟨⟨true, rfl⟩, hb0⟩
    · go_enter Try.func14, Try.ntmps14
      go_wp2
      first | rw [hW] | skip
      go_loopw [3] (fun i wr => ∃ k : Nat, k ≤ f.length ∧ i = .int .i64 k ∧ Hid (Below W.heap.size W wr)) (fun i wr => f.length - (intOf i).toNat)
      case atStart => exact ⟨0, Nat.zero_le _, rfl, Below.refl _ _⟩
      case round =>
        obtain ⟨k, hk, rfl, HBL⟩ := hrel
        clear e0 e1 e2 e3
        obtain ⟨e0, e1, e2, e3⟩ := (HX.out.below HBL.out).cells
        by_cases hlt : k < f.length
        · obtain ⟨b, off, rfl, hb, hat⟩ := HX.out.2.f.cases.resolve_left (fun e => by simp [e] at hlt)
          obtain ⟨a1, c1, d0, hr1⟩ := list_at hat HBL.out hlt
          have hm5 := hr1.max
          have hm6 := hr1.le
          by_cases hx : 60 < f[k].length
          · go_wp2
            go_ret
            exact ⟨⟨true, rfl⟩, hb0.then HBL.out⟩
          · go_wp2
            go_round
            case rel => exact ⟨k + 1, by omega, by go_num, HBL⟩
            case measure => simp [intOf]; omega
        · go_wp2
          go_loopw [4] (fun i wr2 => ∃ k2 : Nat, k2 ≤ td.length ∧ i = .int .i64 k2 ∧ Hid (Below W.heap.size W wr2)) (fun i wr2 => td.length - (intOf i).toNat)
          case atStart => exact ⟨0, Nat.zero_le _, rfl, HBL⟩
          case round =>
            clear e0 e1 e2 e3
            obtain ⟨k2, hk2, rfl, HB2⟩ := hrel
            obtain ⟨e0, e1, e2, e3⟩ := (HX.out.below HB2.out).cells
            by_cases hlt2 : k2 < td.length
            · obtain ⟨b, off, rfl, hb, hat⟩ := HX.out.2.t.cases.resolve_left (fun e => by simp [e] at hlt2)
              obtain ⟨a1, c1, d0, d1, hr1⟩ := lt_at hat HB2.out hlt2
              have hm5 := hr1.max
              have hm6 := hr1.le
              by_cases hx : 60 < td[k2].t.length
              · go_wp2
                go_ret
                exact ⟨⟨true, rfl⟩, hb0.then HB2.out⟩
              · go_wp2
                go_round
                case rel => exact ⟨k2 + 1, by omega, by go_num, HB2⟩
                case measure => simp [intOf]; omega
            · go_wp2
              go_ret
              exact ⟨⟨false, rfl⟩, hb0.then HB2.out⟩

set_option maxRecDepth 100000 in
theorem made13_any (a : Option Addr) (cap : Nat) (l : List (List Cel)) (w : World) (hr : Row w a cap l) :
    Calls Try.prog 17 #[.slice a l.length cap] w fun e w' => ∃ a2 c2 f, e = .returned (.agg #[.slice a2 f.length c2, .int .i64 0, .bool false, .slice none 0 0]) ∧ Row w' a2 c2 f ∧ FR f ∧ f.length ≤ 40 ∧ Below w.heap.size w w' := by
  obtain ⟨W, hW⟩ : ∃ W, w.alloc (.cells #[.slice none 0 0, .int .i64 0, .bool false, .slice none 0 0] 25) = W := ⟨_, rfl⟩
  have hb0 : Below w.heap.size w W := by rw [← hW]; exact (Below.refl _ _).new _
  have HX : Hid (BX W w.heap.size none 0 [] 0 false none 0 []) := by rw [Hid, ← hW]; exact BX.made (noB_row w)
  have hr0 := hr.below hb0
  go_enter Try.func17, Try.ntmps17
  go_wp2_with fail
  first | rw [hW] | skip
  refine (row12_any a cap W l hr0 40 (by omega)).mono ?_
  rintro e w2 ⟨a2, c2, f, rfl, hr2, hF, hl, hb2⟩
  have HF := mkHid hF
  have HX2 := mkHid (HX.out.below hb2)
  have HR2 := mkHid hr2
  obtain ⟨l0, l1, l2, l3⟩ := HX2.out.cells
  obtain ⟨k0, k1, k2, k3⟩ := HX2.out.free
  have HB2 := mkHid (hb0.then hb2)
  clear hF hb2 hr2 hr0 hb0
  go_wp2_with fail
  refine bodyPost_ret (v := .agg #[.slice a2 f.length c2, .int .i64 0, .bool false, .slice none 0 0]) (by simp [results, Try.results17, go_sem, *]) rfl ⟨a2, c2, f, rfl, HX2.out.rows4 HF.out.ne HR2.out _ _ _ _, HF.out, hl, below_four HB2.out (Nat.le_refl _) _ _ _ _⟩

set_option maxHeartbeats 1600000 in
theorem last13_any (a : Option Addr) (cap : Nat) (cs : List Lt) (a' : Option Addr) (cap' : Nat) (t : List Cel) (w : World) (hr : Row w a cap cs) (ht : Row w a' cap' t) (r : Int) (hR : Hid (lastG 0 cs t = r)) :
    Calls Try.prog 35 #[.slice a cs.length cap, .slice a' t.length cap'] w fun e w' => e = .returned (.int .i64 r) ∧ Below w.heap.size w w' := by
  have hm := hr.max
  have hm2 := hr.le
  go_enter Try.func35, Try.ntmps35
  go_wp2
  go_loopw [5, 6] (fun n i wr => ∃ (k : Nat) (z : Int), k ≤ cs.length ∧ i = .int .i64 k ∧ n = .int .i64 z ∧ Below w.heap.size w wr ∧ Hid (lastG 0 (cs.take k) t = z)) (fun n i wr => cs.length - (intOf i).toNat)
  case atStart => exact ⟨0, 0, Nat.zero_le _, rfl, rfl, Below.refl _ _, rfl⟩
  case round =>
    obtain ⟨k, z, hk, rfl, rfl, hbl, HS⟩ := hrel
    by_cases hlt : k < cs.length
    · obtain ⟨b, off, rfl, hb, hat⟩ := hr.cases.resolve_left (fun e => by simp [e] at hlt)
      obtain ⟨a1, c1, d0, d1, hr1⟩ := lt_at hat hbl hlt
      have ht1 := ht.below hbl
      by_cases he : cs[k].t = t
      · have HD := mkHid (decide_eq_true he)
        cases hn : cs[k].neg with
        | true =>
          have HT : Hid (lastG 0 (cs.take (k + 1)) t = 2) := by rw [Hid, last_take hlt, if_pos he, hn]; rfl
          rw [hn] at d0
          clear HS he hn
          go_wp2_with (go_at_call 60; refine (refsameF_is hr1 ht1 HD).mono ?_; rintro e w' ⟨rfl, hb1⟩; have d01 := keep d0 hb1)
          go_round
          case rel => exact ⟨k + 1, 2, by omega, by go_num, rfl, hbl.then hb1, HT⟩
          case measure => simp [intOf]; omega
        | false =>
          have HT : Hid (lastG 0 (cs.take (k + 1)) t = 1) := by rw [Hid, last_take hlt, if_pos he, hn]; rfl
          rw [hn] at d0
          clear HS he hn
          go_wp2_with (go_at_call 60; refine (refsameF_is hr1 ht1 HD).mono ?_; rintro e w' ⟨rfl, hb1⟩; have d01 := keep d0 hb1)
          go_round
          case rel => exact ⟨k + 1, 1, by omega, by go_num, rfl, hbl.then hb1, HT⟩
          case measure => simp [intOf]; omega
      · have HD := mkHid (decide_eq_false he)
        have HT : Hid (lastG 0 (cs.take (k + 1)) t = z) := by rw [Hid, last_take hlt, if_neg he, HS.out]
        clear HS he
        go_wp2_with (go_at_call 60; refine (refsameF_is hr1 ht1 HD).mono ?_; rintro e w' ⟨rfl, hb1⟩)
        go_round
        case rel => exact ⟨k + 1, z, by omega, by go_num, rfl, hbl.then hb1, HT⟩
        case measure => simp [intOf]; omega
    · have HF : Hid (z = r) := by have h := HS.out; rw [List.take_of_length_le (by omega), hR.out] at h; exact h.symm
      clear HS
      go_wp2
      go_ret
      exact ⟨ret_int HF.out, hbl⟩
end Go.Proofs.Ytnpffificfghpaa
set_option linter.unusedVariables false
namespace Go.Proofs.Ytnpffificfghpaa
open Go.RowKit

/-! ### Change, its rows off some blocks -/
theorem veil_br {us vs : List Nat} {w W : World} {a a' : Option Addr} {c c' : Nat} {f : List (List Cel)} {td : List Lt} (h : BR (veil us w) a c f a' c' td) (hf : Fr us w W) (hv : ∀ k ∈ vs, k ∈ us ∨ w.heap.size ≤ k) : BR (veil vs W) a c f a' c' td := h.keeps (veil_toR hf hv)
theorem copV_any (us : List Nat) (w : World) (hu : ∀ k ∈ us, k < w.heap.size) (a : Option Addr) (c : Nat) (f : List (List Cel)) (v : Int) (on : Bool) (a' : Option Addr) (c' : Nat) (td : List Lt) (h : BR (veil us w) a c f a' c' td) (ok : OkB f td) :
    Calls Try.prog 73 #[.agg #[.slice a f.length c, .int .i64 v, .bool on, .slice a' td.length c']] w fun e w' =>
      ∃ a2 c2 a3 c3, e = .returned (.agg #[.slice a2 f.length c2, .int .i64 v, .bool on, .slice a3 td.length c3]) ∧ Row (veil ((Value.slice a3 td.length c3).ownBlock.toList ++ us) w') a2 c2 f ∧ VOwn (veil ((Value.slice a3 td.length c3).ownBlock.toList ++ us) w') w.heap.size 32 td (.slice a3 td.length c3) w' ∧ Below w.heap.size w w' :=
  copied_any us w ⟨f, v, on, td⟩ a c a' c' hu h.f h.t (Nat.le_trans ok.fr.len (by decide)) ok.fr.small ok.len (fun x hx => Nat.le_trans (fact_len (ok.fa x hx)) (by decide))

set_option maxHeartbeats 6400000 in
set_option maxRecDepth 100000 in
theorem changeV_yes (us : List Nat) (w : World) (hu : ∀ k ∈ us, k < w.heap.size) (a : Option Addr) (c : Nat) (f : List (List Cel)) (v : Int) (a' : Option Addr) (c' : Nat) (td : List Lt) (ya : Option Addr) (yc : Nat) (y : Lt) (h : BR (veil us w) a c f a' c' td) (ok : OkB f td) (hy : Row w ya yc y.t) (hF : factB y.t = true) :
    Calls Try.prog 20 #[.agg #[.slice a f.length c, .int .i64 v, .bool true, .slice a' td.length c'], .agg #[.bool y.neg, .slice ya y.t.length yc]] w fun e w' =>
      ∃ a2 c2 a3 c3, e = .returned (.tuple #[.agg #[.slice a2 f.length c2, .int .i64 v, .bool true, .slice a3 (td.length + 1) c3], .int .i64 0]) ∧ BR (veil us w') a2 c2 f a3 c3 (td ++ [y]) ∧ Below w.heap.size w w' := by
  obtain ⟨W, hW⟩ : ∃ W, ((w.alloc (.cells #[.slice a f.length c, .int .i64 v, .bool true, .slice a' td.length c'] 25)).alloc (.cells #[.bool y.neg, .slice ya y.t.length yc] 32)).alloc (.cells #[.slice none 0 0, .int .i64 0, .bool false, .slice none 0 0] 25) = W := ⟨_, rfl⟩
  have HE : Hid (Ent3 w W a c f v true a' c' td ya yc y) := by rw [Hid, ← hW]; exact ent3_made (h.keeps (veil_keeps _ _))
  have HWZ : Hid (W.heap.size = w.heap.size + 3) := HE.out.size
  obtain ⟨ub, hub⟩ : ∃ ub, (w.heap.size + 2) :: us = ub := ⟨_, rfl⟩
  have HUB : Hid (∀ k ∈ ub, k < W.heap.size) := by
    rw [Hid, ← hub]
    intro k hk
    have h1 := HWZ.out
    rcases List.mem_cons.1 hk with h | h
    · omega
    · have := hu k h; omega
  have HUM : Hid (w.heap.size + 2 ∈ ub ∧ ∀ k ∈ us, k ∈ ub) := by rw [Hid, ← hub]; exact ⟨List.mem_cons_self, fun k h => List.mem_cons_of_mem _ h⟩
  have hbub : BR (veil ub W) a c f a' c' td := veil_br h (Fr.of HE.out.bel) fun k hk => by
    rw [← hub] at hk
    rcases List.mem_cons.1 hk with h | h
    · right; omega
    · exact .inl h
  have HC := mkHid (copV_any ub W HUB.out a c f v true a' c' td hbub ok)
  have HY := mkHid (hy.below HE.out.bel)
  have hyl := hy.le
  have hym := hy.max
  have HF := mkHid hF
  have hyl2 : y.t.length ≤ 1000000 := Nat.le_trans (fact_len hF) (by decide)
  have htl := ok.len
  obtain ⟨e0, e1, e2, e3⟩ := HE.out.arg.cells
  clear h ok hy hF hub hbub
  go_enter Try.func20, Try.ntmps20
  go_wp2_with fail
  first | rw [hW] | skip
  clear hW
  refine HC.out.mono ?_
  rintro e w2 ⟨a2, c2, a3, c3, rfl, hrf, hown, hb2⟩
  have HBL := mkHid (HE.out.bel.then hb2)
  have HS2 : Hid (w.heap.size + 3 ≤ w2.heap.size) := by have h1 := HE.out.size; have h2 := hb2.size; rw [Hid]; omega
  have HA2 := mkHid (HE.out.arg.below hb2)
  have HR2 := mkHid (HE.out.res.below hb2)
  have HG2 := mkHid ((hb2.block _ (by have h1 := HE.out.size; omega)).trans HE.out.chg)
  obtain ⟨bs, hbs⟩ : ∃ bs, (Value.slice a3 td.length c3).ownBlock.toList = bs := ⟨_, rfl⟩
  rw [hbs] at hrf hown
  have HBS : Hid (∀ k ∈ bs, W.heap.size ≤ k ∧ k < w2.heap.size) := by
    rw [Hid, ← hbs]
    exact fun k hk => hown.lt k (by simpa using hk)
  have HOB0 : Hid (∀ k, (Value.slice a3 td.length c3).ownBlock = some k → k ∈ bs) := fun k hk => by rw [← hbs, hk]; simp
  clear hbs
  obtain ⟨w3, hw3⟩ : ∃ w3, w2.alloc (.cells #[.slice a2 f.length c2, .int .i64 v, .bool true, .slice a3 td.length c3] 25) = w3 := ⟨_, rfl⟩
  have hb3 : Below w2.heap.size w2 w3 := by rw [← hw3]; exact (Below.refl _ _).new _
  have HBX : Hid (w3.heap[w2.heap.size]? = some (.cells #[.slice a2 f.length c2, .int .i64 v, .bool true, .slice a3 td.length c3] 25 (0, 0))) := by rw [Hid, ← hw3]; exact heap_alloc_new _ _
  have HZ3 : Hid (w3.heap.size = w2.heap.size + 1) := by rw [Hid, ← hw3]; simp
  have HA3 := mkHid (HA2.out.below hb3)
  have HR3 := mkHid (HR2.out.below hb3)
  have HG3 := mkHid ((hb3.block _ (by have h1 := HS2.out; omega)).trans HG2.out)
  have HBL3 := mkHid (HBL.out.then hb3)
  have HY3 := mkHid ((HY.out.below hb2).below hb3)
  obtain ⟨p0, p1, p2, p3⟩ := HA3.out.cells
  obtain ⟨m0, m1⟩ := b2_cells HG3.out
  obtain ⟨u6, hu6⟩ : ∃ u6, w2.heap.size :: bs = u6 := ⟨_, rfl⟩
  have HTO : Hid (Keeps (veil (bs ++ ub) w2) (veil (u6 ++ ub) w3)) := by
    rw [Hid, ← hu6, ← hw3]
    exact veil_toR (Fr.of ((Below.refl _ _).new _)) fun k hk => by
      rcases List.mem_append.1 hk with h | h
      · rcases List.mem_cons.1 h with h | h
        · right; omega
        · exact .inl (List.mem_append_left _ h)
      · exact .inl (List.mem_append_right _ h)
  have HOF := mkHid (hrf.keeps HTO.out)
  have HOT : Hid (VOwn (veil (u6 ++ ub) w3) W.heap.size 32 td (.slice a3 td.length c3) w3) := (hown.view HTO.out).below (by rw [← hw3]; exact (Below.refl _ _).new _)
  have HU6 : Hid (∀ k ∈ u6, w.heap.size + 3 ≤ k ∧ k < w3.heap.size) := by
    rw [Hid, ← hu6]
    intro k hk
    have h1 := HS2.out
    have h2 := HZ3.out
    have h4 := HWZ.out
    rcases List.mem_cons.1 hk with h | h
    · omega
    · have h3 := HBS.out k h; omega
  have HUA : Hid (∀ k ∈ u6 ++ ub, k < w3.heap.size) := fun k hk => by
    rcases List.mem_append.1 hk with h | h
    · exact (HU6.out k h).2
    · have h1 := HUB.out k h; have h2 := HS2.out; have h3 := HZ3.out; have h4 := HWZ.out; omega
  have HM6 : Hid (w2.heap.size ∈ u6 ∧ ∀ k ∈ bs, k ∈ u6) := by rw [Hid, ← hu6]; exact ⟨List.mem_cons_self, fun k h => List.mem_cons_of_mem _ h⟩
  have HOB : Hid (∀ k, (Value.slice a3 td.length c3).ownBlock = some k → k ∈ u6) := fun k hk => HM6.out.2 k (HOB0.out k hk)
  clear hown hrf hb2 hb3 HC HE e0 e1 e2 e3 HA2 HR2 HBL HG2 HY HTO hu6
  go_wp2_with fail
  first | rw [hw3] | skip
  clear hw3
  refine (fact_is HY3.out HF).mono ?_; rintro e w4 ⟨rfl, hb4⟩
  obtain ⟨y0, hv0⟩ : ∃ X, w4.drew = X := ⟨_, rfl⟩
  have hb5 : Below w3.heap.size w3 y0 := by rw [← hv0]; exact hb4.drew
  have HR4 := mkHid (HR3.out.below hb5)
  have HBL4 := mkHid (HBL3.out.then hb5)
  have HBX4 := mkHid ((hb5.block _ (by have h2 := HZ3.out; omega)).trans HBX.out)
  have HG4 := mkHid ((hb5.block _ (by have h1 := HS2.out; have h2 := HZ3.out; omega)).trans HG3.out)
  have HY4 := mkHid (HY3.out.below hb5)
  have HOF4 := mkHid (HOF.out.keeps (Fr.of hb5).keeps)
  have HOT4 := mkHid ((HOT.out.view (Fr.of hb5).keeps).below hb5)
  have HZ4 : Hid (w3.heap.size ≤ y0.heap.size) := hb5.size
  have HS : Hid (∀ X, Fr u6 y0 X → (fun X : World => X.cell? ⟨w.heap.size + 1, 0, none⟩ = some (.bool y.neg) ∧ X.cell? ⟨w.heap.size + 1, 1, none⟩ = some (.slice ya y.t.length yc)) X) := fun X h => by
    obtain ⟨u0, u1⟩ := b2_cells ((h.block (w.heap.size + 1) (by have h1 := HS2.out; have h2 := HZ4.out; have h3 := HZ3.out; omega) (fun hm => by have h1 := HU6.out _ hm; omega)).trans HG4.out)
    exact ⟨u0, u1⟩
  clear hb4 hb5 p0 p1 p2 p3 m0 m1 HR3 HBL3 HBX HG3 HY3 HOF HOT HA3
  go_wp2_with fail
  refine wp_region_noPanic ?_
  refine wp_region_held_drew (S := fun X : World => X.cell? ⟨w.heap.size + 1, 0, none⟩ = some (.bool y.neg) ∧ X.cell? ⟨w.heap.size + 1, 1, none⟩ = some (.slice ya y.t.length yc)) (by kernel_rfl) (by rw [hv0]; exact HS.out _ (Fr.refl _ _)) (fun hSd => ?_)
  rw [hv0] at hSd ⊢
  clear hv0
  have HB0 := mkHid (Below.refl y0.heap.size y0)
  refine wpAnyH_take (i := 0) (oi := _) (v := ?_) rfl (by kernel_rfl) (by kernel_rfl) (by kernel_rfl) (fun _ _ _ h => h) (Or.inl ⟨by rfl, ?_⟩) (by assumption) ?_
  rotate_left
  · (intro w' hSw; obtain ⟨z0, z1⟩ := hSw; go_simp; try with_reducible rfl)
  (try simp only [List.getElem_toArray, List.getElem_cons_succ, List.getElem_cons_zero, Act.put, List.setIfInBounds_toArray, List.set_cons_zero, List.set_cons_succ])
  refine wpAnyH_take (i := 2) (oi := _) (v := ?_) rfl (by kernel_rfl) (by kernel_rfl) (by kernel_rfl) (fun _ _ _ h => h) (Or.inl ⟨by rfl, ?_⟩) (by assumption) ?_
  rotate_left
  · (intro w' hSw; obtain ⟨z0, z1⟩ := hSw; go_simp; try with_reducible rfl)
  (try simp only [List.getElem_toArray, List.getElem_cons_succ, List.getElem_cons_zero, Act.put, List.setIfInBounds_toArray, List.set_cons_zero, List.set_cons_succ])
  refine wpAnyH_ready (rs := [1, 3]) (by kernel_rfl) (by simp) ?_
  refine AllReadyH.cons (o := _) rfl (fun K hK => ?_) ?_
  · skip
    have tl := keep (st_cells HBX4.out).2.2.2 HB0.out
    go_simp
    clear tl
    try dsimp only
    refine hK.out _ _ (HS.out _ (Fr.of HB0.out)) (fun hS1 => ?_)
    clear hK K
    (try simp only [List.getElem_toArray, List.getElem_cons_succ, List.getElem_cons_zero, Act.put, List.setIfInBounds_toArray, List.set_cons_zero, List.set_cons_succ])
    refine wpAnyH_ready (rs := [3]) (by kernel_rfl) (by simp) ?_
    refine AllReadyH.cons (o := _) rfl (fun K hK => ?_) AllReadyH.nil
    go_simp
    refine (copiedChange_any y ya yc _ (HY4.out.below HB0.out) hyl2).mono ?_
    rintro e w12 ⟨a12, c12, rfl, hn, hb⟩
    have HB2 := mkHid (HB0.out.then hb)
    have HN2 : Hid (Row (veil (u6 ++ ub) w12) a12 c12 y.t) := hn.keeps (under_veil fun k hk => by have h1 := HUA.out k hk; have h2 := HZ4.out; have h3 := HB0.out.size; omega)
    clear hn hb
    try dsimp only
    refine hK.out _ _ (HS.out _ (Fr.of HB2.out)) (fun hS2 => ?_)
    clear hK K
    (try simp only [List.getElem_toArray, List.getElem_cons_succ, List.getElem_cons_zero, Act.put, List.setIfInBounds_toArray, List.set_cons_zero, List.set_cons_succ])
    refine wpAnyH_ready (rs := [4]) (by kernel_rfl) (by simp) ?_
    refine AllReadyH.cons (o := _) rfl (fun K hK => ?_) AllReadyH.nil
    go_simp
    obtain ⟨w13, hw13⟩ : ∃ X, w12.alloc (.cells #[.bool y.neg, .slice a12 y.t.length c12] 32) = X := ⟨_, rfl⟩
    have hba : Below w12.heap.size w12 w13 := by rw [← hw13]; exact (Below.refl _ _).new _
    have HL3 : Hid (w13.heap[w12.heap.size]? = some (.cells #[.bool y.neg, .slice a12 y.t.length c12] 32 (0, 0))) := by rw [Hid, ← hw13]; exact heap_alloc_new _ _
    have HB3 := mkHid (HB2.out.then hba)
    have HN3 := mkHid (HN2.out.keeps (Fr.of hba).keeps)
    first | rw [hw13] | skip
    clear hw13 hba
    try dsimp only
    refine hK.out _ _ (HS.out _ (Fr.of HB3.out)) (fun hS3 => ?_)
    clear hK K
    (try simp only [List.getElem_toArray, List.getElem_cons_succ, List.getElem_cons_zero, Act.put, List.setIfInBounds_toArray, List.set_cons_zero, List.set_cons_succ])
    refine wpAnyH_ready (rs := [5]) (by kernel_rfl) (by simp) ?_
    refine AllReadyH.cons (o := _) rfl (fun K hK => ?_) AllReadyH.nil
    have hf : Fr u6 y0 w13 := Fr.of HB3.out
    have hv : VOwn (veil (u6 ++ ub) w13) W.heap.size 32 td (.slice a3 td.length c3) w13 := (HOT4.out.view (Fr.of HB3.out).keeps).below HB3.out
    have hsz : W.heap.size ≤ w13.heap.size := by have h1 := HWZ.out; have h2 := HB3.out.size; have h3 := HZ4.out; have h4 := HZ3.out; have h5 := HS2.out; omega
    obtain ⟨v9, w9, hrun, hv9, hb9, hg9⟩ := appLit Try.underlying23 Try.infoChg (by decide) (by decide) hv (lt_cR HN3.out) HL3.out (by omega) hsz
    have hf9 : Fr u6 w13 w9 := ⟨hg9.os, hg9.tape, hg9.output, hg9.size, fun k hk hn => hg9.block k hk fun e => hn (HOB.out k e.symm)⟩
    obtain ⟨a9, c9, rfl, hle9, hmx9, _⟩ := hv9.slice
    rw [List.length_append, List.length_singleton] at hrun
    have HV9 := mkHid (hv9.view (hf9.sub fun k hk => List.mem_append_left ub hk).keeps)
    have HF9 := mkHid (hf.trans hf9)
    have HX9 : Hid (w9.heap[w2.heap.size]? = some (.cells #[.slice a2 f.length c2, .int .i64 v, .bool true, .slice a3 td.length c3] 25 (0, 0))) := by
      have h0 := (HB3.out.block w2.heap.size (by have h1 := HZ3.out; have h2 := HZ4.out; omega)).trans HBX4.out
      exact (hg9.block w2.heap.size (by have h1 := HZ3.out; have h2 := HZ4.out; have h3 := HB3.out.size; omega) fun e => hv.ne h0 (by decide) _ e.symm rfl).trans h0
    clear hf hv hsz hv9 hb9 hg9 hf9 hle9 hmx9
    (rw [if_pos (by rfl)]; simp [Oper.wp, execOp, resolve, invoke, builtin, Oper.upon, Act.eval, hrun, Result.andThen, Sem.run_bind])
    clear hrun
    try dsimp only
    refine hK.out _ _ (HS.out _ HF9.out) (fun hS4 => ?_)
    clear hK K
    (try simp only [List.getElem_toArray, List.getElem_cons_succ, List.getElem_cons_zero, Act.put, List.setIfInBounds_toArray, List.set_cons_zero, List.set_cons_succ])
    refine wpAnyH_take (i := 6) (oi := _) (v := ?_) rfl (by kernel_rfl) (by kernel_rfl) (by kernel_rfl) (fun _ _ _ h => h) (Or.inl ⟨by rfl, ?_⟩) (by assumption) ?_
    rotate_left
    · (intro w' hSw; obtain ⟨z0, z1⟩ := hSw; go_simp; try with_reducible rfl)
    (try simp only [List.getElem_toArray, List.getElem_cons_succ, List.getElem_cons_zero, Act.put, List.setIfInBounds_toArray, List.set_cons_zero, List.set_cons_succ])
    refine wpAnyH_ready (rs := [7]) (by kernel_rfl) (by simp) ?_
    refine AllReadyH.cons (o := _) rfl (fun K hK => ?_) AllReadyH.nil
    obtain ⟨t0, t1, t2, t3⟩ := st_cells HX9.out
    obtain ⟨s0, s1, s2, s3⟩ := st_free HX9.out
    go_simp
    obtain ⟨w10, hw10⟩ : ∃ X, w9.setCell ⟨w2.heap.size, 3, none⟩ (.slice a9 (td.length + 1) c9) = X := ⟨_, rfl⟩
    have HF10 : Hid (Fr u6 y0 w10) := by rw [Hid, ← hw10]; exact HF9.out.set HM6.out.1 _
    have HX10 : Hid (w10.heap[w2.heap.size]? = some (.cells #[.slice a2 f.length c2, .int .i64 v, .bool true, .slice a9 (td.length + 1) c9] 25 (0, 0))) := by rw [Hid, ← hw10]; exact st3_set HX9.out _
    have HV10 : Hid (VOwn (veil (u6 ++ ub) w10) W.heap.size 32 (td ++ [y]) (.slice a9 (td ++ [y]).length c9) w10) := by
      have h1 := HV9.out.ne HX9.out (by decide)
      rw [Hid, ← hw10]
      exact (HV9.out.view ((Fr.refl (u6 ++ ub) w9).set (List.mem_append_left _ HM6.out.1) _).keeps).far fun b e => Below.heap_setCell w9 _ _ b (h1 b e)
    first | rw [hw10] | skip
    clear hw10 t0 t1 t2 t3 s0 s1 s2 s3
    try dsimp only
    refine hK.out _ _ (HS.out _ HF10.out) (fun hS5 => ?_)
    clear hK K
    (try simp only [List.getElem_toArray, List.getElem_cons_succ, List.getElem_cons_zero, Act.put, List.setIfInBounds_toArray, List.set_cons_zero, List.set_cons_succ])
    refine wpAnyH_done (by kernel_rfl) (NoPanic.normal ?_) _
    have HR10 : Hid (BX w10 (w.heap.size + 2) none 0 [] 0 false none 0 []) := ⟨(HF10.out.block _ HR4.out.lt (fun hm => by have h1 := HU6.out _ hm; omega)).trans HR4.out.1, noB_row _⟩
    have HBR10 : Hid (BR (veil ub w10) a2 c2 f a9 c9 (td ++ [y])) := by
      refine ⟨(HOF4.out.keeps (HF10.out.sub fun k hk => List.mem_append_left ub hk).keeps).keeps (veil_mono _ fun k hk => List.mem_append_right _ hk), ?_⟩
      obtain ⟨a8, c8, e8, hr8⟩ := HV10.out.row (us := ub) HUB.out (veil_mono _ fun k hk => List.mem_append_right _ hk)
      injection e8 with e8 _ e9
      subst e8; subst e9
      exact hr8
    have HBL10 : Hid (Below w.heap.size w w10) := HBL4.out.trans (HF10.out.below HBL4.out.size fun k hk => by have h1 := HU6.out k hk; omega)
    obtain ⟨q0, q1, q2, q3⟩ := st_cells HX10.out
    obtain ⟨l0, l1, l2, l3⟩ := HR10.out.cells
    obtain ⟨k0, k1, k2, k3⟩ := HR10.out.free
    clear HS hSd
    go_wp2_with fail
    refine bodyPost_ret (v := .tuple #[.agg #[.slice a2 f.length c2, .int .i64 v, .bool true, .slice a9 (td.length + 1) c9], .int .i64 0]) (by simp [results, Try.results20, go_sem, *]) rfl ⟨a2, c2, a9, c9, rfl, (HBR10.out.keeps (Fr.four (Fr.refl ub w10) HUM.out.1 _ _ _ _).keeps).keeps (veil_mono _ HUM.out.2), below_four (g := w.heap.size + 1 + 1) HBL10.out (by omega) _ _ _ _⟩
  refine AllReadyH.cons (o := _) rfl (fun K hK => ?_) AllReadyH.nil
  go_simp
  refine (copiedChange_any y ya yc _ (HY4.out.below HB0.out) hyl2).mono ?_
  rintro e w16 ⟨a16, c16, rfl, hn, hb⟩
  have HB6 := mkHid (HB0.out.then hb)
  have HN6 : Hid (Row (veil (u6 ++ ub) w16) a16 c16 y.t) := hn.keeps (under_veil fun k hk => by have h1 := HUA.out k hk; have h2 := HZ4.out; have h3 := HB0.out.size; omega)
  clear hn hb
  try dsimp only
  refine hK.out _ _ (HS.out _ (Fr.of HB6.out)) (fun hS6 => ?_)
  clear hK K
  (try simp only [List.getElem_toArray, List.getElem_cons_succ, List.getElem_cons_zero, Act.put, List.setIfInBounds_toArray, List.set_cons_zero, List.set_cons_succ])
  refine wpAnyH_ready (rs := [1, 4]) (by kernel_rfl) (by simp) ?_
  refine AllReadyH.cons (o := _) rfl (fun K hK => ?_) ?_
  · skip
    have tl := keep (st_cells HBX4.out).2.2.2 HB6.out
    go_simp
    clear tl
    try dsimp only
    refine hK.out _ _ (HS.out _ (Fr.of HB6.out)) (fun hS7 => ?_)
    clear hK K
    (try simp only [List.getElem_toArray, List.getElem_cons_succ, List.getElem_cons_zero, Act.put, List.setIfInBounds_toArray, List.set_cons_zero, List.set_cons_succ])
    refine wpAnyH_ready (rs := [4]) (by kernel_rfl) (by simp) ?_
    refine AllReadyH.cons (o := _) rfl (fun K hK => ?_) AllReadyH.nil
    go_simp
    obtain ⟨w18, hw18⟩ : ∃ X, w16.alloc (.cells #[.bool y.neg, .slice a16 y.t.length c16] 32) = X := ⟨_, rfl⟩
    have hba : Below w16.heap.size w16 w18 := by rw [← hw18]; exact (Below.refl _ _).new _
    have HL8 : Hid (w18.heap[w16.heap.size]? = some (.cells #[.bool y.neg, .slice a16 y.t.length c16] 32 (0, 0))) := by rw [Hid, ← hw18]; exact heap_alloc_new _ _
    have HB8 := mkHid (HB6.out.then hba)
    have HN8 := mkHid (HN6.out.keeps (Fr.of hba).keeps)
    first | rw [hw18] | skip
    clear hw18 hba
    try dsimp only
    refine hK.out _ _ (HS.out _ (Fr.of HB8.out)) (fun hS8 => ?_)
    clear hK K
    (try simp only [List.getElem_toArray, List.getElem_cons_succ, List.getElem_cons_zero, Act.put, List.setIfInBounds_toArray, List.set_cons_zero, List.set_cons_succ])
    refine wpAnyH_ready (rs := [5]) (by kernel_rfl) (by simp) ?_
    refine AllReadyH.cons (o := _) rfl (fun K hK => ?_) AllReadyH.nil
    have hf : Fr u6 y0 w18 := Fr.of HB8.out
    have hv : VOwn (veil (u6 ++ ub) w18) W.heap.size 32 td (.slice a3 td.length c3) w18 := (HOT4.out.view (Fr.of HB8.out).keeps).below HB8.out
    have hsz : W.heap.size ≤ w18.heap.size := by have h1 := HWZ.out; have h2 := HB8.out.size; have h3 := HZ4.out; have h4 := HZ3.out; have h5 := HS2.out; omega
    obtain ⟨v9, w9, hrun, hv9, hb9, hg9⟩ := appLit Try.underlying23 Try.infoChg (by decide) (by decide) hv (lt_cR HN8.out) HL8.out (by omega) hsz
    have hf9 : Fr u6 w18 w9 := ⟨hg9.os, hg9.tape, hg9.output, hg9.size, fun k hk hn => hg9.block k hk fun e => hn (HOB.out k e.symm)⟩
    obtain ⟨a9, c9, rfl, hle9, hmx9, _⟩ := hv9.slice
    rw [List.length_append, List.length_singleton] at hrun
    have HV9 := mkHid (hv9.view (hf9.sub fun k hk => List.mem_append_left ub hk).keeps)
    have HF9 := mkHid (hf.trans hf9)
    have HX9 : Hid (w9.heap[w2.heap.size]? = some (.cells #[.slice a2 f.length c2, .int .i64 v, .bool true, .slice a3 td.length c3] 25 (0, 0))) := by
      have h0 := (HB8.out.block w2.heap.size (by have h1 := HZ3.out; have h2 := HZ4.out; omega)).trans HBX4.out
      exact (hg9.block w2.heap.size (by have h1 := HZ3.out; have h2 := HZ4.out; have h3 := HB8.out.size; omega) fun e => hv.ne h0 (by decide) _ e.symm rfl).trans h0
    clear hf hv hsz hv9 hb9 hg9 hf9 hle9 hmx9
    (rw [if_pos (by rfl)]; simp [Oper.wp, execOp, resolve, invoke, builtin, Oper.upon, Act.eval, hrun, Result.andThen, Sem.run_bind])
    clear hrun
    try dsimp only
    refine hK.out _ _ (HS.out _ HF9.out) (fun hS9 => ?_)
    clear hK K
    (try simp only [List.getElem_toArray, List.getElem_cons_succ, List.getElem_cons_zero, Act.put, List.setIfInBounds_toArray, List.set_cons_zero, List.set_cons_succ])
    refine wpAnyH_take (i := 6) (oi := _) (v := ?_) rfl (by kernel_rfl) (by kernel_rfl) (by kernel_rfl) (fun _ _ _ h => h) (Or.inl ⟨by rfl, ?_⟩) (by assumption) ?_
    rotate_left
    · (intro w' hSw; obtain ⟨z0, z1⟩ := hSw; go_simp; try with_reducible rfl)
    (try simp only [List.getElem_toArray, List.getElem_cons_succ, List.getElem_cons_zero, Act.put, List.setIfInBounds_toArray, List.set_cons_zero, List.set_cons_succ])
    refine wpAnyH_ready (rs := [7]) (by kernel_rfl) (by simp) ?_
    refine AllReadyH.cons (o := _) rfl (fun K hK => ?_) AllReadyH.nil
    obtain ⟨t0, t1, t2, t3⟩ := st_cells HX9.out
    obtain ⟨s0, s1, s2, s3⟩ := st_free HX9.out
    go_simp
    obtain ⟨w10, hw10⟩ : ∃ X, w9.setCell ⟨w2.heap.size, 3, none⟩ (.slice a9 (td.length + 1) c9) = X := ⟨_, rfl⟩
    have HF10 : Hid (Fr u6 y0 w10) := by rw [Hid, ← hw10]; exact HF9.out.set HM6.out.1 _
    have HX10 : Hid (w10.heap[w2.heap.size]? = some (.cells #[.slice a2 f.length c2, .int .i64 v, .bool true, .slice a9 (td.length + 1) c9] 25 (0, 0))) := by rw [Hid, ← hw10]; exact st3_set HX9.out _
    have HV10 : Hid (VOwn (veil (u6 ++ ub) w10) W.heap.size 32 (td ++ [y]) (.slice a9 (td ++ [y]).length c9) w10) := by
      have h1 := HV9.out.ne HX9.out (by decide)
      rw [Hid, ← hw10]
      exact (HV9.out.view ((Fr.refl (u6 ++ ub) w9).set (List.mem_append_left _ HM6.out.1) _).keeps).far fun b e => Below.heap_setCell w9 _ _ b (h1 b e)
    first | rw [hw10] | skip
    clear hw10 t0 t1 t2 t3 s0 s1 s2 s3
    try dsimp only
    refine hK.out _ _ (HS.out _ HF10.out) (fun hS10 => ?_)
    clear hK K
    (try simp only [List.getElem_toArray, List.getElem_cons_succ, List.getElem_cons_zero, Act.put, List.setIfInBounds_toArray, List.set_cons_zero, List.set_cons_succ])
    refine wpAnyH_done (by kernel_rfl) (NoPanic.normal ?_) _
    have HR10 : Hid (BX w10 (w.heap.size + 2) none 0 [] 0 false none 0 []) := ⟨(HF10.out.block _ HR4.out.lt (fun hm => by have h1 := HU6.out _ hm; omega)).trans HR4.out.1, noB_row _⟩
    have HBR10 : Hid (BR (veil ub w10) a2 c2 f a9 c9 (td ++ [y])) := by
      refine ⟨(HOF4.out.keeps (HF10.out.sub fun k hk => List.mem_append_left ub hk).keeps).keeps (veil_mono _ fun k hk => List.mem_append_right _ hk), ?_⟩
      obtain ⟨a8, c8, e8, hr8⟩ := HV10.out.row (us := ub) HUB.out (veil_mono _ fun k hk => List.mem_append_right _ hk)
      injection e8 with e8 _ e9
      subst e8; subst e9
      exact hr8
    have HBL10 : Hid (Below w.heap.size w w10) := HBL4.out.trans (HF10.out.below HBL4.out.size fun k hk => by have h1 := HU6.out k hk; omega)
    obtain ⟨q0, q1, q2, q3⟩ := st_cells HX10.out
    obtain ⟨l0, l1, l2, l3⟩ := HR10.out.cells
    obtain ⟨k0, k1, k2, k3⟩ := HR10.out.free
    clear HS hSd
    go_wp2_with fail
    refine bodyPost_ret (v := .tuple #[.agg #[.slice a2 f.length c2, .int .i64 v, .bool true, .slice a9 (td.length + 1) c9], .int .i64 0]) (by simp [results, Try.results20, go_sem, *]) rfl ⟨a2, c2, a9, c9, rfl, (HBR10.out.keeps (Fr.four (Fr.refl ub w10) HUM.out.1 _ _ _ _).keeps).keeps (veil_mono _ HUM.out.2), below_four (g := w.heap.size + 1 + 1) HBL10.out (by omega) _ _ _ _⟩
  refine AllReadyH.cons (o := _) rfl (fun K hK => ?_) AllReadyH.nil
  go_simp
  obtain ⟨w21, hw21⟩ : ∃ X, w16.alloc (.cells #[.bool y.neg, .slice a16 y.t.length c16] 32) = X := ⟨_, rfl⟩
  have hba : Below w16.heap.size w16 w21 := by rw [← hw21]; exact (Below.refl _ _).new _
  have HL11 : Hid (w21.heap[w16.heap.size]? = some (.cells #[.bool y.neg, .slice a16 y.t.length c16] 32 (0, 0))) := by rw [Hid, ← hw21]; exact heap_alloc_new _ _
  have HB11 := mkHid (HB6.out.then hba)
  have HN11 := mkHid (HN6.out.keeps (Fr.of hba).keeps)
  first | rw [hw21] | skip
  clear hw21 hba
  try dsimp only
  refine hK.out _ _ (HS.out _ (Fr.of HB11.out)) (fun hS11 => ?_)
  clear hK K
  (try simp only [List.getElem_toArray, List.getElem_cons_succ, List.getElem_cons_zero, Act.put, List.setIfInBounds_toArray, List.set_cons_zero, List.set_cons_succ])
  refine wpAnyH_ready (rs := [1]) (by kernel_rfl) (by simp) ?_
  refine AllReadyH.cons (o := _) rfl (fun K hK => ?_) AllReadyH.nil
  have tl := keep (st_cells HBX4.out).2.2.2 HB11.out
  go_simp
  clear tl
  try dsimp only
  refine hK.out _ _ (HS.out _ (Fr.of HB11.out)) (fun hS12 => ?_)
  clear hK K
  (try simp only [List.getElem_toArray, List.getElem_cons_succ, List.getElem_cons_zero, Act.put, List.setIfInBounds_toArray, List.set_cons_zero, List.set_cons_succ])
  refine wpAnyH_ready (rs := [5]) (by kernel_rfl) (by simp) ?_
  refine AllReadyH.cons (o := _) rfl (fun K hK => ?_) AllReadyH.nil
  have hf : Fr u6 y0 w21 := Fr.of HB11.out
  have hv : VOwn (veil (u6 ++ ub) w21) W.heap.size 32 td (.slice a3 td.length c3) w21 := (HOT4.out.view (Fr.of HB11.out).keeps).below HB11.out
  have hsz : W.heap.size ≤ w21.heap.size := by have h1 := HWZ.out; have h2 := HB11.out.size; have h3 := HZ4.out; have h4 := HZ3.out; have h5 := HS2.out; omega
  obtain ⟨v9, w9, hrun, hv9, hb9, hg9⟩ := appLit Try.underlying23 Try.infoChg (by decide) (by decide) hv (lt_cR HN11.out) HL11.out (by omega) hsz
  have hf9 : Fr u6 w21 w9 := ⟨hg9.os, hg9.tape, hg9.output, hg9.size, fun k hk hn => hg9.block k hk fun e => hn (HOB.out k e.symm)⟩
  obtain ⟨a9, c9, rfl, hle9, hmx9, _⟩ := hv9.slice
  rw [List.length_append, List.length_singleton] at hrun
  have HV9 := mkHid (hv9.view (hf9.sub fun k hk => List.mem_append_left ub hk).keeps)
  have HF9 := mkHid (hf.trans hf9)
  have HX9 : Hid (w9.heap[w2.heap.size]? = some (.cells #[.slice a2 f.length c2, .int .i64 v, .bool true, .slice a3 td.length c3] 25 (0, 0))) := by
    have h0 := (HB11.out.block w2.heap.size (by have h1 := HZ3.out; have h2 := HZ4.out; omega)).trans HBX4.out
    exact (hg9.block w2.heap.size (by have h1 := HZ3.out; have h2 := HZ4.out; have h3 := HB11.out.size; omega) fun e => hv.ne h0 (by decide) _ e.symm rfl).trans h0
  clear hf hv hsz hv9 hb9 hg9 hf9 hle9 hmx9
  (rw [if_pos (by rfl)]; simp [Oper.wp, execOp, resolve, invoke, builtin, Oper.upon, Act.eval, hrun, Result.andThen, Sem.run_bind])
  clear hrun
  try dsimp only
  refine hK.out _ _ (HS.out _ HF9.out) (fun hS13 => ?_)
  clear hK K
  (try simp only [List.getElem_toArray, List.getElem_cons_succ, List.getElem_cons_zero, Act.put, List.setIfInBounds_toArray, List.set_cons_zero, List.set_cons_succ])
  refine wpAnyH_take (i := 6) (oi := _) (v := ?_) rfl (by kernel_rfl) (by kernel_rfl) (by kernel_rfl) (fun _ _ _ h => h) (Or.inl ⟨by rfl, ?_⟩) (by assumption) ?_
  rotate_left
  · (intro w' hSw; obtain ⟨z0, z1⟩ := hSw; go_simp; try with_reducible rfl)
  (try simp only [List.getElem_toArray, List.getElem_cons_succ, List.getElem_cons_zero, Act.put, List.setIfInBounds_toArray, List.set_cons_zero, List.set_cons_succ])
  refine wpAnyH_ready (rs := [7]) (by kernel_rfl) (by simp) ?_
  refine AllReadyH.cons (o := _) rfl (fun K hK => ?_) AllReadyH.nil
  obtain ⟨t0, t1, t2, t3⟩ := st_cells HX9.out
  obtain ⟨s0, s1, s2, s3⟩ := st_free HX9.out
  go_simp
  obtain ⟨w10, hw10⟩ : ∃ X, w9.setCell ⟨w2.heap.size, 3, none⟩ (.slice a9 (td.length + 1) c9) = X := ⟨_, rfl⟩
  have HF10 : Hid (Fr u6 y0 w10) := by rw [Hid, ← hw10]; exact HF9.out.set HM6.out.1 _
  have HX10 : Hid (w10.heap[w2.heap.size]? = some (.cells #[.slice a2 f.length c2, .int .i64 v, .bool true, .slice a9 (td.length + 1) c9] 25 (0, 0))) := by rw [Hid, ← hw10]; exact st3_set HX9.out _
  have HV10 : Hid (VOwn (veil (u6 ++ ub) w10) W.heap.size 32 (td ++ [y]) (.slice a9 (td ++ [y]).length c9) w10) := by
    have h1 := HV9.out.ne HX9.out (by decide)
    rw [Hid, ← hw10]
    exact (HV9.out.view ((Fr.refl (u6 ++ ub) w9).set (List.mem_append_left _ HM6.out.1) _).keeps).far fun b e => Below.heap_setCell w9 _ _ b (h1 b e)
  first | rw [hw10] | skip
  clear hw10 t0 t1 t2 t3 s0 s1 s2 s3
  try dsimp only
  refine hK.out _ _ (HS.out _ HF10.out) (fun hS14 => ?_)
  clear hK K
  (try simp only [List.getElem_toArray, List.getElem_cons_succ, List.getElem_cons_zero, Act.put, List.setIfInBounds_toArray, List.set_cons_zero, List.set_cons_succ])
  refine wpAnyH_done (by kernel_rfl) (NoPanic.normal ?_) _
  have HR10 : Hid (BX w10 (w.heap.size + 2) none 0 [] 0 false none 0 []) := ⟨(HF10.out.block _ HR4.out.lt (fun hm => by have h1 := HU6.out _ hm; omega)).trans HR4.out.1, noB_row _⟩
  have HBR10 : Hid (BR (veil ub w10) a2 c2 f a9 c9 (td ++ [y])) := by
    refine ⟨(HOF4.out.keeps (HF10.out.sub fun k hk => List.mem_append_left ub hk).keeps).keeps (veil_mono _ fun k hk => List.mem_append_right _ hk), ?_⟩
    obtain ⟨a8, c8, e8, hr8⟩ := HV10.out.row (us := ub) HUB.out (veil_mono _ fun k hk => List.mem_append_right _ hk)
    injection e8 with e8 _ e9
    subst e8; subst e9
    exact hr8
  have HBL10 : Hid (Below w.heap.size w w10) := HBL4.out.trans (HF10.out.below HBL4.out.size fun k hk => by have h1 := HU6.out k hk; omega)
  obtain ⟨q0, q1, q2, q3⟩ := st_cells HX10.out
  obtain ⟨l0, l1, l2, l3⟩ := HR10.out.cells
  obtain ⟨k0, k1, k2, k3⟩ := HR10.out.free
  clear HS hSd
  go_wp2_with fail
  refine bodyPost_ret (v := .tuple #[.agg #[.slice a2 f.length c2, .int .i64 v, .bool true, .slice a9 (td.length + 1) c9], .int .i64 0]) (by simp [results, Try.results20, go_sem, *]) rfl ⟨a2, c2, a9, c9, rfl, (HBR10.out.keeps (Fr.four (Fr.refl ub w10) HUM.out.1 _ _ _ _).keeps).keeps (veil_mono _ HUM.out.2), below_four (g := w.heap.size + 1 + 1) HBL10.out (by omega) _ _ _ _⟩
end Go.Proofs.Ytnpffificfghpaa
