import Derived.Test.YtefnmjoapmnkbaaZr2
import Derived.Deep.Slices
import Derived.Deep.Fields
import Derived.ChangeSame
import Derived.ProofKit
import Derived.OpenShut
import Derived.ShutString
import Derived.ChangeOld
import Derived.Lib.SmallJoins
import Derived.DeepKeys5
set_option linter.unusedVariables false
namespace Go.Proofs.Ytefnmjoapmnkbaa
open Go.RowKit

/-! ### going back -/
def unbind (ys : List Cel) (i : Int) : List Cel := if h : 0 ≤ i ∧ i < (ys.length : Int) then ys.set i.toNat ⟨(ys[i.toNat]'(by omega)).k, (ys[i.toNat]'(by omega)).s, i⟩ else ys
theorem unbind_length (ys : List Cel) (i : Int) : (unbind ys i).length = ys.length := by unfold unbind; split <;> simp
def undoL (xs : List Cel) (ts : List Int) (mc mt : Int) : List Cel := (ts.drop (begN ts.length mt)).foldl unbind (xs.take (begN xs.length mc))
theorem grown_belowS {w w' : World} {g B : Nat} (hg : w.grownBy w' (some g)) (hB : B ≤ g) (hs : B ≤ w.heap.size) : Below B w w' :=
  ⟨hg.os, hg.tape, hg.output, hg.size, fun k hk => hg.block k (Nat.lt_of_lt_of_le hk hs) (by intro e; cases e; omega)⟩

theorem OwnS.newRow {B g cap : Nat} {w : World} {xs : List Cel} (h : OwnS B w g cap xs) : NewRow B w (some ⟨g, 0, none⟩) cap xs :=
  ⟨h.row.le, h.row.max, (fun e => by cases e), fun i x hi => by
    obtain ⟨b, off, e, c0, c1, c2, hf⟩ := h.row.at_ i x hi
    cases e
    exact ⟨g, 0, rfl, under_of h.hb c0, under_of h.hb c1, under_of h.hb c2, hf⟩⟩
theorem unbind_in {ys : List Cel} {n : Nat} (hn : n < ys.length) : unbind ys (n : Int) = ys.set n ⟨ys[n].k, ys[n].s, (n : Int)⟩ := by
  unfold unbind; rw [dif_pos (by omega)]; simp only [Int.toNat_natCast]
theorem unbind_out {ys : List Cel} {i : Int} (h : ¬ (0 ≤ i ∧ i < (ys.length : Int))) : unbind ys i = ys := by unfold unbind; rw [dif_neg h]
theorem Row.dropI {w : World} {a : Option Addr} {cap : Nat} {xs : List Int} (h : Row w a cap xs) {q : Nat} (hq : q ≤ xs.length) : Row w (a.map (fun x => x.add q)) (cap - q) (xs.drop q) := by
  refine ⟨by rw [List.length_drop]; have := h.le; omega, by have := h.max; omega, fun e => ?_, fun i x hi => ?_⟩
  · cases a with
    | none => have := h.nil rfl; omega
    | some ad => cases e
  · rw [List.getElem?_drop] at hi
    obtain ⟨b, off, rfl, he⟩ := h.at_ _ x hi
    refine ⟨b, off + q, by simp [Addr.add], ?_⟩
    have h1 : Rep.sz Int = 1 := rfl
    rw [h1] at he ⊢
    rw [show off + q + i * 1 = off + (q + i) * 1 by omega]
    exact he
theorem foldl_nil (l : List Int) : l.foldl unbind [] = [] := by
  induction l with
  | nil => rfl
  | cons x l ih => rw [List.foldl_cons, show unbind [] x = [] by unfold unbind; split <;> simp]; exact ih
theorem foldl_next {l : List Int} {k : Nat} (hk : k < l.length) (ys : List Cel) : (l.take (k + 1)).foldl unbind ys = unbind ((l.take k).foldl unbind ys) l[k] := by
  rw [List.take_succ_eq_append_getElem hk, List.foldl_append]; rfl
theorem foldl_length (l : List Int) (ys : List Cel) : (l.foldl unbind ys).length = ys.length := by
  induction l generalizing ys with
  | nil => rfl
  | cons x l ih => rw [List.foldl_cons, ih, unbind_length]
set_option maxHeartbeats 1600000 in
theorem undo_any (a : Option Addr) (cap : Nat) (a' : Option Addr) (cap' : Nat) (r mc mt : Int) (ra : Option Addr) (rn rc : Nat) (w : World) (xs : List Cel) (ts : List Int) (hx : Row w a cap xs) (ht : Row w a' cap' ts) (hl : xs.length ≤ 1000000) (hl2 : ts.length ≤ 1000000)
    (h1 : -9223372036854775808 ≤ mc) (h2 : mc ≤ 9223372036854775807) (h3 : -9223372036854775808 ≤ mt) (h4 : mt ≤ 9223372036854775807) :
    Calls Try.prog 30 #[hv a xs.length cap a' ts.length cap' r, .agg #[.int .i64 mc, .int .i64 mt, .slice ra rn rc]] w fun e w' => ∃ a2 cap2 a3 cap3, e = .returned (hv a2 (undoL xs ts mc mt).length cap2 a3 (begN ts.length mt) cap3 r) ∧ Row w' a2 cap2 (undoL xs ts mc mt) ∧ Row w' a3 cap3 (ts.take (begN ts.length mt)) ∧ Below w.heap.size w w' := by
  have hm := hx.max
  have hm2 := hx.le
  have hm3 := ht.max
  have hm4 := ht.le
  obtain ⟨p, hp⟩ : ∃ p, p = begN xs.length mc := ⟨_, rfl⟩
  obtain ⟨q, hq⟩ : ∃ q, q = begN ts.length mt := ⟨_, rfl⟩
  have hpl : p ≤ xs.length := by rw [hp]; unfold begN; omega
  have hql : q ≤ ts.length := by rw [hq]; unfold begN; omega
  obtain ⟨L, hL⟩ : ∃ L, L = undoL xs ts mc mt := ⟨_, rfl⟩
  have HL : Hid (L = (ts.drop q).foldl unbind (xs.take p)) := by rw [Hid, hL, undoL, hp, hq]
  rw [← hL, ← hq]
  have HP := mkHid hp
  have HQ := mkHid hq
  have hxp : Row w a cap (xs.take p) := by rw [hp]; exact hx.beg mc
  have htq : Row w a' cap' (ts.take q) := by rw [hq]; exact ht.beg mt
  have HPL : Hid (p = (xs.take p).length) := by rw [Hid, List.length_take]; omega
  have HQL : Hid (q = (ts.take q).length) := by rw [Hid, List.length_take]; omega
  clear hp hq hL
  have hb0 := ((Below.refl w.heap.size w).new (.cells #[.slice a xs.length cap, .slice a' ts.length cap', .int .i64 r] 25)).new (.cells #[.int .i64 mc, .int .i64 mt, .slice ra rn rc] 43)
  have hb1 := hb0.new (.cells #[.slice none 0 0, .slice none 0 0, .int .i64 0] 25)
  have e0 : (((w.alloc (.cells #[.slice a xs.length cap, .slice a' ts.length cap', .int .i64 r] 25)).alloc (.cells #[.int .i64 mc, .int .i64 mt, .slice ra rn rc] 43)).alloc (.cells #[.slice none 0 0, .slice none 0 0, .int .i64 0] 25)).cell? ⟨w.heap.size, 0, none⟩ = some (.slice a xs.length cap) := keep (keep (World.cell?_alloc_at _ _ w.heap.size 0 rfl) ((Below.refl _ _).new _)) ((Below.refl _ _).new _)
  have e1 : (((w.alloc (.cells #[.slice a xs.length cap, .slice a' ts.length cap', .int .i64 r] 25)).alloc (.cells #[.int .i64 mc, .int .i64 mt, .slice ra rn rc] 43)).alloc (.cells #[.slice none 0 0, .slice none 0 0, .int .i64 0] 25)).cell? ⟨w.heap.size, 1, none⟩ = some (.slice a' ts.length cap') := keep (keep (World.cell?_alloc_at _ _ w.heap.size 1 rfl) ((Below.refl _ _).new _)) ((Below.refl _ _).new _)
  have e2 : (((w.alloc (.cells #[.slice a xs.length cap, .slice a' ts.length cap', .int .i64 r] 25)).alloc (.cells #[.int .i64 mc, .int .i64 mt, .slice ra rn rc] 43)).alloc (.cells #[.slice none 0 0, .slice none 0 0, .int .i64 0] 25)).cell? ⟨w.heap.size, 2, none⟩ = some (.int .i64 r) := keep (keep (World.cell?_alloc_at _ _ w.heap.size 2 rfl) ((Below.refl _ _).new _)) ((Below.refl _ _).new _)
  have m0 : (((w.alloc (.cells #[.slice a xs.length cap, .slice a' ts.length cap', .int .i64 r] 25)).alloc (.cells #[.int .i64 mc, .int .i64 mt, .slice ra rn rc] 43)).alloc (.cells #[.slice none 0 0, .slice none 0 0, .int .i64 0] 25)).cell? ⟨w.heap.size + 1, 0, none⟩ = some (.int .i64 mc) := keep (World.cell?_alloc_at _ _ _ 0 (by simp)) ((Below.refl _ _).new _)
  have m1 : (((w.alloc (.cells #[.slice a xs.length cap, .slice a' ts.length cap', .int .i64 r] 25)).alloc (.cells #[.int .i64 mc, .int .i64 mt, .slice ra rn rc] 43)).alloc (.cells #[.slice none 0 0, .slice none 0 0, .int .i64 0] 25)).cell? ⟨w.heap.size + 1, 1, none⟩ = some (.int .i64 mt) := keep (World.cell?_alloc_at _ _ _ 1 (by simp)) ((Below.refl _ _).new _)
  have f0 : (((w.alloc (.cells #[.slice a xs.length cap, .slice a' ts.length cap', .int .i64 r] 25)).alloc (.cells #[.int .i64 mc, .int .i64 mt, .slice ra rn rc] 43)).alloc (.cells #[.slice none 0 0, .slice none 0 0, .int .i64 0] 25)).cell? ⟨w.heap.size + 1 + 1, 0, none⟩ = some (.slice none 0 0) := World.cell?_alloc_at _ _ _ 0 (by simp)
  have f1 : (((w.alloc (.cells #[.slice a xs.length cap, .slice a' ts.length cap', .int .i64 r] 25)).alloc (.cells #[.int .i64 mc, .int .i64 mt, .slice ra rn rc] 43)).alloc (.cells #[.slice none 0 0, .slice none 0 0, .int .i64 0] 25)).cell? ⟨w.heap.size + 1 + 1, 1, none⟩ = some (.slice none 0 0) := World.cell?_alloc_at _ _ _ 1 (by simp)
  have f2 : (((w.alloc (.cells #[.slice a xs.length cap, .slice a' ts.length cap', .int .i64 r] 25)).alloc (.cells #[.int .i64 mc, .int .i64 mt, .slice ra rn rc] 43)).alloc (.cells #[.slice none 0 0, .slice none 0 0, .int .i64 0] 25)).cell? ⟨w.heap.size + 1 + 1, 2, none⟩ = some (.int .i64 0) := World.cell?_alloc_at _ _ _ 2 (by simp)
  have hsz : (((w.alloc (.cells #[.slice a xs.length cap, .slice a' ts.length cap', .int .i64 r] 25)).alloc (.cells #[.int .i64 mc, .int .i64 mt, .slice ra rn rc] 43)).alloc (.cells #[.slice none 0 0, .slice none 0 0, .int .i64 0] 25)).heap.size = w.heap.size + 1 + 1 + 1 := by simp
  have z0 : (((w.alloc (.cells #[.slice a xs.length cap, .slice a' ts.length cap', .int .i64 r] 25)).alloc (.cells #[.int .i64 mc, .int .i64 mt, .slice ra rn rc] 43)).alloc (.cells #[.slice none 0 0, .slice none 0 0, .int .i64 0] 25)).frozen? ⟨w.heap.size + 1 + 1, 0, none⟩ = false := by simp [go_sem]
  have z1 : (((w.alloc (.cells #[.slice a xs.length cap, .slice a' ts.length cap', .int .i64 r] 25)).alloc (.cells #[.int .i64 mc, .int .i64 mt, .slice ra rn rc] 43)).alloc (.cells #[.slice none 0 0, .slice none 0 0, .int .i64 0] 25)).frozen? ⟨w.heap.size + 1 + 1, 1, none⟩ = false := by simp [go_sem]
  have z2 : (((w.alloc (.cells #[.slice a xs.length cap, .slice a' ts.length cap', .int .i64 r] 25)).alloc (.cells #[.int .i64 mc, .int .i64 mt, .slice ra rn rc] 43)).alloc (.cells #[.slice none 0 0, .slice none 0 0, .int .i64 0] 25)).frozen? ⟨w.heap.size + 1 + 1, 2, none⟩ = false := by simp [go_sem]
  go_enter Try.func30, Try.ntmps30
  go_wp2_with fail
  obtain ⟨W, hW⟩ : ∃ W, ((w.alloc (.cells #[.slice a xs.length cap, .slice a' ts.length cap', .int .i64 r] 25)).alloc (.cells #[.int .i64 mc, .int .i64 mt, .slice ra rn rc] 43)).alloc (.cells #[.slice none 0 0, .slice none 0 0, .int .i64 0] 25) = W := ⟨_, rfl⟩
  rw [hW] at e0 e1 e2 m0 m1 f0 f1 f2 hsz z0 z1 z2 hb1 ⊢
  clear hW
  have HSZ := mkHid hsz
  clear hsz
  rw [HP.out] at hxp
  have hxW := hx.below hb1
  have hxpW := hxp.below hb1
  have htW := ht.below hb1
  have htqW := htq.below hb1
  refine (begS_any a cap mc _ xs hxW h1 h2).mono ?_
  rintro e w1 ⟨rfl, rfl⟩
  rw [← HP.out] at hxpW ⊢
  go_wp2_with fail
  refine (cloneS_own a cap p _ (xs.take p) HPL.out hxpW (by rw [List.length_take]; omega)).mono ?_
  rintro e w2 ⟨v, rfl, hown, hb2⟩
  have x1 := keep e1 hb2
  have y1 := keep m1 hb2
  go_wp2_with fail
  refine (begI_any a' cap' mt _ ts (htW.below hb2) h3 h4).mono ?_
  rintro e w3 ⟨rfl, rfl⟩
  rw [← HQ.out]
  go_wp2_with fail
  refine (cloneI_new q a' cap' _ (ts.take q) HQL.out (htqW.below hb2) (by rw [List.length_take]; omega)).mono ?_
  rintro e w4 ⟨a3, cap3, rfl, hn3, hb3⟩
  rw [← HQL.out]
  have X1 := keep x1 hb3
  have hbW : Below W.heap.size W w4 := hb2.then hb3
  go_wp2_with fail
  · have hrs : Row W a' 0 (ts.drop q) := by rw [List.drop_eq_nil_of_le (by omega)]; exact Row.empty _ _ _ (by omega) (fun _ => rfl)
    have hRm : (ts.drop q).length ≤ 1000000 := by rw [List.length_drop]; omega
    rw [← List.length_drop]
    generalize ts.drop q = R at *
    have hbw := hb1.then hbW
    have E2 := keep e2 hbW
    have F0 := keep f0 hbW
    have F1 := keep f1 hbW
    have F2 := keep f2 hbW
    have hz4 : W.heap.size ≤ w4.heap.size := hbW.size
    rcases Nat.eq_zero_or_pos p with hp0 | hp0
    · subst hp0
      have HLE : Hid (L = []) := by rw [Hid, HL.out, List.take_zero, foldl_nil]
      obtain ⟨a2, cap2, hv2, hr2⟩ := own_rowG (α := Cel) hown (crows_flat _ (by simp))
      obtain rfl : v = .slice a2 0 cap2 := hv2
      have hcm := hr2.max
      have hcn := hr2.nil
      have HS2 : Hid (w.heap.size + 1 + 1 < w4.heap.size) := (by have := HSZ.out; show w.heap.size + 1 + 1 < w4.heap.size; omega)
      have HN2 : Hid (w.heap.size + 1 + 1 < w2.heap.size) := (by have := HSZ.out; have := hb2.size; show w.heap.size + 1 + 1 < w2.heap.size; omega)
      have Z0 : w4.frozen? ⟨w.heap.size + 1 + 1, 0, none⟩ = false := (hbW.frozen (p := ⟨w.heap.size + 1 + 1, 0, none⟩) (by have := HSZ.out; simp; omega)).trans z0
      have Z1 : w4.frozen? ⟨w.heap.size + 1 + 1, 1, none⟩ = false := (hbW.frozen (p := ⟨w.heap.size + 1 + 1, 1, none⟩) (by have := HSZ.out; simp; omega)).trans z1
      have Z2 : w4.frozen? ⟨w.heap.size + 1 + 1, 2, none⟩ = false := (hbW.frozen (p := ⟨w.heap.size + 1 + 1, 2, none⟩) (by have := HSZ.out; simp; omega)).trans z2
      clear z0 z1 z2
      go_loopw [8, 27] (fun t i wr => ∃ k : Nat, k ≤ R.length ∧ i = .int .i64 k ∧ Below w4.heap.size w4 wr) (fun t i wr => R.length - (intOf i).toNat)
      case atStart => exact ⟨0, Nat.zero_le _, rfl, Below.refl _ _⟩
      case round =>
        obtain ⟨k, hk, rfl, hbl⟩ := hrel
        by_cases hlt : k < R.length
        · obtain ⟨b, off, rfl, hb, hat⟩ := hrs.cases.resolve_left (fun e => by simp [e] at hlt)
          obtain ⟨c0, i1, i2⟩ := int_at hat (hbW.then hbl) hlt
          have hs : (decide (0 ≤ R[k]) && decide (R[k] < ((0 : Nat) : Int))) = false := by rw [← Bool.decide_and]; exact decide_eq_false (by omega)
          go_wp2_with fail
          refine (stands_any a2 cap2 R[k] _ 0 i1 i2).mono ?_
          rintro e w1 ⟨rfl, rfl⟩
          rw [hs]
          go_wp2_with fail
          go_round
          case rel => exact ⟨k + 1, by omega, by go_num, hbl⟩
          case measure => simp [intOf]; omega
        · have q2 := keep E2 hbl
          have g0 := keep F0 hbl
          have g1 := keep F1 hbl
          have g2 := keep F2 hbl
          have y0 : wr.frozen? ⟨w.heap.size + 1 + 1, 0, none⟩ = false := (hbl.frozen (p := ⟨w.heap.size + 1 + 1, 0, none⟩) HS2.out).trans Z0
          have y1 : wr.frozen? ⟨w.heap.size + 1 + 1, 1, none⟩ = false := (hbl.frozen (p := ⟨w.heap.size + 1 + 1, 1, none⟩) HS2.out).trans Z1
          have y2 : wr.frozen? ⟨w.heap.size + 1 + 1, 2, none⟩ = false := (hbl.frozen (p := ⟨w.heap.size + 1 + 1, 2, none⟩) HS2.out).trans Z2
          go_wp2_with fail
          refine bodyPost_ret (v := hv a2 0 cap2 a3 q cap3 r) (by simp [results, Try.results30, go_sem, g0, g1, g2]) rfl ⟨a2, cap2, a3, cap3, by rw [HLE.out]; rfl, ?_, ?_, ?_⟩
          · rw [HLE.out]; exact Row.empty _ _ _ hcm hcn
          · exact ((hn3.below hbl).grown (set3_grown (w.heap.size + 1 + 1) _ _ _ _) (fun g e => by cases e; have := HN2.out; omega)).row
          · exact (hbw.then hbl).trans ((set3 (w.heap.size + 1 + 1) _ _ _ _).mono (by omega))
    · obtain ⟨g, cap2, hv2, hos⟩ := ownS_of hown (fun c hc => hx.fit c (List.mem_of_mem_take hc)) (by rw [← HPL.out]; exact hp0)
      rw [← HPL.out] at hv2
      subst hv2
      have hgB := hos.hb
      have HG : Hid (g < w2.heap.size) := by obtain ⟨cur, T, hc⟩ := hos.cells; exact (Array.getElem?_eq_some_iff.1 hc).1
      have hos4 := hos.below hb3
      have HXP : Hid ((xs.take p).length = p) := HPL.out.symm
      clear hos hown HPL
      generalize xs.take p = X at *
      have HS2 : Hid (w.heap.size + 1 + 1 < w4.heap.size) := (by have := HSZ.out; show w.heap.size + 1 + 1 < w4.heap.size; omega)
      have HN2 : Hid (w.heap.size + 1 + 1 < w2.heap.size) := (by have := HSZ.out; have := hb2.size; show w.heap.size + 1 + 1 < w2.heap.size; omega)
      have Z0 : w4.frozen? ⟨w.heap.size + 1 + 1, 0, none⟩ = false := (hbW.frozen (p := ⟨w.heap.size + 1 + 1, 0, none⟩) (by have := HSZ.out; simp; omega)).trans z0
      have Z1 : w4.frozen? ⟨w.heap.size + 1 + 1, 1, none⟩ = false := (hbW.frozen (p := ⟨w.heap.size + 1 + 1, 1, none⟩) (by have := HSZ.out; simp; omega)).trans z1
      have Z2 : w4.frozen? ⟨w.heap.size + 1 + 1, 2, none⟩ = false := (hbW.frozen (p := ⟨w.heap.size + 1 + 1, 2, none⟩) (by have := HSZ.out; simp; omega)).trans z2
      clear z0 z1 z2
      go_loopw [8, 27] (fun t i wr => ∃ k : Nat, k ≤ R.length ∧ i = .int .i64 k ∧ OwnS W.heap.size wr g cap2 ((R.take k).foldl unbind X) ∧ w4.grownBy wr (some g)) (fun t i wr => R.length - (intOf i).toNat)
      case atStart => exact ⟨0, Nat.zero_le _, rfl, hos4, below_grown (Below.refl _ _) _⟩
      case round =>
        clear hos4
        obtain ⟨k, hk, rfl, hos, hg⟩ := hrel
        have hb4 := grown_belowS hg hgB hz4
        by_cases hlt : k < R.length
        · obtain ⟨b, off, rfl, hb, hat⟩ := hrs.cases.resolve_left (fun e => by simp [e] at hlt)
          obtain ⟨c0, i1, i2⟩ := int_at hat (hbW.trans hb4) hlt
          have HNX : Hid ((R.take (k + 1)).foldl unbind X = unbind ((R.take k).foldl unbind X) R[k]) := foldl_next hlt X
          have HYL : Hid (((R.take k).foldl unbind X).length = p) := by rw [Hid, foldl_length]; exact HXP.out
          generalize (R.take k).foldl unbind X = ys at *
          generalize R[k] = i at *
          by_cases hin : 0 ≤ i ∧ i < (p : Int)
          · obtain ⟨n, rfl⟩ : ∃ n : Nat, i = n := ⟨i.toNat, by omega⟩
            have hs : (decide (0 ≤ (n : Int)) && decide ((n : Int) < (p : Int))) = true := by rw [← Bool.decide_and]; exact decide_eq_true hin
            have hnp : n < p := by omega
            have HNY : Hid (n < ys.length) := by rw [Hid, HYL.out]; exact hnp
            obtain ⟨b5, off5, e5, d0, d1, d2, hf⟩ := hos.row.at_ n ys[n] (List.getElem?_eq_getElem HNY.out)
            cases e5
            have hz := hos.frozen (0 + n * 3 + 2)
            have hset := hos.set HNY.out (v := (n : Int)) i1 i2
            rw [← unbind_in HNY.out, ← HNX.out] at hset
            have d2' : wr.cell? ⟨g, 0 + n * 3 + 2, none⟩ = some (.int .i64 ys[n].n) := d2
            simp only [Nat.zero_add] at hset hz d2'
            have HSET := mkHid hset
            clear hset hin d0 d1 d2
            go_wp2_with fail
            refine (stands_any _ cap2 (n : Int) _ p i1 i2).mono ?_
            rintro e w1 ⟨rfl, rfl⟩
            rw [hs]
            go_wp2_with fail
            go_round
            case rel => exact ⟨k + 1, by omega, by go_num, HSET.out, hg.trans (grown_set wr g _ _)⟩
            case measure => simp [intOf]; omega
          · have hs : (decide (0 ≤ i) && decide (i < (p : Int))) = false := by rw [← Bool.decide_and]; exact decide_eq_false hin
            rw [unbind_out (by rw [HYL.out]; exact hin)] at HNX
            clear hin
            go_wp2_with fail
            refine (stands_any _ cap2 i _ p i1 i2).mono ?_
            rintro e w1 ⟨rfl, rfl⟩
            rw [hs]
            go_wp2_with fail
            go_round
            case rel => exact ⟨k + 1, by omega, by go_num, by rw [HNX.out]; exact hos, hg⟩
            case measure => simp [intOf]; omega
        · have HLE : Hid (L = (R.take k).foldl unbind X) := by rw [Hid, HL.out, List.take_of_length_le (by omega)]
          have HYL : Hid (((R.take k).foldl unbind X).length = p) := by rw [Hid, foldl_length]; exact HXP.out
          rw [← HLE.out] at hos HYL
          have q2 := (hb4.cell (p := ⟨w.heap.size, 2, none⟩) (by have := HSZ.out; simp; omega)).trans E2
          have g0 := (hb4.cell (p := ⟨w.heap.size + 1 + 1, 0, none⟩) (by have := HSZ.out; simp; omega)).trans F0
          have g1 := (hb4.cell (p := ⟨w.heap.size + 1 + 1, 1, none⟩) (by have := HSZ.out; simp; omega)).trans F1
          have g2 := (hb4.cell (p := ⟨w.heap.size + 1 + 1, 2, none⟩) (by have := HSZ.out; simp; omega)).trans F2
          have y0 : wr.frozen? ⟨w.heap.size + 1 + 1, 0, none⟩ = false := (hb4.frozen (p := ⟨w.heap.size + 1 + 1, 0, none⟩) (by have := HSZ.out; simp; omega)).trans Z0
          have y1 : wr.frozen? ⟨w.heap.size + 1 + 1, 1, none⟩ = false := (hb4.frozen (p := ⟨w.heap.size + 1 + 1, 1, none⟩) (by have := HSZ.out; simp; omega)).trans Z1
          have y2 : wr.frozen? ⟨w.heap.size + 1 + 1, 2, none⟩ = false := (hb4.frozen (p := ⟨w.heap.size + 1 + 1, 2, none⟩) (by have := HSZ.out; simp; omega)).trans Z2
          go_wp2_with fail
          refine bodyPost_ret (v := hv (some ⟨g, 0, none⟩) p cap2 a3 q cap3 r) (by simp [results, Try.results30, go_sem, g0, g1, g2]) rfl ⟨some ⟨g, 0, none⟩, cap2, a3, cap3, by rw [HYL.out], ?_, ?_, ?_⟩
          · exact (hos.newRow.grown (set3_grown (w.heap.size + 1 + 1) _ _ _ _) (fun g e => by cases e; have := HSZ.out; omega)).row
          · exact ((hn3.grown hg (fun g e => by cases e; exact HG.out)).grown (set3_grown (w.heap.size + 1 + 1) _ _ _ _) (fun g e => by cases e; have := HN2.out; omega)).row
          · exact (hbw.trans (hb4.mono (by have := HSZ.out; omega))).trans ((set3 (w.heap.size + 1 + 1) _ _ _ _).mono (by omega))
  · have hrs := htW.dropI hql
    generalize (Option.map (fun x => x.add q) a') = sa at *
    generalize cap' - q = sc at *
    have hRm : (ts.drop q).length ≤ 1000000 := by rw [List.length_drop]; omega
    rw [← List.length_drop]
    generalize ts.drop q = R at *
    have hbw := hb1.then hbW
    have E2 := keep e2 hbW
    have F0 := keep f0 hbW
    have F1 := keep f1 hbW
    have F2 := keep f2 hbW
    have hz4 : W.heap.size ≤ w4.heap.size := hbW.size
    rcases Nat.eq_zero_or_pos p with hp0 | hp0
    · subst hp0
      have HLE : Hid (L = []) := by rw [Hid, HL.out, List.take_zero, foldl_nil]
      obtain ⟨a2, cap2, hv2, hr2⟩ := own_rowG (α := Cel) hown (crows_flat _ (by simp))
      obtain rfl : v = .slice a2 0 cap2 := hv2
      have hcm := hr2.max
      have hcn := hr2.nil
      have HS2 : Hid (w.heap.size + 1 + 1 < w4.heap.size) := (by have := HSZ.out; show w.heap.size + 1 + 1 < w4.heap.size; omega)
      have HN2 : Hid (w.heap.size + 1 + 1 < w2.heap.size) := (by have := HSZ.out; have := hb2.size; show w.heap.size + 1 + 1 < w2.heap.size; omega)
      have Z0 : w4.frozen? ⟨w.heap.size + 1 + 1, 0, none⟩ = false := (hbW.frozen (p := ⟨w.heap.size + 1 + 1, 0, none⟩) (by have := HSZ.out; simp; omega)).trans z0
      have Z1 : w4.frozen? ⟨w.heap.size + 1 + 1, 1, none⟩ = false := (hbW.frozen (p := ⟨w.heap.size + 1 + 1, 1, none⟩) (by have := HSZ.out; simp; omega)).trans z1
      have Z2 : w4.frozen? ⟨w.heap.size + 1 + 1, 2, none⟩ = false := (hbW.frozen (p := ⟨w.heap.size + 1 + 1, 2, none⟩) (by have := HSZ.out; simp; omega)).trans z2
      clear z0 z1 z2
      go_loopw [8, 27] (fun t i wr => ∃ k : Nat, k ≤ R.length ∧ i = .int .i64 k ∧ Below w4.heap.size w4 wr) (fun t i wr => R.length - (intOf i).toNat)
      case atStart => exact ⟨0, Nat.zero_le _, rfl, Below.refl _ _⟩
      case round =>
        obtain ⟨k, hk, rfl, hbl⟩ := hrel
        by_cases hlt : k < R.length
        · obtain ⟨b, off, rfl, hb, hat⟩ := hrs.cases.resolve_left (fun e => by simp [e] at hlt)
          obtain ⟨c0, i1, i2⟩ := int_at hat (hbW.then hbl) hlt
          have hs : (decide (0 ≤ R[k]) && decide (R[k] < ((0 : Nat) : Int))) = false := by rw [← Bool.decide_and]; exact decide_eq_false (by omega)
          go_wp2_with fail
          refine (stands_any a2 cap2 R[k] _ 0 i1 i2).mono ?_
          rintro e w1 ⟨rfl, rfl⟩
          rw [hs]
          go_wp2_with fail
          go_round
          case rel => exact ⟨k + 1, by omega, by go_num, hbl⟩
          case measure => simp [intOf]; omega
        · have q2 := keep E2 hbl
          have g0 := keep F0 hbl
          have g1 := keep F1 hbl
          have g2 := keep F2 hbl
          have y0 : wr.frozen? ⟨w.heap.size + 1 + 1, 0, none⟩ = false := (hbl.frozen (p := ⟨w.heap.size + 1 + 1, 0, none⟩) HS2.out).trans Z0
          have y1 : wr.frozen? ⟨w.heap.size + 1 + 1, 1, none⟩ = false := (hbl.frozen (p := ⟨w.heap.size + 1 + 1, 1, none⟩) HS2.out).trans Z1
          have y2 : wr.frozen? ⟨w.heap.size + 1 + 1, 2, none⟩ = false := (hbl.frozen (p := ⟨w.heap.size + 1 + 1, 2, none⟩) HS2.out).trans Z2
          go_wp2_with fail
          refine bodyPost_ret (v := hv a2 0 cap2 a3 q cap3 r) (by simp [results, Try.results30, go_sem, g0, g1, g2]) rfl ⟨a2, cap2, a3, cap3, by rw [HLE.out]; rfl, ?_, ?_, ?_⟩
          · rw [HLE.out]; exact Row.empty _ _ _ hcm hcn
          · exact ((hn3.below hbl).grown (set3_grown (w.heap.size + 1 + 1) _ _ _ _) (fun g e => by cases e; have := HN2.out; omega)).row
          · exact (hbw.then hbl).trans ((set3 (w.heap.size + 1 + 1) _ _ _ _).mono (by omega))
    · obtain ⟨g, cap2, hv2, hos⟩ := ownS_of hown (fun c hc => hx.fit c (List.mem_of_mem_take hc)) (by rw [← HPL.out]; exact hp0)
      rw [← HPL.out] at hv2
      subst hv2
      have hgB := hos.hb
      have HG : Hid (g < w2.heap.size) := by obtain ⟨cur, T, hc⟩ := hos.cells; exact (Array.getElem?_eq_some_iff.1 hc).1
      have hos4 := hos.below hb3
      have HXP : Hid ((xs.take p).length = p) := HPL.out.symm
      clear hos hown HPL
      generalize xs.take p = X at *
      have HS2 : Hid (w.heap.size + 1 + 1 < w4.heap.size) := (by have := HSZ.out; show w.heap.size + 1 + 1 < w4.heap.size; omega)
      have HN2 : Hid (w.heap.size + 1 + 1 < w2.heap.size) := (by have := HSZ.out; have := hb2.size; show w.heap.size + 1 + 1 < w2.heap.size; omega)
      have Z0 : w4.frozen? ⟨w.heap.size + 1 + 1, 0, none⟩ = false := (hbW.frozen (p := ⟨w.heap.size + 1 + 1, 0, none⟩) (by have := HSZ.out; simp; omega)).trans z0
      have Z1 : w4.frozen? ⟨w.heap.size + 1 + 1, 1, none⟩ = false := (hbW.frozen (p := ⟨w.heap.size + 1 + 1, 1, none⟩) (by have := HSZ.out; simp; omega)).trans z1
      have Z2 : w4.frozen? ⟨w.heap.size + 1 + 1, 2, none⟩ = false := (hbW.frozen (p := ⟨w.heap.size + 1 + 1, 2, none⟩) (by have := HSZ.out; simp; omega)).trans z2
      clear z0 z1 z2
      go_loopw [8, 27] (fun t i wr => ∃ k : Nat, k ≤ R.length ∧ i = .int .i64 k ∧ OwnS W.heap.size wr g cap2 ((R.take k).foldl unbind X) ∧ w4.grownBy wr (some g)) (fun t i wr => R.length - (intOf i).toNat)
      case atStart => exact ⟨0, Nat.zero_le _, rfl, hos4, below_grown (Below.refl _ _) _⟩
      case round =>
        clear hos4
        obtain ⟨k, hk, rfl, hos, hg⟩ := hrel
        have hb4 := grown_belowS hg hgB hz4
        by_cases hlt : k < R.length
        · obtain ⟨b, off, rfl, hb, hat⟩ := hrs.cases.resolve_left (fun e => by simp [e] at hlt)
          obtain ⟨c0, i1, i2⟩ := int_at hat (hbW.trans hb4) hlt
          have HNX : Hid ((R.take (k + 1)).foldl unbind X = unbind ((R.take k).foldl unbind X) R[k]) := foldl_next hlt X
          have HYL : Hid (((R.take k).foldl unbind X).length = p) := by rw [Hid, foldl_length]; exact HXP.out
          generalize (R.take k).foldl unbind X = ys at *
          generalize R[k] = i at *
          by_cases hin : 0 ≤ i ∧ i < (p : Int)
          · obtain ⟨n, rfl⟩ : ∃ n : Nat, i = n := ⟨i.toNat, by omega⟩
            have hs : (decide (0 ≤ (n : Int)) && decide ((n : Int) < (p : Int))) = true := by rw [← Bool.decide_and]; exact decide_eq_true hin
            have hnp : n < p := by omega
            have HNY : Hid (n < ys.length) := by rw [Hid, HYL.out]; exact hnp
            obtain ⟨b5, off5, e5, d0, d1, d2, hf⟩ := hos.row.at_ n ys[n] (List.getElem?_eq_getElem HNY.out)
            cases e5
            have hz := hos.frozen (0 + n * 3 + 2)
            have hset := hos.set HNY.out (v := (n : Int)) i1 i2
            rw [← unbind_in HNY.out, ← HNX.out] at hset
            have d2' : wr.cell? ⟨g, 0 + n * 3 + 2, none⟩ = some (.int .i64 ys[n].n) := d2
            simp only [Nat.zero_add] at hset hz d2'
            have HSET := mkHid hset
            clear hset hin d0 d1 d2
            go_wp2_with fail
            refine (stands_any _ cap2 (n : Int) _ p i1 i2).mono ?_
            rintro e w1 ⟨rfl, rfl⟩
            rw [hs]
            go_wp2_with fail
            go_round
            case rel => exact ⟨k + 1, by omega, by go_num, HSET.out, hg.trans (grown_set wr g _ _)⟩
            case measure => simp [intOf]; omega
          · have hs : (decide (0 ≤ i) && decide (i < (p : Int))) = false := by rw [← Bool.decide_and]; exact decide_eq_false hin
            rw [unbind_out (by rw [HYL.out]; exact hin)] at HNX
            clear hin
            go_wp2_with fail
            refine (stands_any _ cap2 i _ p i1 i2).mono ?_
            rintro e w1 ⟨rfl, rfl⟩
            rw [hs]
            go_wp2_with fail
            go_round
            case rel => exact ⟨k + 1, by omega, by go_num, by rw [HNX.out]; exact hos, hg⟩
            case measure => simp [intOf]; omega
        · have HLE : Hid (L = (R.take k).foldl unbind X) := by rw [Hid, HL.out, List.take_of_length_le (by omega)]
          have HYL : Hid (((R.take k).foldl unbind X).length = p) := by rw [Hid, foldl_length]; exact HXP.out
          rw [← HLE.out] at hos HYL
          have q2 := (hb4.cell (p := ⟨w.heap.size, 2, none⟩) (by have := HSZ.out; simp; omega)).trans E2
          have g0 := (hb4.cell (p := ⟨w.heap.size + 1 + 1, 0, none⟩) (by have := HSZ.out; simp; omega)).trans F0
          have g1 := (hb4.cell (p := ⟨w.heap.size + 1 + 1, 1, none⟩) (by have := HSZ.out; simp; omega)).trans F1
          have g2 := (hb4.cell (p := ⟨w.heap.size + 1 + 1, 2, none⟩) (by have := HSZ.out; simp; omega)).trans F2
          have y0 : wr.frozen? ⟨w.heap.size + 1 + 1, 0, none⟩ = false := (hb4.frozen (p := ⟨w.heap.size + 1 + 1, 0, none⟩) (by have := HSZ.out; simp; omega)).trans Z0
          have y1 : wr.frozen? ⟨w.heap.size + 1 + 1, 1, none⟩ = false := (hb4.frozen (p := ⟨w.heap.size + 1 + 1, 1, none⟩) (by have := HSZ.out; simp; omega)).trans Z1
          have y2 : wr.frozen? ⟨w.heap.size + 1 + 1, 2, none⟩ = false := (hb4.frozen (p := ⟨w.heap.size + 1 + 1, 2, none⟩) (by have := HSZ.out; simp; omega)).trans Z2
          go_wp2_with fail
          refine bodyPost_ret (v := hv (some ⟨g, 0, none⟩) p cap2 a3 q cap3 r) (by simp [results, Try.results30, go_sem, g0, g1, g2]) rfl ⟨some ⟨g, 0, none⟩, cap2, a3, cap3, by rw [HYL.out], ?_, ?_, ?_⟩
          · exact (hos.newRow.grown (set3_grown (w.heap.size + 1 + 1) _ _ _ _) (fun g e => by cases e; have := HSZ.out; omega)).row
          · exact ((hn3.grown hg (fun g e => by cases e; exact HG.out)).grown (set3_grown (w.heap.size + 1 + 1) _ _ _ _) (fun g e => by cases e; have := HN2.out; omega)).row
          · exact (hbw.trans (hb4.mono (by have := HSZ.out; omega))).trans ((set3 (w.heap.size + 1 + 1) _ _ _ _).mono (by omega))
end Go.Proofs.Ytefnmjoapmnkbaa
set_option linter.unusedVariables false
namespace Go.Proofs.Ytefnmjoapmnkbaa
open Go.RowKit

/-! ### which slots may be -/
theorem rightB_name (s : ByteArray) : rightB [⟨3, s, 0⟩] = nameOk s := by
  cases h : nameOk s with
  | true => simp [rightB, endI, sk, cellOk, h, ar]
  | false => simp [rightB, endI, sk, cellOk, h]
set_option maxHeartbeats 400000 in
theorem hnamed_any (s : ByteArray) (w : World) (hs : s.size ≤ 9223372036854775807) :
    Calls Try.prog 135 #[.string s] w fun e w' => e = .returned (.bool (nameOk s)) ∧ Below w.heap.size w w' := by
  have hb0 := (Below.refl w.heap.size w).new (.cells #[.int .i64 3, .string s, .int .i64 0] 54)
  have hr : Row (w.alloc (.cells #[.int .i64 3, .string s, .int .i64 0] 54)) (some ⟨w.heap.size, 0, none⟩) 1 [(⟨3, s, 0⟩ : Cel)] := by
    refine ⟨by simp, by omega, (fun e => by cases e), fun i x hi => ?_⟩
    match i with
    | 0 =>
      simp at hi
      subst hi
      exact ⟨w.heap.size, 0, rfl, World.cell?_alloc_at _ _ _ 0 rfl, World.cell?_alloc_at _ _ _ 1 rfl, World.cell?_alloc_at _ _ _ 2 rfl, ⟨by simp, by simp, by simp, by simp, hs⟩⟩
    | i + 1 => simp at hi
  have HR : Hid (rightB [⟨3, s, 0⟩] = nameOk s) := rightB_name s
  go_enter Try.func135, Try.ntmps135
  go_wp2_with fail
  refine (right_any _ 1 _ [⟨3, s, 0⟩] hr).mono ?_
  rintro e w1 ⟨rfl, hb1⟩
  rw [HR.out]
  go_wp2_with fail
  go_ret
  exact ⟨rfl, hb0.then hb1⟩

def slotsB (l : List Cel) (k : Nat) (n : Int) : Bool := ((l.drop (k + 1)).take n.toNat).all (fun d => d.k != 4)
def topB (l : List Cel) (k : Nat) (c : Cel) : Bool := decide (0 ≤ c.n) && decide (c.n ≤ 6) && decide ((k : Int) + c.n < l.length) && nameOk c.s && slotsB l k c.n
theorem Row.between {w : World} {b off cap : Nat} {xs : List Cel} (h : Row w (some ⟨b, off, none⟩) cap xs) {i n : Nat} (hi : i + n ≤ xs.length) : Row w (some ⟨b, off + i * 3, none⟩) (cap - i) ((xs.drop i).take n) := by
  have hle := h.le
  refine ⟨by rw [List.length_take, List.length_drop]; omega, by have := h.max; omega, (fun e => by cases e), fun j x hj => ?_⟩
  rw [List.getElem?_take] at hj
  split at hj
  · rw [List.getElem?_drop] at hj
    obtain ⟨b2, off2, e, he⟩ := h.at_ _ x hj
    cases e
    refine ⟨b, _, rfl, ?_⟩
    have h1 : Rep.sz Cel = 3 := rfl
    rw [h1] at he ⊢
    rw [show off + i * 3 + j * 3 = off + (i + j) * 3 by omega]
    exact he
  · cases hj
set_option maxHeartbeats 1600000 in
theorem mayTop_any (a : Option Addr) (cap : Nat) (k : Nat) (w : World) (l : List Cel) (hr : Row w a cap l) (hk : k < l.length) :
    Calls Try.prog 104 #[.slice a l.length cap, .int .i64 k] w fun e w' => e = .returned (.bool (topB l k l[k])) ∧ Below w.heap.size w w' := by
  have hm := hr.max
  have hm2 := hr.le
  obtain ⟨b, off, rfl, hb, hat⟩ := hr.cases.resolve_left (fun e => by simp [e] at hk)
  obtain ⟨c0, c1, c2, hf⟩ := cel_at hat (Below.refl _ _) hk
  have n1 := hf.n1
  have n2 := hf.n2
  have hsz := hf.s
  obtain ⟨ans, HA⟩ : ∃ x, x = topB l k l[k] := ⟨_, rfl⟩
  rw [← HA]
  generalize l[k] = c at *
  obtain ⟨ck, cs, cn⟩ := c
  dsimp only at *
  replace HA := mkHid HA
  have hb0 := (Below.refl w.heap.size w).new (.cells #[.int .i64 ck, .string cs, .int .i64 cn] 80)
  have e1 : (w.alloc (.cells #[.int .i64 ck, .string cs, .int .i64 cn] 80)).cell? ⟨w.heap.size, 1, none⟩ = some (.string cs) := World.cell?_alloc_at _ _ _ 1 rfl
  have e2 : (w.alloc (.cells #[.int .i64 ck, .string cs, .int .i64 cn] 80)).cell? ⟨w.heap.size, 2, none⟩ = some (.int .i64 cn) := World.cell?_alloc_at _ _ _ 2 rfl
  by_cases hc : 0 ≤ cn ∧ cn ≤ 6 ∧ (k : Int) + cn < l.length
  · obtain ⟨g1, g2, g3⟩ := hc
    cases hn : nameOk cs with
    | false =>
      have HE : Hid (false = ans) := by rw [Hid, HA.out, topB]; simp [hn]
      have HN := mkHid hn
      clear hn HA
      go_enter Try.func104, Try.ntmps104
      go_wp2_with (go_at_call 135; refine (hnamed_any _ _ hsz).mono ?_; rintro e w1 ⟨rfl, hb1⟩; rw [HN.out])
      go_ret
      exact ⟨ret_bool HE.out, hb0.then hb1⟩
    | true =>
      have HE : Hid (slotsB l k cn = ans) := by
        rw [Hid, HA.out, topB]
        simp only [hn, decide_eq_true g1, decide_eq_true g2, decide_eq_true g3, Bool.true_and]
      have HN := mkHid hn
      clear hn HA
      obtain ⟨n, rfl⟩ : ∃ n : Nat, cn = n := ⟨cn.toNat, by omega⟩
      go_enter Try.func104, Try.ntmps104
      go_wp2_with (go_at_call 135; refine (hnamed_any _ _ hsz).mono ?_; rintro e w1 ⟨rfl, hb1⟩; have y2 := keep e2 hb1; rw [HN.out])
      · obtain rfl : n = 0 := by omega
        have HT : Hid (true = ans) := by rw [Hid, ← HE.out]; simp [slotsB]
        clear HE
        go_loopw [45] (fun i wr => i = .int .i64 0 ∧ Below w1.heap.size w1 wr) (fun i wr => 0)
        case atStart => exact ⟨rfl, Below.refl _ _⟩
        case round =>
          obtain ⟨rfl, hbl⟩ := hrel
          go_wp2_with fail
          go_ret
          exact ⟨ret_bool HT.out, (hb0.then hb1).then hbl⟩
      · have hrb := hr.between (i := k + 1) (n := n) (by omega)
        have HRL : Hid (((l.drop (k + 1)).take n).length = n) := by rw [Hid, List.length_take, List.length_drop]; omega
        have HR : Hid (((l.drop (k + 1)).take n).all (fun d => d.k != 4) = ans) := HE.out
        clear HE
        have hrw := hrb.below (hb0.then hb1)
        generalize (l.drop (k + 1)).take n = R at *
        go_loopw [45] (fun i wr => ∃ m : Nat, m ≤ R.length ∧ i = .int .i64 m ∧ Below w1.heap.size w1 wr ∧ Hid ((R.take m).all (fun d => d.k != 4) = true)) (fun i wr => R.length - (intOf i).toNat)
        case atStart => exact ⟨0, Nat.zero_le _, rfl, Below.refl _ _, rfl⟩
        case round =>
          obtain ⟨m, hm3, rfl, hbl, HALL⟩ := hrel
          by_cases hlt : m < R.length
          · have hlt2 : m < n := by have := HRL.out; omega
            obtain ⟨b3, off3, e3, hb3, hat3⟩ := hrw.cases.resolve_left (fun e => by simp [e] at hlt)
            cases e3
            obtain ⟨d0, d1, d2, hf3⟩ := cel_at hat3 hbl hlt
            have hnx : (R.take (m + 1)).all (fun d => d.k != 4) = (R[m].k != 4) := by
              rw [List.take_succ_eq_append_getElem hlt, List.all_append, HALL.out]; simp
            have hall : R[m].k = 4 → R.all (fun d => d.k != 4) = false := fun h => by
              rw [List.all_eq_false]; exact ⟨R[m], List.getElem_mem hlt, by simp [h]⟩
            generalize R[m] = c at *
            obtain ⟨dk, ds, dn⟩ := c
            dsimp only at *
            cases h4 : (dk == 4) with
            | true =>
              have HT : Hid (false = ans) := by rw [Hid, ← HR.out, hall (by simpa using h4)]
              clear hall hnx
              go_wp2_with fail
              go_ret
              exact ⟨ret_bool HT.out, ((hb0.then hb1).then hbl).trans ((Below.refl _ _).alloc (by have := hb1.size; have := hbl.size; simp at *; omega) _)⟩
            | false =>
              have HT : Hid ((R.take (m + 1)).all (fun d => d.k != 4) = true) := by rw [Hid, hnx]; simpa using h4
              clear hall hnx
              go_wp2_with fail
              go_round
              case rel => exact ⟨m + 1, by omega, by go_num, hbl.new _, HT⟩
              case measure => simp [intOf]; omega
          · have HT : Hid (true = ans) := by
              rw [Hid, ← HR.out]
              have := HALL.out
              rw [List.take_of_length_le (by omega)] at this
              exact this.symm
            have hge : n ≤ m := by have := HRL.out; omega
            clear HALL HR
            go_wp2_with fail
            go_ret
            exact ⟨ret_bool HT.out, (hb0.then hb1).then hbl⟩
  · have HE : Hid (false = ans) := by
      rw [Hid, HA.out, topB]
      symm
      rw [Bool.eq_false_iff]
      intro h
      simp only [Bool.and_eq_true, decide_eq_true_eq] at h
      exact hc ⟨h.1.1.1.1, h.1.1.1.2, h.1.1.2⟩
    clear HA
    go_enter Try.func104, Try.ntmps104
    by_cases q1 : cn < 0
    · go_wp2
      go_ret
      exact ⟨ret_bool HE.out, hb0⟩
    · by_cases q2 : 6 < cn
      · go_wp2
        go_ret
        exact ⟨ret_bool HE.out, hb0⟩
      · have q3 : (l.length : Int) - k ≤ cn := by omega
        clear hc
        go_wp2
        go_ret
        exact ⟨ret_bool HE.out, hb0⟩
end Go.Proofs.Ytefnmjoapmnkbaa
set_option linter.unusedVariables false
namespace Go.Proofs.Ytefnmjoapmnkbaa
open Go.RowKit

/-! ### a slot as it may be -/
def ptrB (l : List Cel) (i : Int) : Bool := if h : 0 ≤ i ∧ i < (l.length : Int) then (l[i.toNat]'(by omega)).k == 4 else false
def slotB (l : List Cel) (k : Nat) (c : Cel) : Bool :=
  if c.k = 1 then decide (c.s.toList = []) && standsB l c.n
  else if c.k = 2 then rightB [⟨2, c.s, c.n⟩]
  else if c.k = 3 then decide (c.s.toList = []) && ptrB l c.n
  else if c.k = 4 then topB l k c else false
set_option maxHeartbeats 1600000 in
theorem may_one (a : Option Addr) (cap : Nat) (k : Nat) (w : World) (l : List Cel) (hr : Row w a cap l) (hk : k < l.length) (hkk : l[k].k = 1) :
    Calls Try.prog 51 #[.slice a l.length cap, .int .i64 k] w fun e w' => e = .returned (.bool (slotB l k l[k])) ∧ Below w.heap.size w w' := by
  have hm := hr.max
  have hm2 := hr.le
  obtain ⟨b, off, rfl, hb, hat⟩ := hr.cases.resolve_left (fun e => by simp [e] at hk)
  obtain ⟨c0, c1, c2, hf⟩ := cel_at hat (Below.refl _ _) hk
  have n1 := hf.n1
  have n2 := hf.n2
  obtain ⟨ans, HA⟩ : ∃ x, x = slotB l k l[k] := ⟨_, rfl⟩
  rw [← HA]
  generalize l[k] = c at *
  obtain ⟨ck, cs, cn⟩ := c
  dsimp only at *
  subst hkk
  have HA' : Hid (ans = (decide (cs.toList = []) && (decide (0 ≤ cn) && decide (cn < (l.length : Int))))) := HA
  clear HA
  have hb0 := (Below.refl w.heap.size w).new (.cells #[.int .i64 1, .string cs, .int .i64 cn] 80)
  cases hs : decide (cs.toList = []) with
  | false =>
    have HE : Hid (false = ans) := by rw [Hid, HA'.out, hs, Bool.false_and]
    have hne : ¬ cs.toList = [] := by simpa using hs
    have hq : (cs.toList == []) = false := by simpa using hne
    clear HA' hs
    go_enter Try.func51, Try.ntmps51
    go_wp2_with fail
    go_ret
    exact ⟨ret_bool HE.out, hb0⟩
  | true =>
    have hq0 : cs.toList = [] := by simpa using hs
    cases hn : (decide (0 ≤ cn) && decide (cn < (l.length : Int))) with
    | true =>
      have HE : Hid (true = ans) := by rw [Hid, HA'.out, hs, hn, Bool.true_and]
      have HN := mkHid hn
      clear HA' hs hn
      go_enter Try.func51, Try.ntmps51
      go_wp2_with (go_at_call 81; refine (stands_any _ _ _ _ _ n1 n2).mono ?_; rintro e w1 ⟨rfl, rfl⟩; rw [HN.out])
      go_ret
      exact ⟨ret_bool HE.out, hb0⟩
    | false =>
      have HE : Hid (false = ans) := by rw [Hid, HA'.out, hs, hn, Bool.true_and]
      have HN := mkHid hn
      clear HA' hs hn
      go_enter Try.func51, Try.ntmps51
      go_wp2_with (go_at_call 81; refine (stands_any _ _ _ _ _ n1 n2).mono ?_; rintro e w1 ⟨rfl, rfl⟩; rw [HN.out])
      go_ret
      exact ⟨ret_bool HE.out, hb0⟩
set_option maxHeartbeats 1600000 in
theorem may_top (a : Option Addr) (cap : Nat) (k : Nat) (w : World) (l : List Cel) (hr : Row w a cap l) (hk : k < l.length) (hkk : l[k].k = 4) :
    Calls Try.prog 51 #[.slice a l.length cap, .int .i64 k] w fun e w' => e = .returned (.bool (slotB l k l[k])) ∧ Below w.heap.size w w' := by
  have hm := hr.max
  have hm2 := hr.le
  have HM : ∀ w2 : World, Below w.heap.size w w2 → Calls Try.prog 104 #[.slice a l.length cap, .int .i64 k] w2 fun e w' => e = .returned (.bool (slotB l k l[k])) ∧ Below w2.heap.size w2 w' := fun w2 hb => by
    have := mayTop_any a cap k w2 l (hr.below hb) hk
    rw [show slotB l k l[k] = topB l k l[k] by unfold slotB; rw [if_neg (by omega), if_neg (by omega), if_neg (by omega), if_pos hkk]]
    exact this
  obtain ⟨b, off, rfl, hb, hat⟩ := hr.cases.resolve_left (fun e => by simp [e] at hk)
  obtain ⟨c0, c1, c2, hf⟩ := cel_at hat (Below.refl _ _) hk
  generalize slotB l k l[k] = ans at *
  generalize l[k] = c at *
  obtain ⟨ck, cs, cn⟩ := c
  dsimp only at *
  subst hkk
  have hb0 := (Below.refl w.heap.size w).new (.cells #[.int .i64 4, .string cs, .int .i64 cn] 80)
  have HM' := HM _ hb0
  clear HM
  go_enter Try.func51, Try.ntmps51
  go_wp2_with fail
  refine HM'.mono ?_
  rintro e w1 ⟨rfl, hb1⟩
  go_wp2_with fail
  go_ret
  exact ⟨rfl, hb0.then hb1⟩
set_option maxHeartbeats 1600000 in
theorem may_none (a : Option Addr) (cap : Nat) (k : Nat) (w : World) (l : List Cel) (hr : Row w a cap l) (hk : k < l.length) (h1 : ¬ l[k].k = 1) (h2 : ¬ l[k].k = 2) (h3 : ¬ l[k].k = 3) (h4 : ¬ l[k].k = 4) :
    Calls Try.prog 51 #[.slice a l.length cap, .int .i64 k] w fun e w' => e = .returned (.bool (slotB l k l[k])) ∧ Below w.heap.size w w' := by
  have hm := hr.max
  have hm2 := hr.le
  have HA : Hid (slotB l k l[k] = false) := by unfold slotB; rw [Hid, if_neg h1, if_neg h2, if_neg h3, if_neg h4]
  obtain ⟨b, off, rfl, hb, hat⟩ := hr.cases.resolve_left (fun e => by simp [e] at hk)
  obtain ⟨c0, c1, c2, hf⟩ := cel_at hat (Below.refl _ _) hk
  generalize slotB l k l[k] = ans at *
  generalize l[k] = c at *
  obtain ⟨ck, cs, cn⟩ := c
  dsimp only at *
  have hb0 := (Below.refl w.heap.size w).new (.cells #[.int .i64 ck, .string cs, .int .i64 cn] 80)
  go_enter Try.func51, Try.ntmps51
  go_wp2_with fail
  go_ret
  exact ⟨ret_bool HA.out.symm, hb0⟩
set_option maxHeartbeats 1600000 in
theorem may_num (a : Option Addr) (cap : Nat) (k : Nat) (w : World) (l : List Cel) (hr : Row w a cap l) (hk : k < l.length) (hkk : l[k].k = 2) :
    Calls Try.prog 51 #[.slice a l.length cap, .int .i64 k] w fun e w' => e = .returned (.bool (slotB l k l[k])) ∧ Below w.heap.size w w' := by
  have hm := hr.max
  have hm2 := hr.le
  have HA : Hid (slotB l k l[k] = rightB [⟨2, l[k].s, l[k].n⟩]) := by unfold slotB; rw [Hid, if_neg (by omega), if_pos hkk]
  obtain ⟨b, off, rfl, hb, hat⟩ := hr.cases.resolve_left (fun e => by simp [e] at hk)
  obtain ⟨c0, c1, c2, hf⟩ := cel_at hat (Below.refl _ _) hk
  generalize slotB l k l[k] = ans at *
  generalize l[k] = c at *
  obtain ⟨ck, cs, cn⟩ := c
  dsimp only at *
  subst hkk
  have hb0 := (Below.refl w.heap.size w).new (.cells #[.int .i64 2, .string cs, .int .i64 cn] 80)
  have hf2 : (⟨2, cs, cn⟩ : Cel).fit := hf
  go_enter Try.func51, Try.ntmps51
  go_wp2_with fail
  refine (termC_any ⟨2, cs, cn⟩ _ hf2).mono ?_
  rintro e w1 ⟨rfl, hb1⟩
  have hr2 : Row (w1.alloc (.cells #[.int .i64 2, .string cs, .int .i64 cn] 54)) (some ⟨w1.heap.size, 0, none⟩) 1 [(⟨2, cs, cn⟩ : Cel)] := by
    refine ⟨by simp, by omega, (fun e => by cases e), fun i x hi => ?_⟩
    match i with
    | 0 =>
      simp at hi
      subst hi
      exact ⟨w1.heap.size, 0, rfl, World.cell?_alloc_at _ _ _ 0 rfl, World.cell?_alloc_at _ _ _ 1 rfl, World.cell?_alloc_at _ _ _ 2 rfl, hf2⟩
    | i + 1 => simp at hi
  have ht : termC ⟨2, cs, cn⟩ = ⟨2, cs, cn⟩ := by simp [termC, kindI]
  rw [ht]
  have hb2 : Below w.heap.size w (w1.alloc (.cells #[.int .i64 2, .string cs, .int .i64 cn] 54)) := (hb0.then hb1).new _
  go_wp2_with fail
  refine (right_any _ 1 _ [⟨2, cs, cn⟩] hr2).mono ?_
  rintro e w3 ⟨rfl, hb3⟩
  rw [← HA.out]
  go_wp2_with fail
  go_ret
  exact ⟨rfl, hb2.then hb3⟩
set_option maxHeartbeats 1600000 in
theorem may_ptr (a : Option Addr) (cap : Nat) (k : Nat) (w : World) (l : List Cel) (hr : Row w a cap l) (hk : k < l.length) (hkk : l[k].k = 3) :
    Calls Try.prog 51 #[.slice a l.length cap, .int .i64 k] w fun e w' => e = .returned (.bool (slotB l k l[k])) ∧ Below w.heap.size w w' := by
  have hm := hr.max
  have hm2 := hr.le
  obtain ⟨b, off, rfl, hb, hat⟩ := hr.cases.resolve_left (fun e => by simp [e] at hk)
  obtain ⟨c0, c1, c2, hf⟩ := cel_at hat (Below.refl _ _) hk
  have n1 := hf.n1
  have n2 := hf.n2
  have HA : Hid (slotB l k l[k] = (decide (l[k].s.toList = []) && ptrB l l[k].n)) := by unfold slotB; rw [Hid, if_neg (by omega), if_neg (by omega), if_pos hkk]
  generalize slotB l k l[k] = ans at *
  generalize l[k] = c at *
  obtain ⟨ck, cs, cn⟩ := c
  dsimp only at *
  subst hkk
  have hb0 := (Below.refl w.heap.size w).new (.cells #[.int .i64 3, .string cs, .int .i64 cn] 80)
  cases hs : decide (cs.toList = []) with
  | false =>
    have HE : Hid (false = ans) := by rw [Hid, HA.out, hs, Bool.false_and]
    have hne : ¬ cs.toList = [] := by simpa using hs
    have hq : (cs.toList == []) = false := by simpa using hne
    clear HA hs
    go_enter Try.func51, Try.ntmps51
    go_wp2_with fail
    go_ret
    exact ⟨ret_bool HE.out, hb0⟩
  | true =>
    have hq0 : cs.toList = [] := by simpa using hs
    by_cases hin : 0 ≤ cn ∧ cn < (l.length : Int)
    · obtain ⟨j, rfl⟩ : ∃ j : Nat, cn = j := ⟨cn.toNat, by omega⟩
      have hj : j < l.length := by omega
      have hn : (decide (0 ≤ (j : Int)) && decide ((j : Int) < (l.length : Int))) = true := by rw [← Bool.decide_and]; exact decide_eq_true hin
      have HE : Hid ((l[j].k == 4) = ans) := by rw [Hid, HA.out, hs, Bool.true_and, ptrB, dif_pos hin]; simp only [Int.toNat_natCast]
      obtain ⟨d0, d1, d2, hf3⟩ := cel_at hat hb0 hj
      generalize l[j] = c at *
      obtain ⟨dk, ds, dn⟩ := c
      dsimp only at *
      clear HA hs hin
      go_enter Try.func51, Try.ntmps51
      go_wp2_with (go_at_call 81; refine (stands_any _ _ _ _ _ n1 n2).mono ?_; rintro e w1 ⟨rfl, rfl⟩; rw [hn])
      all_goals
        go_ret
        exact ⟨ret_bool HE.out, hb0⟩
    · have hn : (decide (0 ≤ cn) && decide (cn < (l.length : Int))) = false := by rw [← Bool.decide_and]; exact decide_eq_false hin
      have HE : Hid (false = ans) := by rw [Hid, HA.out, hs, Bool.true_and, ptrB, dif_neg hin]
      clear HA hs hin
      go_enter Try.func51, Try.ntmps51
      go_wp2_with (go_at_call 81; refine (stands_any _ _ _ _ _ n1 n2).mono ?_; rintro e w1 ⟨rfl, rfl⟩; rw [hn])
      go_ret
      exact ⟨ret_bool HE.out, hb0⟩
/-- heap.may, whole -/
theorem may_slot (a : Option Addr) (cap : Nat) (k : Nat) (w : World) (l : List Cel) (hr : Row w a cap l) (hk : k < l.length) :
    Calls Try.prog 51 #[.slice a l.length cap, .int .i64 k] w fun e w' => e = .returned (.bool (slotB l k l[k])) ∧ Below w.heap.size w w' := by
  by_cases h1 : l[k].k = 1
  · exact may_one a cap k w l hr hk h1
  by_cases h2 : l[k].k = 2
  · exact may_num a cap k w l hr hk h2
  by_cases h3 : l[k].k = 3
  · exact may_ptr a cap k w l hr hk h3
  by_cases h4 : l[k].k = 4
  · exact may_top a cap k w l hr hk h4
  exact may_none a cap k w l hr hk h1 h2 h3 h4
end Go.Proofs.Ytefnmjoapmnkbaa
set_option linter.unusedVariables false
namespace Go.Proofs.Ytefnmjoapmnkbaa
open Go.RowKit

/-! ### where variables may stand -/
def knownV (m : Nat) (ps : List Int) (v : Int) : Bool := if h : 0 ≤ v ∧ v < (ps.length : Int) then
    !((ps[v.toNat]'(by omega)) != -1 && !(decide (0 ≤ (ps[v.toNat]'(by omega))) && decide ((ps[v.toNat]'(by omega)) < (m : Int)))) else true
set_option maxHeartbeats 1600000 in
theorem known_any (a : Option Addr) (m cap : Nat) (b : Option Addr) (cab : Nat) (c : Option Addr) (cac : Nat) (w : World) (xs : List Cel) (ps : List Int) (hx : Row w b cab xs) (hp : Row w c cac ps) (hri : rightB xs = true) (hl : xs.length ≤ 1000000) :
    Calls Try.prog 59 #[.slice a m cap, .slice b xs.length cab, .slice c ps.length cac] w fun e w' => e = .returned (.bool ((varsL xs).all (knownV m ps))) ∧ Below w.heap.size w w' := by
  have hm := hp.max
  have hm2 := hp.le
  have HV : Hid (∀ n ∈ varsL xs, 0 ≤ n ∧ n ≤ 999) := vars_range hri
  clear hri
  have HVA := vars_any b cab w xs hx hl
  generalize varsL xs = V at *
  go_enter Try.func59, Try.ntmps59
  go_wp2_with fail
  refine HVA.mono ?_
  rintro e w1 ⟨va, vc, rfl, hv, hb1⟩
  replace hp := hp.below hb1
  have hvm := hv.max
  have hvm2 := hv.le
  clear HVA
  go_wp2_with fail
  go_loopw [12] (fun i wr => ∃ k : Nat, k ≤ V.length ∧ i = .int .i64 k ∧ Below w1.heap.size w1 wr ∧ Hid ((V.take k).all (knownV m ps) = true)) (fun i wr => V.length - (intOf i).toNat)
  case atStart => exact ⟨0, Nat.zero_le _, rfl, Below.refl _ _, rfl⟩
  case round =>
    obtain ⟨k, hk, rfl, hbl, HS⟩ := hrel
    by_cases hlt : k < V.length
    · obtain ⟨b5, off5, rfl, hb5, hat⟩ := hv.cases.resolve_left (fun e => by simp [e] at hlt)
      obtain ⟨c0, i1, i2⟩ := int_at hat hbl hlt
      obtain ⟨v1, v2⟩ := HV.out V[k] (List.getElem_mem hlt)
      have HNX : Hid ((V.take (k + 1)).all (knownV m ps) = knownV m ps V[k]) := by
        rw [Hid, List.take_succ_eq_append_getElem hlt, List.all_append, HS.out]; simp
      have HNO : Hid (knownV m ps V[k] = false → V.all (knownV m ps) = false) := fun h => by
        rw [List.all_eq_false]; exact ⟨V[k], List.getElem_mem hlt, by simp [h]⟩
      generalize V[k] = v at *
      obtain ⟨n, rfl⟩ : ∃ n : Nat, v = n := ⟨v.toNat, by omega⟩
      by_cases hn : n < ps.length
      · obtain ⟨b6, off6, rfl, hb6, hat6⟩ := hp.cases.resolve_left (fun e => by simp [e] at hn)
        obtain ⟨d0, j1, j2⟩ := int_at hat6 hbl hn
        have HK : Hid (knownV m ps n = !(ps[n] != -1 && !(decide (0 ≤ ps[n]) && decide (ps[n] < (m : Int))))) := by
          rw [Hid, knownV, dif_pos (by omega)]; simp only [Int.toNat_natCast]
        generalize ps[n] = p at *
        cases q1 : (p != -1) with
        | false =>
          have HT : Hid ((V.take (k + 1)).all (knownV m ps) = true) := by rw [Hid, HNX.out, HK.out, q1]; rfl
          clear HNX HNO HK HS
          go_wp2_with fail
          go_round
          case rel => exact ⟨k + 1, by omega, by go_num, hbl, HT⟩
          case measure => simp [intOf]; omega
        | true =>
          cases q2 : (decide (0 ≤ p) && decide (p < (m : Int))) with
          | true =>
            have HT : Hid ((V.take (k + 1)).all (knownV m ps) = true) := by rw [Hid, HNX.out, HK.out, q1, q2]; rfl
            have HQ := mkHid q2
            clear HNX HNO HK HS q2
            go_wp2_with (go_at_call 81; refine (stands_any _ _ _ _ _ j1 j2).mono ?_; rintro e w2 ⟨rfl, rfl⟩; rw [HQ.out])
            go_round
            case rel => exact ⟨k + 1, by omega, by go_num, hbl, HT⟩
            case measure => simp [intOf]; omega
          | false =>
            have HT : Hid (false = V.all (knownV m ps)) := by rw [Hid, HNO.out (by rw [HK.out, q1, q2]; rfl)]
            have HQ := mkHid q2
            clear HNX HNO HK HS q2
            go_wp2_with (go_at_call 81; refine (stands_any _ _ _ _ _ j1 j2).mono ?_; rintro e w2 ⟨rfl, rfl⟩; rw [HQ.out])
            go_ret
            exact ⟨ret_bool HT.out, hb1.then hbl⟩
      · have HT : Hid ((V.take (k + 1)).all (knownV m ps) = true) := by
          rw [Hid, HNX.out, knownV, dif_neg (by omega)]
        clear HNX HNO HS
        go_wp2_with fail
        go_round
        case rel => exact ⟨k + 1, by omega, by go_num, hbl, HT⟩
        case measure => simp [intOf]; omega
    · have HT : Hid (true = V.all (knownV m ps)) := by
        have := HS.out
        rw [List.take_of_length_le (by omega)] at this
        exact this.symm
      clear HS
      go_wp2_with fail
      go_ret
      exact ⟨ret_bool HT.out, hb1.then hbl⟩
end Go.Proofs.Ytefnmjoapmnkbaa
set_option linter.unusedVariables false
namespace Go.Proofs.Ytefnmjoapmnkbaa
open Go.RowKit

/-! ### slots as a graph -/
def edge (l : List Cel) (a b : Nat) : Prop := ∃ h : a < l.length, leads1 l a l[a] ≤ (b : Int) ∧ (b : Int) < leads2 l a l[a]
inductive Reach (l : List Cel) : Nat → Nat → Prop where
  | refl (a : Nat) : Reach l a a
  | step {a b c : Nat} : edge l a b → Reach l b c → Reach l a c
/-- in one or more steps -/
def Path (l : List Cel) (a c : Nat) : Prop := ∃ b, edge l a b ∧ Reach l b c
def Acyc (l : List Cel) : Prop := ∀ k, Acc (fun b a => edge l a b) k
section
variable {l : List Cel} {a b c : Nat}
theorem Reach.trans (h : Reach l a b) (k : Reach l b c) : Reach l a c := by
  induction h with
  | refl => exact k
  | step e _ ih => exact .step e (ih k)
theorem Reach.one (h : edge l a b) : Reach l a b := .step h (.refl _)
theorem Path.one (h : edge l a b) : Path l a b := ⟨b, h, .refl _⟩
theorem Path.reach (h : Path l a b) : Reach l a b := let ⟨_, e, r⟩ := h; .step e r
theorem Path.snoc (h : Path l a b) (k : edge l b c) : Path l a c := let ⟨d, e, r⟩ := h; ⟨d, e, r.trans (.one k)⟩
theorem Path.of_reach (h : Reach l a b) (k : edge l b c) : Path l a c := by
  cases h with
  | refl => exact .one k
  | step e r => exact ⟨_, e, r.trans (.one k)⟩
theorem Path.trans (h : Path l a b) (k : Reach l b c) : Path l a c := let ⟨d, e, r⟩ := h; ⟨d, e, r.trans k⟩
theorem Reach.cases' (h : Reach l a b) : a = b ∨ Path l a b := by
  cases h with
  | refl => exact .inl rfl
  | step e r => exact .inr ⟨_, e, r⟩
theorem edge.lt (h : edge l a b) : a < l.length ∧ b < l.length := by
  obtain ⟨ha, h1, h2⟩ := h
  refine ⟨ha, ?_⟩
  unfold leads1 at h1
  unfold leads2 at h2
  by_cases h4 : l[a].k = 4
  · rw [if_pos h4] at h1 h2
    omega
  · rw [if_neg h4] at h1 h2
    by_cases hs : onwardB l[a] a = true ∧ standsB l l[a].n = true
    · rw [if_pos hs] at h1 h2
      have := hs.2
      simp [standsB] at this
      omega
    · rw [if_neg hs] at h1 h2
      omega
theorem Reach.lt (h : Reach l a b) (ha : a < l.length) : b < l.length := by
  induction h with
  | refl => exact ha
  | step e _ ih => exact ih e.lt.2
/-- what leads nowhere but there has no circle -/
theorem no_path_of_acc (h : Acc (fun b a => edge l a b) a) : ¬ Path l a a := by
  induction h with
  | intro x _ ih =>
    rintro ⟨b, e, r⟩
    exact ih b e (Path.of_reach r e)
theorem Acyc.no_path (h : Acyc l) (a : Nat) : ¬ Path l a a := no_path_of_acc (h a)
theorem acyc_of_lt (h : ∀ k, k < l.length → Acc (fun b a => edge l a b) k) : Acyc l := fun k => by
  by_cases hk : k < l.length
  · exact h k hk
  · exact ⟨_, fun b e => absurd e.lt.1 hk⟩
/-- with a rank that falls there is no circle -/
theorem acyc_of_rank (f : Nat → Nat) (h : ∀ a b, edge l a b → f b < f a) : Acyc l := by
  intro k
  have : ∀ n k, f k < n → Acc (fun b a => edge l a b) k := by
    intro n
    induction n with
    | zero => intro k hk; omega
    | succ n ih => intro k hk; exact ⟨_, fun b e => ih b (by have := h k b e; omega)⟩
  exact this _ k (Nat.lt_succ_self _)

/-! ### going into slots, depth first -/
/-- states of slots: 0 unseen, 1 open, 2 done -/
structure Dfs (l : List Cel) (st : List Int) : Prop where
  len : st.length = l.length
  vals : ∀ (x : Nat) (v : Int), st[x]? = some v → v = 0 ∨ v = 1 ∨ v = 2
  done : ∀ x : Nat, st[x]? = some 2 → Acc (fun b a => edge l a b) x
def Opens (l : List Cel) (st : List Int) (k : Nat) : Prop := ∀ x : Nat, st[x]? = some 1 → Path l x k
def zerosI (st : List Int) : Nat := (st.filter fun v => v == 0).length
/-- what entering a slot tells, when it is over -/
def DfsEnd (l : List Cel) (st : List Int) (k : Nat) (b : Bool) (st' : List Int) : Prop :=
  (b = true ∧ ∃ x, Path l x x) ∨ (b = false ∧ Dfs l st' ∧ Acc (fun b a => edge l a b) k ∧ (∀ x : Nat, st'[x]? = some 1 ↔ st[x]? = some 1) ∧ zerosI st' ≤ zerosI st)
theorem zerosI_set {st : List Int} {k : Nat} (h : st[k]? = some 0) {v : Int} (hv : v ≠ 0) : zerosI (st.set k v) + 1 = zerosI st := by
  induction st generalizing k with
  | nil => simp at h
  | cons x st ih =>
    cases k with
    | zero =>
      simp at h
      subst h
      simp [zerosI, hv]
    | succ k =>
      rw [List.getElem?_cons_succ] at h
      have := ih h
      simp only [zerosI, List.set_cons_succ] at this ⊢
      by_cases hx : x = 0 <;> simp [hx] at this ⊢ <;> omega
theorem zerosI_set_le {st : List Int} {k : Nat} {v : Int} (hv : v ≠ 0) : zerosI (st.set k v) ≤ zerosI st := by
  induction st generalizing k with
  | nil => simp
  | cons x st ih =>
    cases k with
    | zero => by_cases hx : x = 0 <;> simp [zerosI, hv, hx]
    | succ k =>
      have := ih (k := k)
      simp only [zerosI, List.set_cons_succ] at this ⊢
      by_cases hx : x = 0 <;> simp [hx] at this ⊢ <;> omega
/-- between two of a slot's ways on -/
structure DfsGo (l : List Cel) (st : List Int) (k : Nat) (lo at_ : Int) (s : List Int) : Prop where
  dfs : Dfs l s
  ones : ∀ x : Nat, s[x]? = some 1 ↔ (st.set k 1)[x]? = some 1
  zeros : zerosI s < zerosI st
  been : ∀ b : Nat, lo ≤ (b : Int) → (b : Int) < at_ → Acc (fun b a => edge l a b) b
theorem DfsGo.start {st : List Int} {k : Nat} (h : Dfs l st) (h0 : st[k]? = some 0) (lo : Int) : DfsGo l st k lo lo (st.set k 1) := by
  refine ⟨⟨by rw [List.length_set]; exact h.len, fun x v hx => ?_, fun x hx => ?_⟩, fun x => Iff.rfl, ?_, fun b h1 h2 => by omega⟩
  · by_cases e : k = x
    · subst e
      rw [List.getElem?_set_self (List.getElem?_eq_some_iff.1 h0).1] at hx
      cases hx
      exact .inr (.inl rfl)
    · rw [List.getElem?_set_ne e] at hx
      exact h.vals x v hx
  · by_cases e : k = x
    · subst e
      rw [List.getElem?_set_self (List.getElem?_eq_some_iff.1 h0).1] at hx
      cases hx
    · rw [List.getElem?_set_ne e] at hx
      exact h.done x hx
  · have := zerosI_set h0 (v := 1) (by decide)
    omega
theorem DfsGo.opens {st s : List Int} {k : Nat} {lo at_ : Int} (h : DfsGo l st k lo at_ s) (hk : k < l.length) (ho : Opens l st k) {b : Nat} (he : edge l k b) : Opens l s b := by
  intro x hx
  have hx' := (h.ones x).1 hx
  by_cases e : k = x
  · subst e
    exact .one he
  · rw [List.getElem?_set_ne e] at hx'
    exact (ho x hx').snoc he
theorem DfsGo.next {st s s' : List Int} {k : Nat} {lo : Int} {b : Nat} (h : DfsGo l st k lo b s) (h' : DfsEnd l s b false s') : DfsGo l st k lo (b + 1) s' := by
  rcases h' with ⟨e, _⟩ | ⟨_, h1, h2, h3, h4⟩
  · cases e
  · refine ⟨h1, fun x => (h3 x).trans (h.ones x), Nat.lt_of_le_of_lt h4 h.zeros, fun c c1 c2 => ?_⟩
    by_cases e : (c : Int) < b
    · exact h.been c c1 e
    · have : c = b := by omega
      subst this; exact h2
theorem DfsGo.stop {st s : List Int} {k : Nat} (hk : k < l.length) {hi : Int} (h : DfsGo l st k (leads1 l k l[k]) hi s) (hh : leads2 l k l[k] ≤ hi) (h0 : st[k]? = some 0) : DfsEnd l st k false (s.set k 2) := by
  have hacc : Acc (fun b a => edge l a b) k := ⟨_, fun b ⟨_, e1, e2⟩ => h.been b e1 (by omega)⟩
  have hkl : k < s.length := by rw [h.dfs.len]; exact hk
  refine .inr ⟨rfl, ⟨by rw [List.length_set]; exact h.dfs.len, fun x v hx => ?_, fun x hx => ?_⟩, hacc, fun x => ?_, ?_⟩
  · by_cases e : k = x
    · subst e
      rw [List.getElem?_set_self hkl] at hx
      cases hx
      exact .inr (.inr rfl)
    · rw [List.getElem?_set_ne e] at hx
      exact h.dfs.vals x v hx
  · by_cases e : k = x
    · subst e; exact hacc
    · rw [List.getElem?_set_ne e] at hx
      exact h.dfs.done x hx
  · by_cases e : k = x
    · subst e
      rw [List.getElem?_set_self hkl]
      rw [h0]
      simp
    · rw [List.getElem?_set_ne e, h.ones x, List.getElem?_set_ne e]
  · exact Nat.le_trans (zerosI_set_le (by decide)) (Nat.le_of_lt h.zeros)
theorem Dfs.init (l : List Cel) : Dfs l (List.replicate l.length 0) := by
  refine ⟨by simp, fun x v hx => ?_, fun x hx => ?_⟩
  · rw [List.getElem?_replicate] at hx
    split at hx <;> simp at hx
    exact .inl hx.symm
  · rw [List.getElem?_replicate] at hx
    split at hx <;> simp at hx
end
/-- no slot leads to itself: what the search tells -/
theorem DfsEnd.acyc {l : List Cel} {st st' : List Int} {k : Nat} {b : Bool} (h : DfsEnd l st k b st') (hb : b = true) : ¬ Acyc l := by
  rcases h with ⟨_, x, hx⟩ | ⟨e, _⟩
  · exact fun h => h.no_path x hx
  · rw [hb] at e; cases e

/-! ### what a place leads to -/
/-- a search: what was met, what is to do -/
structure Seek (l : List Cel) (src : Nat) (met : List Bool) (todo : List Int) : Prop where
  len : met.length = l.length
  dues : ∀ x ∈ todo, ∃ k : Nat, x = k ∧ Reach l src k ∧ k < l.length
  met_ : ∀ k : Nat, met[k]? = some true → Reach l src k
  next : ∀ k b : Nat, met[k]? = some true → edge l k b → met[b]? = some true ∨ (b : Int) ∈ todo
  src : met[src]? = some true ∨ (src : Int) ∈ todo
theorem Seek.init {l : List Cel} {s : Nat} (h : s < l.length) : Seek l s (List.replicate l.length false) [(s : Int)] := by
  refine ⟨by simp, fun x hx => ?_, fun k hk => ?_, fun k b hk => ?_, .inr (by simp)⟩
  · simp at hx; exact ⟨s, hx, .refl _, h⟩
  · rw [List.getElem?_replicate] at hk; split at hk <;> simp at hk
  · rw [List.getElem?_replicate] at hk; split at hk <;> simp at hk
theorem Seek.over {l : List Cel} {s g : Nat} {met : List Bool} (h : Seek l s met []) (hg : Reach l s g) : met[g]? = some true := by
  have h0 : met[s]? = some true := by rcases h.src with h | h; exact h; simp at h
  induction hg with
  | refl => exact h0
  | @step a b c e r ih =>
    have : met[b]? = some true := by
      rcases h.next a b h0 e with h | h
      · exact h
      · simp at h
    have h2 : ∀ a c, Reach l a c → met[a]? = some true → met[c]? = some true := by
      intro a c hr
      induction hr with
      | refl => exact id
      | step e _ ih =>
        intro ha
        refine ih ?_
        rcases h.next _ _ ha e with h | h
        · exact h
        · simp at h
    exact h2 b c r this
/-- numbers from one on -/
def fromI (lo : Int) (m : Nat) : List Int := (List.range m).map (fun i : Nat => lo + (i : Int))
theorem fromI_succ (lo : Int) (m : Nat) : fromI lo (m + 1) = fromI lo m ++ [lo + m] := by unfold fromI; rw [List.range_succ, List.map_append]; rfl
theorem fromI_length (lo : Int) (m : Nat) : (fromI lo m).length = m := by simp [fromI]
theorem mem_fromI {lo : Int} {m : Nat} {x : Int} : x ∈ fromI lo m ↔ lo ≤ x ∧ x < lo + m := by
  unfold fromI
  rw [List.mem_map]
  constructor
  · rintro ⟨i, hi, rfl⟩
    rw [List.mem_range] at hi
    omega
  · rintro ⟨h1, h2⟩
    exact ⟨(x - lo).toNat, by rw [List.mem_range]; omega, by omega⟩
theorem Seek.skip {l : List Cel} {s k : Nat} {met : List Bool} {t : List Int} (h : Seek l s met (t ++ [(k : Int)])) (hk : met[k]? = some true) : Seek l s met t := by
  have hn : ∀ b : Nat, (b : Int) ∈ t ++ [(k : Int)] → met[b]? = some true ∨ (b : Int) ∈ t := fun b hb => by
    rcases List.mem_append.1 hb with hb | hb
    · exact .inr hb
    · simp at hb
      have : b = k := by omega
      subst this; exact .inl hk
  refine ⟨h.len, fun x hx => h.dues x (List.mem_append_left _ hx), h.met_, fun a b ha e => ?_, ?_⟩
  · rcases h.next a b ha e with h1 | h1
    · exact .inl h1
    · exact hn b h1
  · rcases h.src with h1 | h1
    · exact .inl h1
    · exact hn s h1
theorem Seek.expand {l : List Cel} {s k : Nat} {met : List Bool} {t : List Int} (h : Seek l s met (t ++ [(k : Int)])) (hk : k < l.length) {m : Nat} (hm : (m : Int) = max (leads2 l k l[k] - leads1 l k l[k]) 0) : Seek l s (met.set k true) (t ++ fromI (leads1 l k l[k]) m) := by
  have hkm : k < met.length := by rw [h.len]; exact hk
  have hR : Reach l s k := by
    obtain ⟨k', e, hr, _⟩ := h.dues k (by simp)
    have : k = k' := by omega
    subst this; exact hr
  have hold : ∀ b : Nat, met[b]? = some true → (met.set k true)[b]? = some true := fun b hb => by
    by_cases e : k = b
    · subst e; rw [List.getElem?_set_self hkm]
    · rw [List.getElem?_set_ne e]; exact hb
  have hn : ∀ b : Nat, (b : Int) ∈ t ++ [(k : Int)] → (met.set k true)[b]? = some true ∨ (b : Int) ∈ t ++ fromI (leads1 l k l[k]) m := fun b hb => by
    rcases List.mem_append.1 hb with hb | hb
    · exact .inr (List.mem_append_left _ hb)
    · simp at hb
      have : b = k := by omega
      subst this; exact .inl (List.getElem?_set_self hkm)
  have hed : ∀ b : Nat, (b : Int) ∈ fromI (leads1 l k l[k]) m ↔ edge l k b := fun b => by
    rw [mem_fromI]
    constructor
    · rintro ⟨h1, h2⟩; exact ⟨hk, h1, by omega⟩
    · rintro ⟨_, h1, h2⟩; exact ⟨h1, by omega⟩
  refine ⟨by rw [List.length_set]; exact h.len, fun x hx => ?_, fun a ha => ?_, fun a b ha e => ?_, ?_⟩
  · rcases List.mem_append.1 hx with hx | hx
    · exact h.dues x (List.mem_append_left _ hx)
    · have h0 : 0 ≤ x := by
        have := (mem_fromI.1 hx).1
        have : 0 ≤ leads1 l k l[k] := by
          unfold leads1
          split
          · omega
          · split
            · rename_i hs; have := hs.2; simp [standsB] at this; omega
            · omega
        omega
      obtain ⟨b, rfl⟩ : ∃ b : Nat, x = b := ⟨x.toNat, by omega⟩
      have e := (hed b).1 hx
      exact ⟨b, rfl, hR.trans (.one e), e.lt.2⟩
  · by_cases e : k = a
    · subst e; exact hR
    · rw [List.getElem?_set_ne e] at ha; exact h.met_ a ha
  · by_cases ek : k = a
    · subst ek; exact .inr (List.mem_append_right _ ((hed b).2 e))
    · rw [List.getElem?_set_ne ek] at ha
      rcases h.next a b ha e with h1 | h1
      · exact .inl (hold b h1)
      · exact hn b h1
  · rcases h.src with h1 | h1
    · exact .inl (hold s h1)
    · exact hn s h1
def falsesB (met : List Bool) : Nat := (met.filter fun v => !v).length
theorem falsesB_set {st : List Bool} {k : Nat} (h : st[k]? = some false) : falsesB (st.set k true) + 1 = falsesB st := by
  induction st generalizing k with
  | nil => simp at h
  | cons x st ih =>
    cases k with
    | zero =>
      simp at h
      subst h
      simp [falsesB]
    | succ k =>
      rw [List.getElem?_cons_succ] at h
      have := ih h
      simp only [falsesB, List.set_cons_succ] at this ⊢
      cases x <;> simp at this ⊢ <;> omega
theorem leads_few (l : List Cel) (k : Nat) (hk : k < l.length) : leads2 l k l[k] - leads1 l k l[k] ≤ l.length := by
  unfold leads1 leads2
  split
  · omega
  · split <;> omega
theorem leads_range (l : List Cel) (k : Nat) (hk : k < l.length) : 0 ≤ leads1 l k l[k] ∧ leads1 l k l[k] ≤ l.length ∧ leads2 l k l[k] ≤ l.length := by
  unfold leads1 leads2
  split
  · omega
  · split
    · rename_i hs; have := hs.2; simp [standsB] at this; omega
    · omega
end Go.Proofs.Ytefnmjoapmnkbaa
namespace Go.Proofs.Ytefnmjoapmnkbaa
open Go.RowKit

/-- append of one element, and what is read beside the row -/
theorem wpList_accK {α : Type} [RepC α] {P : Program} {w : World} {ops : Array Oper} {rest : List Oper} {o : Oper} {a : Act} {Q : Exit → Act → World → Prop} (hgd : o.guard = none) (s x : Operand) (t : TypeId)
    (ho : o.op = .call { callee := .builtin .append, args := #[s, x], argTypes := #[t, t] })
    (B e bytes : Nat) (z : Value) (ht : P.underlying t = some (.slice e)) (hinfo : (P.info? e).map (fun i => (i.zero, i.size, i.bytes)) = some (some z, Rep.sz α, bytes))
    (hzs : z.cells.size = Rep.sz α) (hby : bytes ≤ 1000)
    (v : Value) (acc : List α) (hacc : AccInv B e acc v w) (hs : a.eval s = v) (T : Nat) (cs : Array Value) (y : α) (hcs : RepC.C (hide v.ownBlock w) cs.toList y)
    (hx : a.eval x = .slice (some ⟨w.heap.size, 0, none⟩) 1 1)
    (hmax : acc.length + 1 ≤ 1000000000) (hB : B ≤ w.heap.size)
    (h : ∀ v' w', AccInv B e (acc ++ [y]) v' w' → Below B w w' → Keeps (hide v.ownBlock w) (hide v'.ownBlock w') → wpList P ops Q rest (a.put o.dst v') w') : wpList P ops Q (o :: rest) a (w.alloc (.cells cs T)) := by
  obtain ⟨vs, hown, hc⟩ := hacc.ex
  refine wpList_app2 hgd s x t ho B e (Rep.sz α) bytes z ht hinfo hzs RepC.pos hby v acc.length vs hs (hown.alloc _) ⟨w.heap.size, 0, none⟩ 1 1 cs.toList hx (src_new w cs T (Rep.sz α) (by have := RepC.len hcs; simpa using this) (fun u hu => RepC.one hcs u hu)) hmax (Nat.le_trans hB (by simp)) ?_
  intro v' w' h1 _ h3 h4
  refine h v' w' ⟨vs ++ cs.toList, by rw [List.length_append]; exact h1, ?_⟩ (((Below.refl B w).alloc hB _).trans h3) ((alloc_hide w _ _).trans h4)
  exact ((hc.keeps (alloc_hide w _ _)).keeps h4).snoc (RepC.cmono (RepC.cmono hcs (alloc_hide w _ _)) h4)
/-- append of all of a slice, and what is read beside the row -/
theorem wpList_accsK {α : Type} [RepC α] {P : Program} {w : World} {ops : Array Oper} {rest : List Oper} {o : Oper} {a : Act} {Q : Exit → Act → World → Prop} (hgd : o.guard = none) (s x : Operand) (t : TypeId)
    (ho : o.op = .call { callee := .builtin .append, args := #[s, x], argTypes := #[t, t] })
    (B e bytes : Nat) (z : Value) (ht : P.underlying t = some (.slice e)) (hinfo : (P.info? e).map (fun i => (i.zero, i.size, i.bytes)) = some (some z, Rep.sz α, bytes))
    (hzs : z.cells.size = Rep.sz α) (hby : bytes ≤ 1000)
    (v : Value) (acc : List α) (hacc : AccInv B e acc v w) (hs : a.eval s = v) (sa : Option Addr) (cap : Nat) (ys : List α) (hr : Row (hide v.ownBlock w) sa cap ys)
    (hx : a.eval x = .slice sa ys.length cap)
    (hmax : acc.length + ys.length ≤ 1000000000) (hB : B ≤ w.heap.size)
    (h : ∀ v' w', AccInv B e (acc ++ ys) v' w' → Below B w w' → Keeps (hide v.ownBlock w) (hide v'.ownBlock w') → wpList P ops Q rest (a.put o.dst v') w') : wpList P ops Q (o :: rest) a w := by
  obtain ⟨vs, hown, hc⟩ := hacc.ex
  obtain ⟨us, hu, hsrc⟩ := hr.srcK (hide_keeps _ _)
  cases sa with
  | none =>
    have h0 : ys.length = 0 := (hsrc.nil rfl).1
    have hc0 : cap = 0 := (hsrc.nil rfl).2
    obtain rfl : ys = [] := List.eq_nil_of_length_eq_zero h0
    obtain ⟨i, hi, hz0, hz1, hz2⟩ := info_parts hinfo
    subst hc0
    refine wpList_append_own_none hgd s x t ho B e i (Rep.sz α) ht hi v acc.length vs hs hown hx ?_
    exact h v w ⟨vs, by rw [List.append_nil]; exact hown, by rw [List.append_nil]; exact hc⟩ (Below.refl _ _) (fun _ _ _ h => h)
  | some ad =>
    refine wpList_app2 hgd s x t ho B e (Rep.sz α) bytes z ht hinfo hzs RepC.pos hby v acc.length vs hs hown ad ys.length cap us hx hsrc hmax hB ?_
    intro v' w' h1 _ h3 h4
    exact h v' w' ⟨vs ++ us, by rw [List.length_append]; exact h1, (hc.keeps h4).append (hu.keeps h4)⟩ h3 h4

set_option maxHeartbeats 800000 in
theorem refvars_new (a : Option Addr) (cap : Nat) (w : World) (xs : List Cel) (hr : Row w a cap xs) (hl : xs.length ≤ 1000000) :
    Calls Try.prog 34 #[.slice a xs.length cap] w fun e w' => ∃ a' cap', e = .returned (.slice a' (varsL xs).length cap') ∧ NewRow w.heap.size w' a' cap' (varsL xs) ∧ Below w.heap.size w w' := by
  have hc := hr.le
  have hc2 := hr.max
  have hm0 := World.ownsRow_made (base := w.heap.size) (e := 3) (size := 1) w #[] 0 (Nat.le_refl _) (by unfold maxLen; omega) rfl
  have hb0 := (Below.refl w.heap.size w).new (.cells #[] 3)
  go_enter Try.func34, Try.ntmps34
  go_wp2_with fail
  go_loopw [3, 4] (fun v i wr => ∃ (k : Nat) (acc : List Int), k ≤ xs.length ∧ acc.length ≤ k ∧ i = .int .i64 k ∧ wr.ownsRow w.heap.size 3 1 v acc.length (acc.map (Value.int .i64)) ∧ Below w.heap.size w wr ∧ (∀ n ∈ acc, -9223372036854775808 ≤ n ∧ n ≤ 9223372036854775807) ∧ Hid (varsL xs = varsGo acc (xs.drop k))) (fun v i wr => xs.length - (intOf i).toNat)
  case atStart => exact ⟨0, [], Nat.zero_le _, Nat.zero_le _, rfl, hm0, hb0, by simp, rfl⟩
  case round =>
    obtain ⟨k, acc, hk, hak, rfl, hown, hbl, haf, HS⟩ := hrel
    obtain ⟨a', cap', rfl, hrowN⟩ := own_rowI (under_own hown) haf
    have hrow := Row.keeps hrowN (under_keeps _ _)
    have HN := mkHid hrowN
    clear hrowN
    have HA := mkHid haf
    by_cases hlt : k < xs.length
    · obtain ⟨b, off, rfl, hb, hat⟩ := hr.cases.resolve_left (fun e => by simp [e] at hlt)
      obtain ⟨c0, c1, c2, hf⟩ := cel_at hat hbl hlt
      have hst := varsGo_step acc xs k hlt
      by_cases h1 : xs[k].k = 1
      · have t1 : (xs[k].k == 1) = true := by simp [h1]
        by_cases h2 : xs[k].n ∈ acc
        · have HT : Hid (varsL xs = varsGo acc (xs.drop (k + 1))) := by rw [Hid, HS.out, hst, if_neg (by simp [h2])]
          have hd := mkHid (decide_eq_true h2)
          clear h1 h2 HS hst haf
          go_wp2_with (go_at_call 35; refine (refin_any a' cap' xs[k].n _ acc hrow).mono ?_; rintro e w' ⟨rfl, hb1⟩; rw [hd.out])
          go_round
          case rel => exact ⟨k + 1, acc, by omega, by omega, by go_num, own_below hown hb1, hbl.then hb1, HA.out, HT⟩
          case measure => simp [intOf]; omega
        · have HT : Hid (varsL xs = varsGo (acc ++ [xs[k].n]) (xs.drop (k + 1))) := by rw [Hid, HS.out, hst, if_pos ⟨h1, h2⟩]
          have hd := mkHid (decide_eq_false h2)
          clear h1 h2 HS hst haf
          go_wp2_with (first
            | (go_at_call 35; refine (refin_any a' cap' xs[k].n _ acc hrow).mono ?_; rintro e w' ⟨rfl, hb1⟩; rw [hd.out]; have d0 := keep c0 hb1; have d2 := keep c2 hb1; have hown1 := own_below hown hb1; have hbl1 := hbl.then hb1; clear c0 c1 c2)
            | (at_builtin; refine wpList_app rfl _ _ 23 rfl w.heap.size 3 1 8 _ Try.underlying23 Try.infoInt rfl (by decide) (by decide) _ acc.length _ rfl (hown1.alloc _) (some ⟨_, 0, none⟩) 1 1 [.int .i64 xs[k].n] rfl (src_new _ #[.int .i64 xs[k].n] _ 1 rfl (by simp [Value.oneCell'])) (by omega) (Nat.le_trans hbl1.size (by simp)) ?_; intro v' w2 hown2 _ hb2))
          go_round
          case rel => exact ⟨k + 1, acc ++ [xs[k].n], by omega, by simp; omega, by go_num, by simpa using hown2, (hbl1.new _).trans hb2, out_fit HA.out hf.n1 hf.n2, HT⟩
          case measure => simp [intOf]; omega
      · have t1 : (xs[k].k == 1) = false := by simp [h1]
        have HT : Hid (varsL xs = varsGo acc (xs.drop (k + 1))) := by rw [Hid, HS.out, hst, if_neg (fun h => h1 h.1)]
        clear h1 HS hst haf
        go_wp2
        go_round
        case rel => exact ⟨k + 1, acc, by omega, by omega, by go_num, hown, hbl, HA.out, HT⟩
        case measure => simp [intOf]; omega
    · have HT : Hid (varsL xs = acc) := by rw [Hid, HS.out, List.drop_eq_nil_of_le (by omega)]; rfl
      clear HS haf
      go_wp2
      go_ret
      exact ⟨a', cap', by rw [HT.out]; rfl, by rw [HT.out]; exact HN.out, hbl⟩
end Go.Proofs.Ytefnmjoapmnkbaa
namespace Go.Proofs.Ytefnmjoapmnkbaa
open Go.RowKit

/-- all blocks that were there, but some, are as they were -/
structure Fr (us : List Nat) (w w' : World) : Prop where
  os : w'.os = w.os
  tape : w'.tape = w.tape
  output : w'.output = w.output
  size : w.heap.size ≤ w'.heap.size
  block : ∀ k, k < w.heap.size → k ∉ us → w'.heap[k]? = w.heap[k]?
section
variable {us : List Nat} {w w' w'' : World}
theorem Fr.refl (us : List Nat) (w : World) : Fr us w w := ⟨rfl, rfl, rfl, Nat.le_refl _, fun _ _ _ => rfl⟩
theorem Fr.trans (h : Fr us w w') (k : Fr us w' w'') : Fr us w w'' :=
  ⟨k.os.trans h.os, k.tape.trans h.tape, k.output.trans h.output, Nat.le_trans h.size k.size, fun i hi hn => (k.block i (Nat.lt_of_lt_of_le hi h.size) hn).trans (h.block i hi hn)⟩
theorem Fr.of (h : Below w.heap.size w w') : Fr us w w' := ⟨h.os, h.tape, h.output, h.size, fun k hk _ => h.block k hk⟩
theorem Fr.alloc (h : Fr us w w') (o : Obj) : Fr us w (w'.alloc o) := h.trans (Fr.of ((Below.refl _ _).new o))
theorem Fr.drew (h : Fr us w w') : Fr us w w'.drew := h.trans (Fr.of (Below.refl _ _).drew)
theorem Fr.set (h : Fr us w w') {g k : Nat} (hg : g ∈ us) (v : Value) : Fr us w (w'.setCell ⟨g, k, none⟩ v) :=
  h.trans ⟨rfl, rfl, rfl, by simp [World.setCell], fun i _ hn => Below.heap_setCell _ _ _ _ (fun e => hn (by rw [show i = g from e]; exact hg))⟩
theorem Fr.sub {vs : List Nat} (h : Fr us w w') (hs : ∀ k ∈ us, k ∈ vs) : Fr vs w w' := ⟨h.os, h.tape, h.output, h.size, fun k hk hn => h.block k hk fun e => hn (hs k e)⟩
/-- what lies below all of them is as it was -/
theorem Fr.below (h : Fr us w w') {B : Nat} (hB : B ≤ w.heap.size) (hu : ∀ k ∈ us, B ≤ k) : Below B w w' :=
  ⟨h.os, h.tape, h.output, h.size, fun k hk => h.block k (by omega) fun e => by have := hu k e; omega⟩
/-- blocks that are newer than the first world don't count -/
theorem Fr.fresh {vs : List Nat} (h : Fr (vs ++ us) w w') (hv : ∀ k ∈ vs, w.heap.size ≤ k) : Fr us w w' :=
  ⟨h.os, h.tape, h.output, h.size, fun k hk hn => h.block k hk fun e => by
    rcases List.mem_append.1 e with e | e
    · have := hv k e; omega
    · exact hn e⟩
end
/-- the world without some blocks -/
def veil (us : List Nat) (w : World) : World := { w with heap := w.heap.mapIdx fun i o => if i ∈ us then .cells #[] 0 else o }
theorem veil_heap {us : List Nat} {w : World} {b : Nat} (h : b ∉ us) : (veil us w).heap[b]? = w.heap[b]? := by
  unfold veil
  rw [Array.getElem?_mapIdx]
  cases hw : w.heap[b]? with
  | none => rfl
  | some o => simp [h]
theorem veil_cell {us : List Nat} {w : World} {b o : Nat} {v : Value} (h : (veil us w).cell? ⟨b, o, none⟩ = some v) : b ∉ us ∧ w.cell? ⟨b, o, none⟩ = some v := by
  by_cases hb : b ∈ us
  · exfalso
    unfold veil at h
    simp only [World.cell?, Array.getElem?_mapIdx] at h
    cases hw : w.heap[b]? with
    | none => rw [hw] at h; simp at h
    | some o => rw [hw] at h; simp [hb] at h
  · refine ⟨hb, ?_⟩
    rwa [World.cell?, veil_heap hb] at h
theorem veil_of {us : List Nat} {w : World} {b o : Nat} {v : Value} (hb : b ∉ us) (h : w.cell? ⟨b, o, none⟩ = some v) : (veil us w).cell? ⟨b, o, none⟩ = some v := by
  rwa [World.cell?, veil_heap hb]
theorem veil_keeps (us : List Nat) (w : World) : Keeps (veil us w) w := fun _ _ _ h => (veil_cell h).2
theorem Fr.keeps {us : List Nat} {w w' : World} (h : Fr us w w') : Keeps (veil us w) (veil us w') := by
  intro b o v hc
  obtain ⟨hb, hc'⟩ := veil_cell hc
  exact veil_of hb ((World.cell?_of_block (w := w) (a := ⟨b, o, none⟩) (h.block b (cell_lt hc') hb)).trans hc')
/-- what is elder than all of them is read without them -/
theorem veil_fresh {w0 w : World} {us : List Nat} (h : Keeps w0 w) (hu : ∀ k ∈ us, w0.heap.size ≤ k) : Keeps w0 (veil us w) := fun b o v hc => by
  have hl := cell_lt hc
  exact veil_of (fun e => by have := hu b e; omega) (h _ _ _ hc)
theorem veil_mono {us vs : List Nat} (w : World) (h : ∀ k ∈ vs, k ∈ us) : Keeps (veil us w) (veil vs w) := fun b o v hc => by
  obtain ⟨hb, hc'⟩ := veil_cell hc
  exact veil_of (fun e => hb (h b e)) hc'

/-- a block of numbers -/
def RowU (w : World) (u : Nat) (U : List Int) : Prop := w.heap[u]? = some (.cells (U.map (Value.int .i64)).toArray 3 (0, 0))
section
variable {us : List Nat} {w w' : World} {u : Nat} {U : List Int}
theorem RowU.lt (h : RowU w u U) : u < w.heap.size := by
  unfold RowU at h
  exact (Array.getElem?_eq_some_iff.1 h).1
theorem RowU.read (h : RowU w u U) {k : Nat} (hk : k < U.length) : w.cell? ⟨u, k, none⟩ = some (.int .i64 U[k]) := by
  rw [cell_of_row w u k _ _ _ h]; simp [hk]
theorem RowU.free (h : RowU w u U) (k : Nat) : w.frozen? ⟨u, k, none⟩ = false := by
  unfold RowU at h
  simp [World.frozen?, h]
theorem RowU.set (h : RowU w u U) (k : Nat) (v : Int) : RowU (w.setCell ⟨u, k, none⟩ (.int .i64 v)) u (U.set k v) := by
  unfold RowU at *
  have hl := (Array.getElem?_eq_some_iff.1 h).1
  simp only [World.setCell, Array.getElem?_modify, if_true, h, Option.map_some]
  simp
theorem RowU.fr (h : RowU w u U) (hf : Fr us w w') (hu : u ∉ us) : RowU w' u U := (hf.block u h.lt hu).trans h
theorem RowU.below (h : RowU w u U) (hb : Below w.heap.size w w') : RowU w' u U := (hb.block u h.lt).trans h
theorem RowU.alloc (h : RowU w u U) (o : Obj) : RowU (w.alloc o) u U := h.below ((Below.refl _ _).new o)
theorem RowU.drew (h : RowU w u U) : RowU w.drew u U := h
theorem RowU.setOther (h : RowU w u U) {g k : Nat} (hg : g ≠ u) (v : Value) : RowU (w.setCell ⟨g, k, none⟩ v) u U := (Below.heap_setCell w ⟨g, k, none⟩ v u (Ne.symm hg)).trans h
end

/-- the places of two terms and their classes, but for what changes -/
structure Cls (z : World) (C u s m : Nat) (l : List Cel) (E : List Int) : Prop where
  cells : ∃ a cap, z.cell? ⟨C, 0, none⟩ = some (.slice a l.length cap) ∧ Row z a cap l
  behind : ∃ a cap, z.cell? ⟨C, 1, none⟩ = some (.slice a E.length cap) ∧ Row z a cap E
  first : z.cell? ⟨C, 2, none⟩ = some (.map (some m))
  up : ∃ cap, l.length ≤ cap ∧ cap ≤ 9223372036854775807 ∧ z.cell? ⟨C, 3, none⟩ = some (.slice (some ⟨u, 0, none⟩) l.length cap)
  size : ∃ cap, l.length ≤ cap ∧ cap ≤ 9223372036854775807 ∧ z.cell? ⟨C, 4, none⟩ = some (.slice (some ⟨s, 0, none⟩) l.length cap)
  us : u ≠ s
theorem Cls.keeps {z z' : World} {C u s m : Nat} {l : List Cel} {E : List Int} (h : Cls z C u s m l E) (hk : Keeps z z') : Cls z' C u s m l E := by
  obtain ⟨⟨a, ca, h0, hr⟩, ⟨b, cb, h1, hr1⟩, h2, ⟨c, hc1, hc2, h3⟩, ⟨d, hd1, hd2, h4⟩, h5⟩ := h
  exact ⟨⟨a, ca, hk _ _ _ h0, hr.keeps hk⟩, ⟨b, cb, hk _ _ _ h1, hr1.keeps hk⟩, hk _ _ _ h2, ⟨c, hc1, hc2, hk _ _ _ h3⟩, ⟨d, hd1, hd2, hk _ _ _ h4⟩, h5⟩

/-! ### the forest of the places -/
/-- r: the place that stands for the class; d: falls on the way there -/
structure Roots (n : Nat) (U : List Int) (r d : Nat → Nat) : Prop where
  len : U.length = n
  up : ∀ x, x < n → ∃ y : Nat, U[x]? = some (y : Int) ∧ y < n ∧ r y = r x ∧ (y ≠ x → d y < d x) ∧ (y = x → r x = x)
  lt : ∀ x, x < n → r x < n
  top : ∀ x, x < n → U[r x]? = some (r x : Int)
section
variable {n : Nat} {U : List Int} {r d : Nat → Nat}
theorem Roots.halve (h : Roots n U r d) {x y z : Nat} (hx : x < n) (hy : U[x]? = some (y : Int)) (hne : y ≠ x) (hz : U[y]? = some (z : Int)) : Roots n (U.set x (z : Int)) r d := by
  obtain ⟨y', e1, hy1, hy2, hy3, _⟩ := h.up x hx
  rw [hy] at e1
  obtain rfl : y = y' := by injection e1 with e1; omega
  obtain ⟨z', e2, hz1, hz2, hz3, _⟩ := h.up y hy1
  rw [hz] at e2
  obtain rfl : z = z' := by injection e2 with e2; omega
  have hdy := hy3 hne
  have hdz : d z < d x := by
    by_cases e : z = y
    · rw [e]; exact hdy
    · have := hz3 e; omega
  have hxl : x < U.length := by rw [h.len]; exact hx
  refine ⟨by rw [List.length_set]; exact h.len, fun q hq => ?_, h.lt, fun q hq => ?_⟩
  · by_cases e : x = q
    · subst e
      refine ⟨z, by rw [List.getElem?_set_self hxl], hz1, hz2.trans hy2, fun _ => hdz, fun e => ?_⟩
      rw [e] at hdz; omega
    · rw [List.getElem?_set_ne e]; exact h.up q hq
  · by_cases e : x = r q
    · exfalso
      have h1 := h.top q hq
      rw [← e, hy] at h1
      injection h1 with h1
      omega
    · rw [List.getElem?_set_ne e]; exact h.top q hq
end
end Go.Proofs.Ytefnmjoapmnkbaa
set_option linter.unusedVariables false
namespace Go.Proofs.Ytefnmjoapmnkbaa
open Go.RowKit

/-! ### does a slot lead to itself? -/
/-- the memory while slots are gone into -/
structure RM (u T1 T2 T3 : Nat) (a : Option Addr) (cap : Nat) (l : List Cel) (st : List Int) (W : World) : Prop where
  c1 : W.cell? ⟨T1, 0, none⟩ = some (.slice (some ⟨u, 0, none⟩) l.length l.length)
  c2 : W.cell? ⟨T2, 0, none⟩ = some (.slice a l.length cap)
  c3 : W.cell? ⟨T3, 0, none⟩ = some (.func (.func 105) #[] #[.pointer (some ⟨T1, 0, none⟩), .pointer (some ⟨T2, 0, none⟩), .pointer (some ⟨T3, 0, none⟩)])
  row : Row (veil [u] W) a cap l
  st : RowU W u st
  n1 : T1 ≠ u
  n2 : T2 ≠ u
  n3 : T3 ≠ u
theorem RM.next {u T1 T2 T3 : Nat} {a : Option Addr} {cap : Nat} {l : List Cel} {st st' : List Int} {W W' : World} (h : RM u T1 T2 T3 a cap l st W) (hf : Fr [u] W W') (hs : RowU W' u st') : RM u T1 T2 T3 a cap l st' W' :=
  ⟨(World.cell?_of_block (hf.block T1 (cell_lt h.c1) (by simp; exact h.n1))).trans h.c1, (World.cell?_of_block (hf.block T2 (cell_lt h.c2) (by simp; exact h.n2))).trans h.c2,
   (World.cell?_of_block (hf.block T3 (cell_lt h.c3) (by simp; exact h.n3))).trans h.c3, h.row.keeps hf.keeps, hs, h.n1, h.n2, h.n3⟩

def EPost (u : Nat) (l : List Cel) (st : List Int) (k : Nat) (W : World) (e : Ending) (W' : World) : Prop := Fr [u] W W' ∧ ∃ b st', e = .returned (.bool b) ∧ RowU W' u st' ∧ DfsEnd l st k b st'

set_option maxHeartbeats 3200000 in
theorem enter_any (u T1 T2 T3 : Nat) (a : Option Addr) (cap : Nat) (l : List Cel) (hl : l.length ≤ 1000000) : ∀ (n : Nat) (st : List Int) (k : Nat) (W : World), zerosI st < n → RM u T1 T2 T3 a cap l st W → Dfs l st → Opens l st k → k < l.length →
    Calls Try.prog 105 #[.int .i64 k, .pointer (some ⟨T1, 0, none⟩), .pointer (some ⟨T2, 0, none⟩), .pointer (some ⟨T3, 0, none⟩)] W (EPost u l st k W) := by
  intro n
  induction n with
  | zero => intro st k W hz; omega
  | succ n ih =>
    intro st k W hz hM hD hO hk
    have IH := mkHid ih
    have HM := mkHid hM
    have HD := mkHid hD
    have HO := mkHid hO
    have HZ := mkHid hz
    have c1 := hM.c1
    have hks : k < st.length := by rw [hD.len]; exact hk
    have r0 := hM.st.read hks
    have z0 := hM.st.free k
    have hki : (0 : Int) ≤ (k : Int) := by omega
    have hki2 : (k : Int) < (l.length : Int) := by omega
    have hv := hD.vals k st[k] (List.getElem?_eq_getElem hks)
    have hst : Hid (st[k]? = some st[k]) := List.getElem?_eq_getElem hks
    clear ih hM hD hO hz
    generalize st[k] = v at *
    rcases hv with rfl | rfl | rfl
    · -- unseen
      have HG0 := mkHid (DfsGo.start HD.out hst.out (leads1 l k l[k]))
      have hRs : Hid (RowU (W.setCell ⟨u, k, none⟩ (.int .i64 1)) u (st.set k 1)) := HM.out.st.set k 1
      have hF1 : Hid (Fr [u] W (W.setCell ⟨u, k, none⟩ (.int .i64 1))) := (Fr.refl _ _).set (by simp) _
      have HM1 := mkHid (HM.out.next hF1.out hRs.out)
      have d2 := HM1.out.c2
      go_enter Try.func105, Try.ntmps105
      go_wp2_with fail
      refine (leads_any a cap k _ l (HM1.out.row.keeps (veil_keeps _ _)) hk).mono ?_
      rintro e w1 ⟨rfl, hb1⟩
      have HF2 := mkHid (hF1.out.trans (Fr.of hb1))
      have HM2 := mkHid (HM1.out.next (Fr.of hb1) (HM1.out.st.below hb1))
      obtain ⟨q1, q2, q3⟩ := leads_range l k hk
      have HLL : Hid (∀ b : Nat, leads1 l k l[k] ≤ (b : Int) → (b : Int) < leads2 l k l[k] → edge l k b) := fun b h1 h2 => ⟨hk, h1, h2⟩
      obtain ⟨L1, hL1⟩ : ∃ x, x = leads1 l k l[k] := ⟨_, rfl⟩
      obtain ⟨L2, hL2⟩ : ∃ x, x = leads2 l k l[k] := ⟨_, rfl⟩
      rw [← hL1, ← hL2] at HLL ⊢
      rw [← hL1] at HG0 q1 q2
      rw [← hL2] at q3
      have HL1 := mkHid hL1
      have HL2 := mkHid hL2
      clear hL1 hL2 r0 c1 z0 d2
      go_wp2_with fail
      go_loopw [8] (fun p wr => ∃ (j : Int) (s : List Int), p = .int .i64 j ∧ L1 ≤ j ∧ j ≤ max L1 L2 ∧ Hid (RM u T1 T2 T3 a cap l s wr) ∧ Hid (DfsGo l st k L1 j s) ∧ Hid (Fr [u] W wr)) (fun p wr => (L2 - intOf p).toNat)
      case atStart => exact ⟨L1, _, rfl, by omega, by omega, HM2, HG0, HF2⟩
      case round =>
        obtain ⟨j, s, rfl, hj1, hj2, HMr, HGr, HFr⟩ := hrel
        by_cases hlt : j < L2
        · obtain ⟨b, rfl⟩ : ∃ b : Nat, j = b := ⟨j.toNat, by omega⟩
          have HED := mkHid (HLL.out b hj1 hlt)
          have d3 := HMr.out.c3
          have hbl : b < l.length := by omega
          go_wp2_with fail
          refine (IH.out s b _ (by have := HGr.out.zeros; have := HZ.out; omega) HMr.out HGr.out.dfs (HGr.out.opens hk HO.out HED.out) hbl).mono ?_
          rintro e w2 ⟨hF3, bb, s', rfl, hs', hend⟩
          have HM3 := mkHid (HMr.out.next hF3 hs')
          have HF3 := mkHid (HFr.out.trans hF3)
          have HEND := mkHid hend
          have HS' := mkHid hs'
          clear hend hF3 hs'
          cases bb with
          | true =>
            go_wp2_with fail
            go_ret
            refine ⟨HF3.out, true, s', rfl, HS'.out, .inl ⟨rfl, ?_⟩⟩
            rcases HEND.out with ⟨_, h⟩ | ⟨h, _⟩
            · exact h
            · cases h
          | false =>
            go_wp2_with fail
            go_round
            case rel => exact ⟨(b : Int) + 1, s', by go_num, by omega, by omega, HM3, HGr.out.next HEND.out, HF3⟩
            case measure => simp [intOf]; omega
        · have d1 := HMr.out.c1
          have hsl : k < s.length := by rw [HGr.out.dfs.len]; exact hk
          have r1 := HMr.out.st.read hsl
          have z1 := HMr.out.st.free k
          have HE := mkHid (DfsGo.stop hk (by rw [← HL1.out]; exact HGr.out) (by rw [← HL2.out]; omega) hst.out)
          go_wp2_with fail
          go_ret
          exact ⟨HFr.out.set (by simp) _, false, s.set k 2, rfl, HMr.out.st.set k 2, HE.out⟩
    · -- open
      have HE : Hid (DfsEnd l st k true st) := .inl ⟨rfl, k, HO.out k hst.out⟩
      go_enter Try.func105, Try.ntmps105
      go_wp2_with fail
      go_ret
      exact ⟨Fr.refl _ _, true, st, rfl, HM.out.st, HE.out⟩
    · -- done
      have HE : Hid (DfsEnd l st k false st) := .inr ⟨rfl, HD.out, HD.out.done k hst.out, fun x => Iff.rfl, Nat.le_refl _⟩
      go_enter Try.func105, Try.ntmps105
      go_wp2_with fail
      go_ret
      exact ⟨Fr.refl _ _, false, st, rfl, HM.out.st, HE.out⟩
end Go.Proofs.Ytefnmjoapmnkbaa
set_option linter.unusedVariables false
namespace Go.Proofs.Ytefnmjoapmnkbaa
open Go.RowKit

theorem made_intsH (n : Nat) : madeCells (Value.int .i64 0).cells n = Array.replicate n (Value.int .i64 0) := by
  unfold madeCells
  simp only [Value.cells]
  apply Array.ext
  · simp
  · intro i h1 h2
    simp [Nat.mod_one]
theorem run_intsH (n : Nat) (hn : n ≤ 1000000) (w : World) : (Instr.makeSlice 23 (.int .i64 n) (.int .i64 n)).run Try.prog w = .ok (.slice (some ⟨w.heap.size, 0, none⟩) n n) (w.alloc (.cells (Array.replicate n (Value.int .i64 0)) 3)) := by
  obtain ⟨i, hi, hz0, hz1, hz2⟩ := info_parts Try.infoInt
  have hrun := run_make (P := Try.prog) w 23 3 i _ Try.underlying23 hi hz0 .i64 .i64 n n (by omega) (Int.le_refl _) (by rw [hz2]; omega) (by omega)
  rw [hz1, Nat.mul_one, Int.toNat_natCast, made_intsH] at hrun
  exact hrun
theorem RowU.madeH (w : World) (n : Nat) : RowU (w.alloc (.cells (Array.replicate n (Value.int .i64 0)) 3)) w.heap.size (List.replicate n 0) := by
  unfold RowU
  rw [heap_alloc_new]
  simp

theorem RM.init (w : World) (a : Option Addr) (cap : Nat) (l : List Cel) (hr : Row w a cap l) (A B C : TypeId) : RM (w.heap.size + 1) (w.heap.size + 1 + 1) w.heap.size (w.heap.size + 1 + 1 + 1) a cap l (List.replicate l.length 0)
    ((((w.alloc (.cells #[.slice a l.length cap] A)).alloc (.cells (Array.replicate l.length (Value.int .i64 0)) 3)).alloc (.cells #[.slice (some ⟨w.heap.size + 1, 0, none⟩) l.length l.length] B)).alloc (.cells #[.func (.func 105) #[] #[.pointer (some ⟨w.heap.size + 1 + 1, 0, none⟩), .pointer (some ⟨w.heap.size, 0, none⟩), .pointer (some ⟨w.heap.size + 1 + 1 + 1, 0, none⟩)]] C)) := by
  have hU := RowU.madeH (w.alloc (.cells #[.slice a l.length cap] A)) l.length
  rw [World.size_alloc] at hU
  refine ⟨?_, ?_, World.cell?_alloc_at _ _ _ 0 (by simp), ?_, (hU.alloc _).alloc _, by omega, by omega, by omega⟩
  · exact keep (World.cell?_alloc_at _ _ _ 0 (by simp)) ((Below.refl _ _).new _)
  · exact keep (keep (keep (World.cell?_alloc_at _ _ _ 0 rfl) ((Below.refl _ _).new _)) ((Below.refl _ _).new _)) ((Below.refl _ _).new _)
  · refine hr.keeps (veil_fresh (Keeps.of ((((Below.refl w.heap.size w).new _).new _ |>.new _).new _)) (fun k hk => ?_))
    simp at hk
    omega
set_option maxHeartbeats 3200000 in
theorem round_any (a : Option Addr) (cap : Nat) (w : World) (l : List Cel) (hr : Row w a cap l) (hl : l.length ≤ 1000000) :
    Calls Try.prog 52 #[.slice a l.length cap] w fun e w' => (∃ b, e = .returned (.bool b) ∧ (b = true ↔ ¬ Acyc l)) ∧ Below w.heap.size w w' := by
  have hm := hr.max
  have hle := hr.le
  have hms := run_intsH l.length hl
  have HR := mkHid hr
  clear hr
  go_enter Try.func52, Try.ntmps52
  go_wp2_with fail
  go_loopw [5, 12] (fun v i wr => ∃ (j : Nat) (s : List Int), i = .int .i64 j ∧ j ≤ l.length ∧ Hid (RM (w.heap.size + 1) (w.heap.size + 1 + 1) w.heap.size (w.heap.size + 1 + 1 + 1) a cap l s wr) ∧ Hid (Dfs l s) ∧ Hid (∀ x : Nat, s[x]? ≠ some 1) ∧ Hid (∀ b : Nat, b < j → Acc (fun b a => edge l a b) b) ∧ Hid (Below w.heap.size w wr)) (fun v i wr => l.length - (intOf i).toNat)
  case atStart =>
    refine ⟨0, _, rfl, Nat.zero_le _, RM.init w a cap l HR.out _ _ _, Dfs.init l, fun x hx => ?_, fun b hb => by omega, ((((Below.refl w.heap.size w).new _).new _).new _).new _⟩
    rw [List.getElem?_replicate] at hx
    split at hx <;> simp at hx
  case round =>
    obtain ⟨j, s, rfl, hj, HM, HD, H1, HA, HB⟩ := hrel
    by_cases hlt : j < l.length
    · have c3 := HM.out.c3
      go_wp2_with fail
      refine (enter_any (w.heap.size + 1) (w.heap.size + 1 + 1) w.heap.size (w.heap.size + 1 + 1 + 1) a cap l hl _ s j _ (Nat.lt_succ_self _) HM.out HD.out (fun x hx => absurd hx (H1.out x)) hlt).mono ?_
      rintro e w2 ⟨hF, bb, s', rfl, hs', hend⟩
      have HM2 := mkHid (HM.out.next hF hs')
      have HB2 : Hid (Below w.heap.size w w2) := HB.out.trans (hF.below HB.out.size (by simp))
      have HEND := mkHid hend
      clear hend hF hs'
      cases bb with
      | true =>
        go_wp2_with fail
        go_ret
        exact ⟨⟨true, rfl, fun _ => HEND.out.acyc rfl, fun _ => rfl⟩, HB2.out⟩
      | false =>
        go_wp2_with fail
        go_round
        case rel =>
          rcases HEND.out with ⟨h, _⟩ | ⟨_, h1, h2, h3, h4⟩
          · cases h
          · refine ⟨j + 1, s', by go_num, by omega, HM2, h1, fun x hx => H1.out x ((h3 x).1 hx), fun b hb => ?_, HB2⟩
            by_cases e : b = j
            · subst e; exact h2
            · exact HA.out b (by omega)
        case measure => simp [intOf]; omega
    · go_wp2_with fail
      go_ret
      refine ⟨⟨false, rfl, fun h => (by cases h), fun h => absurd (acyc_of_lt fun k hk => HA.out k (by omega)) h⟩, HB.out⟩
end Go.Proofs.Ytefnmjoapmnkbaa
set_option linter.unusedVariables false
namespace Go.Proofs.Ytefnmjoapmnkbaa
open Go.RowKit

/-! ### trails, right heaps -/
theorem Try.infoBoolH : (Try.prog.info? 4).map (fun i => (i.zero, i.size, i.bytes)) = some (some (.bool false), 1, 1) := by kernel_rfl
theorem made_boolsH (n : Nat) : madeCells (Value.bool false).cells n = Array.replicate n (Value.bool false) := by
  unfold madeCells
  simp only [Value.cells]
  apply Array.ext
  · simp
  · intro i h1 h2
    simp [Nat.mod_one]
theorem run_boolsH (n : Nat) (hn : n ≤ 1000000) (w : World) : (Instr.makeSlice 116 (.int .i64 n) (.int .i64 n)).run Try.prog w = .ok (.slice (some ⟨w.heap.size, 0, none⟩) n n) (w.alloc (.cells (Array.replicate n (Value.bool false)) 4)) := by
  obtain ⟨i, hi, hz0, hz1, hz2⟩ := info_parts Try.infoBoolH
  have hrun := run_make (P := Try.prog) w 116 4 i _ Try.underlying116 hi hz0 .i64 .i64 n n (by omega) (Int.le_refl _) (by rw [hz2]; omega) (by omega)
  rw [hz1, Nat.mul_one, Int.toNat_natCast, made_boolsH] at hrun
  exact hrun
/-- a block of truths -/
def RowT (w : World) (u : Nat) (U : List Bool) : Prop := w.heap[u]? = some (.cells (U.map Value.bool).toArray 4 (0, 0))
section
variable {w w' : World} {u : Nat} {U : List Bool}
theorem RowT.lt (h : RowT w u U) : u < w.heap.size := by
  unfold RowT at h
  exact (Array.getElem?_eq_some_iff.1 h).1
theorem RowT.read (h : RowT w u U) {k : Nat} (hk : k < U.length) : w.cell? ⟨u, k, none⟩ = some (.bool U[k]) := by
  rw [cell_of_row w u k _ _ _ h]; simp [hk]
theorem RowT.free (h : RowT w u U) (k : Nat) : w.frozen? ⟨u, k, none⟩ = false := by
  unfold RowT at h
  simp [World.frozen?, h]
theorem RowT.set (h : RowT w u U) (k : Nat) (v : Bool) : RowT (w.setCell ⟨u, k, none⟩ (.bool v)) u (U.set k v) := by
  unfold RowT at *
  simp only [World.setCell, Array.getElem?_modify, if_true, h, Option.map_some]
  simp
theorem RowT.below (h : RowT w u U) (hb : Below w.heap.size w w') : RowT w' u U := (hb.block u h.lt).trans h
theorem RowT.belowN {B : Nat} (h : RowT w u U) (hb : Below B w w') (hu : u < B) : RowT w' u U := (hb.block u hu).trans h
theorem RowT.fr (h : RowT w u U) {us : List Nat} (hf : Fr us w w') (hu : u ∉ us) : RowT w' u U := (hf.block u h.lt hu).trans h
theorem RowT.alloc (h : RowT w u U) (o : Obj) : RowT (w.alloc o) u U := h.below ((Below.refl _ _).new o)
theorem RowT.made (w : World) (n : Nat) : RowT (w.alloc (.cells (Array.replicate n (Value.bool false)) 4)) w.heap.size (List.replicate n false) := by
  unfold RowT
  rw [heap_alloc_new]
  simp
end
/-- the place of a bound variable -/
def BoundAt (l : List Cel) (t : Int) : Prop := ∃ k : Nat, t = k ∧ ∃ h : k < l.length, l[k].k = 1 ∧ l[k].n ≠ k
def TrailOk (l : List Cel) (ts : List Int) : Prop := (∀ t ∈ ts, BoundAt l t) ∧ ts.Nodup
/-- a right heap -/
structure RightP (l : List Cel) (ts : List Int) (r : Int) : Prop where
  r1 : 1 ≤ r
  r2 : r ≤ 4096
  few : (l.length : Int) ≤ r
  slots : ∀ (k : Nat) (h : k < l.length), slotB l k l[k] = true
  acyc : Acyc l
  trail : TrailOk l ts
/-- the trail so far -/
structure TrGo (l : List Cel) (ts : List Int) (j : Nat) (met : List Bool) : Prop where
  len : met.length = l.length
  mem : ∀ k : Nat, met[k]? = some true ↔ (k : Int) ∈ ts.take j ∧ k < l.length
  ok : TrailOk l (ts.take j)
theorem TrGo.init (l : List Cel) (ts : List Int) : TrGo l ts 0 (List.replicate l.length false) := by
  refine ⟨by simp, fun k => ?_, ⟨by simp, by simp⟩⟩
  rw [List.getElem?_replicate]
  simp
theorem TrGo.next {l : List Cel} {ts : List Int} {j k : Nat} {met : List Bool} (h : TrGo l ts j met) (hj : j < ts.length) (e : ts[j] = (k : Int)) (hk : k < l.length) (hm : met[k]? = some false) (h1 : l[k].k = 1) (h2 : l[k].n ≠ k) : TrGo l ts (j + 1) (met.set k true) := by
  have hkm : k < met.length := by rw [h.len]; exact hk
  have hnk : (k : Int) ∉ ts.take j := fun hc => by
    have := (h.mem k).2 ⟨hc, hk⟩
    rw [hm] at this; cases this
  refine ⟨by rw [List.length_set]; exact h.len, fun x => ?_, ⟨fun t ht => ?_, ?_⟩⟩
  · rw [show ts.take (j + 1) = ts.take j ++ [(k : Int)] by rw [List.take_succ_eq_append_getElem hj, e]]
    by_cases ex : k = x
    · subst ex
      rw [List.getElem?_set_self hkm]
      simp [hk]
    · rw [List.getElem?_set_ne ex, h.mem x, List.mem_append]
      constructor
      · rintro ⟨a, b⟩; exact ⟨.inl a, b⟩
      · rintro ⟨a | a, b⟩
        · exact ⟨a, b⟩
        · simp at a; omega
  · rw [show ts.take (j + 1) = ts.take j ++ [(k : Int)] by rw [List.take_succ_eq_append_getElem hj, e]] at ht
    rcases List.mem_append.1 ht with ht | ht
    · exact h.ok.1 t ht
    · simp at ht
      exact ⟨k, ht, hk, h1, h2⟩
  · rw [show ts.take (j + 1) = ts.take j ++ [(k : Int)] by rw [List.take_succ_eq_append_getElem hj, e]]
    rw [List.nodup_append]
    refine ⟨h.ok.2, by simp, fun a ha b hb => ?_⟩
    simp at hb
    subst hb
    rintro rfl; exact hnk ha
theorem TrGo.twice {l : List Cel} {ts : List Int} {j k : Nat} {met : List Bool} (h : TrGo l ts j met) (hj : j < ts.length) (e : ts[j] = (k : Int)) (hm : met[k]? = some true) : ¬ TrailOk l ts := by
  rintro ⟨_, hn⟩
  have h1 := ((h.mem k).1 hm).1
  rw [← List.take_append_drop j ts, List.nodup_append] at hn
  refine hn.2.2 (k : Int) h1 (k : Int) ?_ rfl
  rw [List.drop_eq_getElem_cons hj, e]
  exact List.mem_cons_self
theorem not_bound {l : List Cel} {ts : List Int} {j : Nat} (hj : j < ts.length) (h : ¬ BoundAt l ts[j]) : ¬ TrailOk l ts := fun h1 => h (h1.1 _ (List.getElem_mem hj))

set_option maxHeartbeats 3200000 in
theorem trailed_any (a : Option Addr) (cap : Nat) (a' : Option Addr) (cap' : Nat) (r : Int) (w : World) (l : List Cel) (ts : List Int) (hr : Row w a cap l) (ht : Row w a' cap' ts) (hl : l.length ≤ 1000000) :
    Calls Try.prog 53 #[hv a l.length cap a' ts.length cap' r] w fun e w' => (∃ b, e = .returned (.bool b) ∧ (b = true ↔ TrailOk l ts)) ∧ Below w.heap.size w w' := by
  have hm := hr.max
  have hle := hr.le
  have hm2 := ht.max
  have hle2 := ht.le
  have hms := run_boolsH l.length hl
  have hb1 := (Below.refl w.heap.size w).new (.cells #[.slice a l.length cap, .slice a' ts.length cap', .int .i64 r] 25)
  have hb2 := hb1.new (.cells (Array.replicate l.length (Value.bool false)) 4)
  have hM0 := RowT.made (w.alloc (.cells #[.slice a l.length cap, .slice a' ts.length cap', .int .i64 r] 25)) l.length
  rw [World.size_alloc] at hM0
  have e0 : ((w.alloc (.cells #[.slice a l.length cap, .slice a' ts.length cap', .int .i64 r] 25)).alloc (.cells (Array.replicate l.length (Value.bool false)) 4)).cell? ⟨w.heap.size, 0, none⟩ = some (.slice a l.length cap) := keep (World.cell?_alloc_at _ _ w.heap.size 0 rfl) ((Below.refl _ _).new _)
  have HM0 := mkHid hM0
  have HR := mkHid hr
  have HT := mkHid ht
  clear hM0 hr ht
  go_enter Try.func53, Try.ntmps53
  go_wp2_with fail
  obtain ⟨W, hW⟩ : ∃ W, ((w.alloc (.cells #[.slice a l.length cap, .slice a' ts.length cap', .int .i64 r] 25)).alloc (.cells (Array.replicate l.length (Value.bool false)) 4)) = W := ⟨_, rfl⟩
  rw [hW] at hb2 e0 HM0 ⊢
  clear hW
  clear hb1 hms
  go_loopw [5, 13] (fun v i wr => ∃ (j : Nat) (met : List Bool), i = .int .i64 j ∧ j ≤ ts.length ∧ Hid (RowT wr (w.heap.size + 1) met) ∧ Hid (TrGo l ts j met) ∧ Hid (Fr [w.heap.size + 1] W wr)) (fun v i wr => ts.length - (intOf i).toNat)
  case atStart => exact ⟨0, _, rfl, Nat.zero_le _, HM0, TrGo.init l ts, Fr.refl _ _⟩
  case round =>
    obtain ⟨j, met, rfl, hj, HM, HG, HF⟩ := hrel
    have HBW : Hid (Below w.heap.size w wr) := hb2.trans (HF.out.below hb2.size (by simp))
    have hWR : Keeps w wr := Keeps.of HBW.out
    have e1 : wr.cell? ⟨w.heap.size, 0, none⟩ = some (.slice a l.length cap) := (World.cell?_of_block (HF.out.block w.heap.size (cell_lt e0) (by simp))).trans e0
    by_cases hlt : j < ts.length
    · obtain ⟨b, off, rfl, hb, hat⟩ := (HT.out.keeps hWR).cases.resolve_left (fun e => by simp [e] at hlt)
      obtain ⟨c0, i1, i2⟩ := int_at hat (Below.refl _ _) hlt
      clear hat
      have HNB : Hid (¬ BoundAt l ts[j] → ¬ TrailOk l ts) := not_bound hlt
      have HTW : Hid (∀ k : Nat, ts[j] = (k : Int) → met[k]? = some true → ¬ TrailOk l ts) := fun k e h => HG.out.twice hlt e h
      have HNX : Hid (∀ (k : Nat) (hk : k < l.length), ts[j] = (k : Int) → met[k]? = some false → l[k].k = 1 → l[k].n ≠ k → TrGo l ts (j + 1) (met.set k true)) := fun k hk e hm h1 h2 => HG.out.next hlt e hk hm h1 h2
      generalize ts[j] = t at *
      by_cases hin : 0 ≤ t ∧ t < (l.length : Int)
      · obtain ⟨k, rfl⟩ : ∃ k : Nat, t = k := ⟨t.toNat, by omega⟩
        have hk : k < l.length := by omega
        have hs : (decide (0 ≤ (k : Int)) && decide ((k : Int) < (l.length : Int))) = true := by rw [← Bool.decide_and]; exact decide_eq_true hin
        obtain ⟨b2, off2, rfl, hb2', hat2⟩ := (HR.out.keeps hWR).cases.resolve_left (fun e => by simp [e] at hk)
        obtain ⟨d0, d1, d2, hf⟩ := cel_at hat2 (Below.refl _ _) hk
        have hkm : k < met.length := by rw [HG.out.len]; exact hk
        have r0 := HM.out.read hkm
        have z0 := HM.out.free k
        have HMK : Hid (met[k]? = some met[k]) := List.getElem?_eq_getElem hkm
        have HNB' : Hid ((l[k].k = 1 → l[k].n = k) → ¬ TrailOk l ts) := fun h => HNB.out fun ⟨k', e, hk', h1, h2⟩ => by
          have : k = k' := by omega
          subst this
          exact h2 (h h1)
        have HNX' := mkHid (HNX.out k hk rfl)
        have hki : (0 : Int) ≤ (k : Int) := by omega
        have hki2 : (k : Int) < (l.length : Int) := by omega
        clear hat2 HNB HNX hin
        generalize met[k] = mk at *
        generalize l[k] = c at *
        obtain ⟨ck, cs, cn⟩ := c
        dsimp only at *
        cases mk with
        | true =>
          have HE := mkHid (HTW.out k rfl HMK.out)
          go_wp2_with (go_at_call 81; refine (stands_any _ _ _ _ _ i1 i2).mono ?_; rintro e w1 ⟨rfl, rfl⟩; rw [hs])
          go_ret
          exact ⟨⟨false, rfl, fun h => (by cases h), fun h => absurd h HE.out⟩, HBW.out⟩
        | false =>
          cases q1 : (ck != 1) with
          | true =>
            have HE := mkHid (HNB'.out (fun h => absurd h (by simpa using q1)))
            go_wp2_with (go_at_call 81; refine (stands_any _ _ _ _ _ i1 i2).mono ?_; rintro e w1 ⟨rfl, rfl⟩; rw [hs])
            go_ret
            exact ⟨⟨false, rfl, fun h => (by cases h), fun h => absurd h HE.out⟩, HBW.out⟩
          | false =>
            have h1 : ck = 1 := by simpa using q1
            cases q2 : sfreeB ⟨ck, cs, cn⟩ k with
            | true =>
              have HE := mkHid (HNB'.out (fun _ => by simp [sfreeB] at q2; exact q2.2))
              have Q2 := mkHid q2
              clear h1 q2
              go_wp2_with (first
                | (go_at_call 81; refine (stands_any _ _ _ _ _ i1 i2).mono ?_; rintro e w1 ⟨rfl, rfl⟩; rw [hs])
                | (go_at_call 106; refine (sfree_any ⟨ck, cs, cn⟩ _ _ hf).mono ?_; rintro e w1 ⟨rfl, hb1⟩; rw [Q2.out]))
              go_ret
              exact ⟨⟨false, rfl, fun h => (by cases h), fun h => absurd h HE.out⟩, HBW.out.then hb1⟩
            | false =>
              have HE := mkHid (HNX'.out HMK.out h1 (fun h => by simp [sfreeB, h1, h] at q2))
              have Q2 := mkHid q2
              clear h1 q2
              go_wp2_with (first
                | (go_at_call 81; refine (stands_any _ _ _ _ _ i1 i2).mono ?_; rintro e w1 ⟨rfl, rfl⟩; rw [hs])
                | (go_at_call 106; refine (sfree_any ⟨ck, cs, cn⟩ _ _ hf).mono ?_; rintro e w1 ⟨rfl, hb1⟩; rw [Q2.out]; have HM1 := mkHid (HM.out.below hb1); have z1 := HM1.out.free k; have r1 := HM1.out.read hkm))
              go_round
              case rel => exact ⟨j + 1, met.set k true, by go_num, by omega, HM1.out.set k true, HE.out, (HF.out.trans (Fr.of hb1)).set (by simp) _⟩
              case measure => simp [intOf]; omega
      · have hs : (decide (0 ≤ t) && decide (t < (l.length : Int))) = false := by rw [← Bool.decide_and]; exact decide_eq_false hin
        have HE := mkHid (HNB.out fun ⟨k', e, hk', _⟩ => hin (by omega))
        clear hin
        go_wp2_with (go_at_call 81; refine (stands_any _ _ _ _ _ i1 i2).mono ?_; rintro e w1 ⟨rfl, rfl⟩; rw [hs])
        go_ret
        exact ⟨⟨false, rfl, fun h => (by cases h), fun h => absurd h HE.out⟩, HBW.out⟩
    · go_wp2_with fail
      go_ret
      refine ⟨⟨true, rfl, fun _ => ?_, fun _ => rfl⟩, HBW.out⟩
      have := HG.out.ok
      rwa [List.take_of_length_le (by omega)] at this
end Go.Proofs.Ytefnmjoapmnkbaa
set_option linter.unusedVariables false
namespace Go.Proofs.Ytefnmjoapmnkbaa
open Go.RowKit

set_option maxHeartbeats 3200000 in
/-- heap.Right, whole -/
theorem hright_any (a : Option Addr) (cap : Nat) (a' : Option Addr) (cap' : Nat) (r : Int) (w : World) (l : List Cel) (ts : List Int) (hr : Row w a cap l) (ht : Row w a' cap' ts) (hl : l.length ≤ 1000000) :
    Calls Try.prog 13 #[hv a l.length cap a' ts.length cap' r] w fun e w' => (∃ b, e = .returned (.bool b) ∧ (b = true ↔ RightP l ts r)) ∧ Below w.heap.size w w' := by
  have hm := hr.max
  have hle := hr.le
  have hm2 := ht.max
  have hle2 := ht.le
  have hb1 := (Below.refl w.heap.size w).new (.cells #[.slice a l.length cap, .slice a' ts.length cap', .int .i64 r] 25)
  have e0 : (w.alloc (.cells #[.slice a l.length cap, .slice a' ts.length cap', .int .i64 r] 25)).cell? ⟨w.heap.size, 0, none⟩ = some (.slice a l.length cap) := World.cell?_alloc_at _ _ w.heap.size 0 rfl
  have e1 : (w.alloc (.cells #[.slice a l.length cap, .slice a' ts.length cap', .int .i64 r] 25)).cell? ⟨w.heap.size, 1, none⟩ = some (.slice a' ts.length cap') := World.cell?_alloc_at _ _ w.heap.size 1 rfl
  have e2 : (w.alloc (.cells #[.slice a l.length cap, .slice a' ts.length cap', .int .i64 r] 25)).cell? ⟨w.heap.size, 2, none⟩ = some (.int .i64 r) := World.cell?_alloc_at _ _ w.heap.size 2 rfl
  have HR := mkHid hr
  have HT := mkHid ht
  clear hr ht
  cases q1 : (decide (1 ≤ r) && decide (r ≤ 4096)) with
  | false =>
    have HE : Hid (¬ RightP l ts r) := fun h => by
      have h1 := h.r1
      have h2 := h.r2
      simp [h1, h2] at q1
    go_enter Try.func13, Try.ntmps13
    go_wp2_with (go_at_call 50; refine (mayHave_any _ _).mono ?_; rintro e w1 ⟨rfl, rfl⟩; rw [q1])
    go_ret
    exact ⟨⟨false, rfl, fun h => (by cases h), fun h => absurd h HE.out⟩, hb1⟩
  | true =>
    have HR12 : Hid (1 ≤ r ∧ r ≤ 4096) := by simp at q1; exact q1
    by_cases q2 : (l.length : Int) > r
    · have HE : Hid (¬ RightP l ts r) := fun h => by have := h.few; omega
      go_enter Try.func13, Try.ntmps13
      go_wp2_with (go_at_call 50; refine (mayHave_any _ _).mono ?_; rintro e w1 ⟨rfl, rfl⟩; rw [q1])
      go_ret
      exact ⟨⟨false, rfl, fun h => (by cases h), fun h => absurd h HE.out⟩, hb1⟩
    · go_enter Try.func13, Try.ntmps13
      go_wp2_with (go_at_call 50; refine (mayHave_any _ _).mono ?_; rintro e w1 ⟨rfl, rfl⟩; rw [q1])
      obtain ⟨W, hW⟩ : ∃ W, (w.alloc (.cells #[.slice a l.length cap, .slice a' ts.length cap', .int .i64 r] 25)) = W := ⟨_, rfl⟩
      rw [hW] at hb1 e0 e1 e2 ⊢
      clear hW
      have HR1 := mkHid (HR.out.below hb1)
      have HT1 := mkHid (HT.out.below hb1)
      go_loopw [3, 19] (fun v i wr => ∃ (j : Nat), i = .int .i64 j ∧ j ≤ l.length ∧ Hid (∀ (k : Nat) (h : k < l.length), k < j → slotB l k l[k] = true) ∧ Hid (Below W.heap.size W wr)) (fun v i wr => l.length - (intOf i).toNat)
      case atStart => exact ⟨0, rfl, Nat.zero_le _, fun k h hk => by omega, Below.refl _ _⟩
      case round =>
        obtain ⟨j, rfl, hj, HS, HB⟩ := hrel
        have f0 := keep e0 HB.out
        have f1 := keep e1 HB.out
        have f2 := keep e2 HB.out
        by_cases hlt : j < l.length
        · cases q3 : slotB l j l[j] with
          | true =>
            have Q3 := mkHid q3
            clear q3
            go_wp2_with (go_at_call 51; refine (may_slot a cap j _ l (HR1.out.below HB.out) hlt).mono ?_; rintro e w1 ⟨rfl, hb2⟩; rw [Q3.out])
            go_round
            case rel =>
              refine ⟨j + 1, by go_num, by omega, fun k h hk => ?_, HB.out.then hb2⟩
              by_cases e : k = j
              · subst e; exact Q3.out
              · exact HS.out k h (by omega)
            case measure => simp [intOf]; omega
          | false =>
            have HE : Hid (¬ RightP l ts r) := fun h => by
              have := h.slots j hlt
              rw [q3] at this; cases this
            have Q3 := mkHid q3
            clear q3
            go_wp2_with (go_at_call 51; refine (may_slot a cap j _ l (HR1.out.below HB.out) hlt).mono ?_; rintro e w1 ⟨rfl, hb2⟩; rw [Q3.out])
            go_ret
            exact ⟨⟨false, rfl, fun h => (by cases h), fun h => absurd h HE.out⟩, hb1.then (HB.out.then hb2)⟩
        · have HALL : Hid (∀ (k : Nat) (h : k < l.length), slotB l k l[k] = true) := fun k h => HS.out k h (by omega)
          have Q2 := mkHid q2
          go_wp2_with fail
          refine (round_any a cap _ l (HR1.out.below HB.out) hl).mono ?_
          rintro e w1 ⟨⟨b, rfl, hB⟩, hb2⟩
          have g0 := keep f0 hb2
          have g1 := keep f1 hb2
          have g2 := keep f2 hb2
          have HBB := mkHid hB
          clear hB f0 f1 f2
          cases b with
          | true =>
            go_wp2_with fail
            go_ret
            exact ⟨⟨false, rfl, fun h => (by cases h), fun h => absurd h.acyc (HBB.out.1 (by first | rfl | trivial))⟩, hb1.then (HB.out.then hb2)⟩
          | false =>
            go_wp2_with fail
            refine (trailed_any a cap a' cap' r _ l ts ((HR1.out.below HB.out).below hb2) ((HT1.out.below HB.out).below hb2) hl).mono ?_
            rintro e w2 ⟨⟨b, rfl, hB⟩, hb3⟩
            have HBB2 := mkHid hB
            clear hB
            go_wp2_with fail
            go_ret
            refine ⟨⟨b, rfl, fun h => ⟨HR12.out.1, HR12.out.2, by have := Q2.out; omega, HALL.out, ?_, HBB2.out.1 h⟩, fun h => HBB2.out.2 h.trail⟩, hb1.then ((HB.out.then hb2).then hb3)⟩
            exact Classical.byContradiction fun hc => by have := HBB.out.2 hc; cases this
end Go.Proofs.Ytefnmjoapmnkbaa
set_option linter.unusedVariables false
namespace Go.Proofs.Ytefnmjoapmnkbaa
open Go.RowKit

/-! ### what a place leads to: the unifier's search -/
theorem crows_int {w : World} : ∀ {vs : List Value} {xs : List Int}, CRows w vs xs → vs = xs.map (Value.int .i64) ∧ ∀ n ∈ xs, -9223372036854775808 ≤ n ∧ n ≤ 9223372036854775807 := by
  intro vs xs h
  induction h with
  | nil => exact ⟨rfl, by simp⟩
  | @cons cs x vs xs hc _ ih =>
    obtain ⟨rfl, h1⟩ := hc
    obtain ⟨rfl, h2⟩ := ih
    refine ⟨rfl, fun n hn => ?_⟩
    rcases List.mem_cons.1 hn with rfl | hn
    · exact h1
    · exact h2 n hn
section
variable {B e g cap : Nat} {acc : List Int} {y : Int} {v : Value} {w w' : World}
/-- a row of numbers that lies at a block -/
theorem AccInv.someI (h : AccInv B e (acc ++ [y]) v w) : ∃ g cap, v = .slice (some ⟨g, 0, none⟩) (acc.length + 1) cap ∧ B ≤ g ∧ g < w.heap.size := by
  obtain ⟨vs, ho, hc⟩ := h.ex
  rcases ho.2 with ⟨rfl, hn⟩ | ⟨g, cap, cur, rfl, hb, hg, _⟩
  · simp at hn
  · exact ⟨g, cap, by simp, hb, (Array.getElem?_eq_some_iff.1 hg).1⟩
/-- the last one is taken off -/
theorem AccInv.popI (h : AccInv B e (acc ++ [y]) (.slice (some ⟨g, 0, none⟩) (acc.length + 1) cap) w) : AccInv B e acc (.slice (some ⟨g, 0, none⟩) acc.length cap) w := by
  obtain ⟨vs, ho, hc⟩ := h.ex
  obtain ⟨rfl, hf⟩ := crows_int hc
  rw [List.map_append, show (acc ++ [y]).length = acc.length + 1 by simp] at ho
  refine ⟨acc.map (Value.int .i64), ownsRow_pop (by show (acc.map (Value.int .i64)).length = acc.length * 1; simp) ho, crows_ints _ fun n hn => hf n (List.mem_append_left _ hn)⟩
theorem AccInv.keptI {u : Nat} (h : AccInv B e acc v w) (hg : w.grownBy w' (some u)) (hne : v.ownBlock ≠ some u) : AccInv B e acc v w' := by
  obtain ⟨vs, ho, hc⟩ := h.ex
  obtain ⟨rfl, hf⟩ := crows_int hc
  exact ⟨_, ho.kept hg (.inr hne), crows_ints _ hf⟩
theorem AccInv.fitI (h : AccInv B e acc v w) : ∀ n ∈ acc, -9223372036854775808 ≤ n ∧ n ≤ 9223372036854775807 := by
  obtain ⟨vs, ho, hc⟩ := h.ex
  exact (crows_int hc).2
theorem AccInv.oneI (w : World) (x : Int) (h1 : -9223372036854775808 ≤ x) (h2 : x ≤ 9223372036854775807) (hB : B ≤ w.heap.size) : AccInv B 3 [x] (.slice (some ⟨w.heap.size, 0, none⟩) 1 1) (w.alloc (.cells #[.int .i64 x] 3)) :=
  ⟨[.int .i64 x], ⟨rfl, .inr ⟨w.heap.size, 1, #[.int .i64 x], rfl, hB, heap_alloc_new w _, Nat.le_refl _, by unfold maxLen; omega, rfl, rfl⟩⟩, crows_ints _ (xs := [x]) (by simp; exact ⟨h1, h2⟩)⟩
end
theorem set_grown (w : World) (u k : Nat) (v : Value) : w.grownBy (w.setCell ⟨u, k, none⟩ v) (some u) :=
  ⟨rfl, rfl, rfl, by simp [World.setCell], fun i _ hn => Below.heap_setCell _ _ _ _ (fun e => hn (by rw [show i = u from e]))⟩
theorem prod_bound {a n : Nat} (h : a ≤ n) (hn : n ≤ 5000) : a * n ≤ 25000000 := Nat.le_trans (Nat.mul_le_mul h (Nat.le_refl _)) (Nat.le_trans (Nat.mul_le_mul hn hn) (by decide))
theorem falsesB_le (met : List Bool) : falsesB met ≤ met.length := List.length_filter_le _ _
theorem falsesB_init (n : Nat) : falsesB (List.replicate n false) = n := by
  induction n with
  | zero => rfl
  | succ n ih => simp [List.replicate_succ, falsesB] at ih ⊢
theorem nil_or_snoc {α : Type} (t : List α) : t = [] ∨ ∃ s y, t = s ++ [y] := by
  induction t with
  | nil => exact .inl rfl
  | cons x t ih =>
    right
    rcases ih with rfl | ⟨s, y, rfl⟩
    · exact ⟨[], x, rfl⟩
    · exact ⟨x :: s, y, rfl⟩

set_option maxHeartbeats 6400000 in
theorem reaches_any (U : Nat) (a : Option Addr) (cap : Nat) (w : World) (l : List Cel) (hU : w.cell? ⟨U, 0, none⟩ = some (.slice a l.length cap)) (hr : Row w a cap l) (hl : l.length ≤ 5000) (s g : Nat) (hs : s < l.length) (hg2 : (g : Int) ≤ 9223372036854775807) :
    Calls Try.prog 142 #[.pointer (some ⟨U, 0, none⟩), .int .i64 s, .int .i64 g] w fun e w' => (∃ b, e = .returned (.bool b) ∧ (b = true ↔ Reach l s g)) ∧ Below w.heap.size w w' := by
  have hm := hr.max
  have hle := hr.le
  have hms := run_boolsH l.length (by omega)
  have hb1 := (Below.refl w.heap.size w).new (.cells (Array.replicate l.length (Value.bool false)) 4)
  have hb2 := hb1.new (.cells #[.int .i64 s] 3)
  have hM0 := (RowT.made w l.length).alloc (.cells #[.int .i64 s] 3)
  have hA0 : AccInv (w.heap.size + 1) 3 [(s : Int)] (.slice (some ⟨w.heap.size + 1, 0, none⟩) 1 1) ((w.alloc (.cells (Array.replicate l.length (Value.bool false)) 4)).alloc (.cells #[.int .i64 s] 3)) := by
    have := AccInv.oneI (B := w.heap.size + 1) (w.alloc (.cells (Array.replicate l.length (Value.bool false)) 4)) (s : Int) (by omega) (by omega) (by simp)
    rwa [World.size_alloc] at this
  have HM0 := mkHid hM0
  have HA0 := mkHid hA0
  have HB0 := mkHid hb2
  have HR := mkHid hr
  clear hM0 hA0 hb1 hb2 hr
  have hU0 := hU
  go_enter Try.func142, Try.ntmps142
  go_wp2_with fail
  go_loopg [8, 9, 10, 11, 12] (l.length * (l.length + 1) + 1) (fun kk v x1 x2 x3 x4 wr => ∃ (av : Option Addr) (cv n : Nat) (t : List Int) (met : List Bool), v = .slice av n cv ∧ Hid (n = t.length) ∧ Hid (AccInv (w.heap.size + 1) 3 t v wr) ∧ Hid (RowT wr w.heap.size met) ∧ Hid (Seek l s met t) ∧ Hid (met[g]? ≠ some true) ∧ Hid (kk = falsesB met * (l.length + 1) + t.length) ∧ Hid (kk ≤ l.length * (l.length + 1) + 1) ∧ Hid (Below w.heap.size w wr))
  case atStart =>
    refine ⟨_, _, _, [(s : Int)], List.replicate l.length false, rfl, rfl, HA0, HM0, Seek.init hs, fun h => ?_, ?_, Nat.le_refl _, HB0⟩
    · rw [List.getElem?_replicate] at h
      split at h <;> simp at h
    · show _ = _
      rw [falsesB_init]; rfl
  case round =>
    clear HM0 HA0 HB0
    obtain ⟨av, cv, n, t, met, rfl, HN, HA, HM, HS, HG, HK, HKL, HB⟩ := hrel
    rcases nil_or_snoc t with rfl | ⟨t, y, rfl⟩
    · obtain rfl : n = 0 := HN.out
      go_wp2_with fail
      go_ret
      exact ⟨⟨false, rfl, fun h => (by cases h), fun h => absurd (HS.out.over h) HG.out⟩, HB.out⟩
    · obtain ⟨k, e, hrk, hk⟩ := HS.out.dues y (by simp)
      subst e
      have HRK := mkHid hrk
      clear hrk
      obtain rfl : n = t.length + 1 := by have := HN.out; simpa using this
      obtain ⟨b, c2, e1, hBb, hbl⟩ := HA.out.someI
      cases e1
      obtain ⟨a9, c9, e9, hrow⟩ := HA.out.row
      rw [List.length_append, List.length_singleton] at e9
      cases e9
      obtain ⟨b8, o8, e8, hE⟩ := hrow.at_ t.length (k : Int) (by simp)
      cases e8
      have c0 : wr.cell? ⟨b, t.length, none⟩ = some (.int .i64 (k : Int)) := by
        have := hE.c
        simpa [show Rep.sz Int = 1 from rfl] using this
      have hcap := hrow.le
      have hcap2 := hrow.max
      rw [List.length_append, List.length_singleton] at hcap
      have HP := mkHid HA.out.popI
      have hki : (0 : Int) ≤ (k : Int) := by omega
      have hki2 : (k : Int) < (l.length : Int) := by omega
      have hkm : k < met.length := by rw [HS.out.len]; exact hk
      have r0 := HM.out.read hkm
      have z0 := HM.out.free k
      have HMK : Hid (met[k]? = some met[k]) := List.getElem?_eq_getElem hkm
      have hu := keep hU HB.out
      have HRW := mkHid (HR.out.below HB.out)
      clear hE hrow HA
      by_cases hkg : k = g
      · have t1 : ((k : Int) == (g : Int)) = true := by simp [hkg]
        have HE : Hid (Reach l s g) := by rw [Hid, ← hkg]; exact HRK.out
        clear hkg
        go_wp2_with fail
        go_ret
        exact ⟨⟨true, rfl, fun _ => HE.out, fun _ => rfl⟩, HB.out⟩
      · have t1 : ((k : Int) == (g : Int)) = false := by simp; omega
        have HKG := mkHid hkg
        clear hkg
        generalize met[k] = mk at *
        cases mk with
        | true =>
          have HS2 := mkHid (HS.out.skip HMK.out)
          go_wp2_with fail
          go_roundg (gk - 1)
          case measure => have := HK.out; simp at this; omega
          case rel =>
            refine ⟨_, _, _, t, met, rfl, rfl, HP, HM, HS2, HG, ?_, ?_, HB⟩
            · have := HK.out; simp at this; rw [Hid]; omega
            · have := HKL.out; rw [Hid]; omega
        | false =>
          have hM2 := mkHid (HM.out.set k true)
          have hP2 := mkHid (HP.out.keptI (set_grown wr w.heap.size k (.bool true)) (by simp [Value.ownBlock]; omega))
          have hB2 : Hid (Below w.heap.size w (wr.setCell ⟨w.heap.size, k, none⟩ (.bool true))) := HB.out.trans ((Fr.set (Fr.refl [w.heap.size] _) (by simp) _).below HB.out.size (by simp))
          have hu2 := keep hU hB2.out
          have HRW2 := mkHid (HR.out.below hB2.out)
          obtain ⟨q1, q2, q3⟩ := leads_range l k hk
          have HEX : Hid (∀ m : Nat, (m : Int) = max (leads2 l k l[k] - leads1 l k l[k]) 0 → Seek l s (met.set k true) (t ++ fromI (leads1 l k l[k]) m)) := fun m h => HS.out.expand hk h
          have HLA := mkHid (leads_any a cap k (wr.setCell ⟨w.heap.size, k, none⟩ (.bool true)) l HRW2.out hk)
          obtain ⟨L1, hL1⟩ : ∃ x, x = leads1 l k l[k] := ⟨_, rfl⟩
          obtain ⟨L2, hL2⟩ : ∃ x, x = leads2 l k l[k] := ⟨_, rfl⟩
          rw [← hL1, ← hL2] at HEX HLA
          rw [← hL1] at q1 q2
          rw [← hL2] at q3
          have hfew : L2 - L1 ≤ l.length := by rw [hL1, hL2]; exact leads_few l k hk
          clear hL1 hL2
          have HFS := mkHid (falsesB_set HMK.out)
          have HTL : Hid (t.length ≤ 30000000) := by
            rw [Hid]
            have h1 := HK.out
            have h2 := HKL.out
            have h3 := prod_bound (a := l.length) (n := l.length) (Nat.le_refl _) hl
            have h4 : l.length * (l.length + 1) = l.length * l.length + l.length := Nat.mul_succ _ _
            simp at h1
            omega
          go_wp2_with fail
          refine HLA.out.mono ?_
          rintro e w1 ⟨rfl, hb1⟩
          have hM3 := mkHid (hM2.out.below hb1)
          have hP3 := mkHid (hP2.out.below hb1)
          have hB3 := mkHid (hB2.out.then hb1)
          clear hM2 hP2 hB2 hu2 HRW2 HLA r0 z0 c0 hu
          go_wp2_with fail
          go_loopw [8, 12] (fun v i wz => ∃ (av : Option Addr) (cv n m : Nat), i = .int .i64 (L1 + m) ∧ v = .slice av n cv ∧ Hid (n = t.length + m) ∧ (m : Int) ≤ max (L2 - L1) 0 ∧ Hid (AccInv (w.heap.size + 1) 3 (t ++ fromI L1 m) v wz) ∧ Hid (RowT wz w.heap.size (met.set k true)) ∧ Hid (Below w.heap.size w wz)) (fun v i wz => (L2 - intOf i).toNat)
          case atStart => exact ⟨_, _, _, 0, by simp, rfl, rfl, by omega, by rw [Hid]; simpa [fromI] using hP3.out, hM3, hB3⟩
          case round =>
            obtain ⟨av, cv, n, m, rfl, rfl, HN2, hm3, HA2, HM2, HB2⟩ := hrel
            have hlt2 := HM2.out.lt
            by_cases hlt : L1 + m < L2
            · have HLE : Hid ((t ++ fromI L1 m).length + 1 ≤ 1000000000) := by
                rw [Hid, List.length_append, fromI_length]
                have := HTL.out
                omega
              go_wp2_with (at_builtin; refine wpList_acck (α := Int) rfl _ _ 23 rfl (w.heap.size + 1) 3 8 _ Try.underlying23 Try.infoInt rfl (by decide) _ (t ++ fromI L1 m) HA2.out (by rfl) _ #[.int .i64 (L1 + m)] (L1 + m) ⟨rfl, by omega, by omega⟩ (by rfl) HLE.out (by omega) ?_; intro v' w3 hacc3 hb3 hk3)
              go_round
              case rel =>
                obtain ⟨a4, c4, e4, _⟩ := hacc3.row
                rw [List.append_assoc, ← fromI_succ] at hacc3
                refine ⟨a4, c4, t.length + (m + 1), m + 1, by go_num, ?_, rfl, by omega, hacc3, HM2.out.belowN hb3 (by omega), ?_⟩
                · rw [e4]; simp [fromI_length, Nat.add_assoc]
                · exact HB2.out.trans (hb3.mono (by omega))
              case measure => simp [intOf]; omega
            · have HSK := mkHid (HEX.out m (by omega))
              go_wp2_with fail
              go_roundg (falsesB (met.set k true) * (l.length + 1) + (t.length + m))
              case measure =>
                have h1 := HK.out
                have h2 := HFS.out
                rw [← h2, Nat.add_mul] at h1
                simp at h1
                omega
              case rel =>
                refine ⟨_, _, _, t ++ fromI L1 m, met.set k true, rfl, ?_, HA2, HM2, HSK, ?_, ?_, ?_, HB2⟩
                · rw [Hid, List.length_append, fromI_length]; exact HN2.out
                · intro h
                  rw [List.getElem?_set_ne HKG.out] at h
                  exact HG.out h
                · rw [Hid, List.length_append, fromI_length]
                · have h1 := HK.out
                  have h2 := HFS.out
                  have h3 := HKL.out
                  rw [← h2, Nat.add_mul] at h1
                  simp at h1
                  rw [Hid]
                  omega
end Go.Proofs.Ytefnmjoapmnkbaa
set_option linter.unusedVariables false
namespace Go.Proofs.Ytefnmjoapmnkbaa
open Go.RowKit

/-! ### the unifier's small methods -/
theorem follow_v (a : Option Addr) (cap : Nat) (i0 : Int) (w : World) (l : List Cel) (hr : Row w a cap l) (h1 : -9223372036854775808 ≤ i0) (h2 : i0 ≤ 9223372036854775807) (o : Option Int) (ho : o = followL l l.length i0) :
    Calls Try.prog 69 #[.slice a l.length cap, .int .i64 i0] w fun e w' => e = .returned (.tuple #[.int .i64 (o.getD 0), .bool o.isSome]) ∧ Below w.heap.size w w' :=
  (follow_any a cap i0 w l hr h1 h2).mono fun e w' ⟨h, hb⟩ => by
    rw [← ho] at h
    refine ⟨?_, hb⟩
    cases o with
    | none => exact h
    | some i => exact h
theorem follow_rng {l : List Cel} {f : Nat} {i j : Int} (h : followL l f i = some j) : 0 ≤ j ∧ j < (l.length : Int) := by
  induction f generalizing i with
  | zero => cases h
  | succ f ih =>
    obtain ⟨g, k, hg, rfl, hk, hc⟩ := follow_some h
    cases hg
    rcases hc with ⟨_, h2⟩ | ⟨_, rfl⟩
    · exact ih h2
    · omega
theorem results_tmp3 {fn : Func} {t u x : Tmp} (h : fn.results = #[.tmp t, .tmp u, .tmp x]) (tmps : Array Value) (P : Program) (w : World) :
    (results fn tmps).run P w = .ok (.tuple #[tmps.getD t undef, tmps.getD u undef, tmps.getD x undef]) w := by
  simp [results, h]
theorem ret_iib {a b c d : Int} {p q : Bool} (h : a = c) (h' : b = d) (h2 : p = q) : (Ending.returned (.tuple #[.int .i64 a, .int .i64 b, .bool p])) = .returned (.tuple #[.int .i64 c, .int .i64 d, .bool q]) := by rw [h, h', h2]
set_option maxHeartbeats 3200000 in
theorem followed_any (U : Nat) (a : Option Addr) (cap : Nat) (w : World) (l : List Cel) (hU : w.cell? ⟨U, 0, none⟩ = some (.slice a l.length cap)) (hr : Row w a cap l) (hl : l.length ≤ 5000) (i j : Int) (i1 : -9223372036854775808 ≤ i) (i2 : i ≤ 9223372036854775807) (j1 : -9223372036854775808 ≤ j) (j2 : j ≤ 9223372036854775807)
    (o p : Option Int) (ho : o = followL l l.length i) (hp : p = followL l l.length j) :
    Calls Try.prog 115 #[.pointer (some ⟨U, 0, none⟩), .agg #[.int .i64 i, .int .i64 j]] w fun e w' => e = .returned (.tuple #[.int .i64 (min (o.getD 0) (p.getD 0)), .int .i64 (max (o.getD 0) (p.getD 0)), .bool (o.isSome && p.isSome)]) ∧ Below w.heap.size w w' := by
  have hm := hr.max
  have hle := hr.le
  have ho1 : -9223372036854775808 ≤ o.getD 0 ∧ o.getD 0 ≤ 9223372036854775807 := by
    cases o with
    | none => simp
    | some x => have := follow_rng ho.symm; simp; omega
  have hp1 : -9223372036854775808 ≤ p.getD 0 ∧ p.getD 0 ≤ 9223372036854775807 := by
    cases p with
    | none => simp
    | some x => have := follow_rng hp.symm; simp; omega
  have hb0 := (Below.refl w.heap.size w).new (.cells #[.int .i64 i, .int .i64 j] 111)
  have p0 : ∀ x : Later (w.alloc (.cells #[.int .i64 i, .int .i64 j] 111)), x.w'.cell? ⟨w.heap.size, 0, none⟩ = some (.int .i64 i) := keepL (World.cell?_alloc_at _ _ _ 0 rfl)
  have p1 : ∀ x : Later (w.alloc (.cells #[.int .i64 i, .int .i64 j] 111)), x.w'.cell? ⟨w.heap.size, 1, none⟩ = some (.int .i64 j) := keepL (World.cell?_alloc_at _ _ _ 1 rfl)
  have u0 : ∀ x : Later (w.alloc (.cells #[.int .i64 i, .int .i64 j] 111)), x.w'.cell? ⟨U, 0, none⟩ = some (.slice a l.length cap) := keepL (keep hU hb0)
  have hc1 : ∀ x : Later (w.alloc (.cells #[.int .i64 i, .int .i64 j] 111)), Calls Try.prog 69 #[.slice a l.length cap, .int .i64 i] x.w' fun e w'' => e = .returned (.tuple #[.int .i64 (o.getD 0), .bool o.isSome]) ∧ Below x.w'.heap.size x.w' w'' := fun x => follow_v a cap i _ l (hr.below (hb0.then x.ok)) i1 i2 o ho
  have HC2 : Hid (∀ w2, Below w.heap.size w w2 → ∀ x : Later w2, Calls Try.prog 69 #[.slice a l.length cap, .int .i64 j] x.w' fun e w'' => e = .returned (.tuple #[.int .i64 (p.getD 0), .bool p.isSome]) ∧ Below x.w'.heap.size x.w' w'') := fun w2 hb x => follow_v a cap j _ l (hr.below (hb.then x.ok)) j1 j2 p hp
  generalize o.getD 0 = ox at *
  generalize p.getD 0 = px at *
  generalize o.isSome = ob at *
  generalize p.isSome = pb at *
  clear ho hp hr
  go_enter Try.func115, Try.ntmps115
  go_wp2_with fail
  refine wp_region_calm (by kernel_rfl) (by kernel_rfl) ?_
  repeat (go_big_quiet_step (exact Calls.calm_of (hc1 _)))
  refine wpQuiet_nil ?_
  rintro _ ⟨x, rfl⟩
  have hbx := hb0.then x.ok
  have hc2 := HC2.out _ hbx
  have q1 : ∀ y : Later x.w', y.w'.cell? ⟨w.heap.size, 1, none⟩ = some (.int .i64 j) := keepL (p1 x)
  have q0 : ∀ y : Later x.w', y.w'.cell? ⟨U, 0, none⟩ = some (.slice a l.length cap) := keepL (u0 x)
  clear p0 p1 u0 hc1
  go_wp2_with fail
  refine wp_region_calm (by kernel_rfl) (by kernel_rfl) ?_
  repeat (go_big_quiet_step (exact Calls.calm_of (hc2 _)))
  refine wpQuiet_nil ?_
  rintro _ ⟨y, rfl⟩
  have hby := hbx.then y.ok
  clear q0 q1 hc2
  cases ob <;> cases pb
  all_goals
    go_wp2_with fail
    all_goals
      (try simp only [Exit.inBlock, Exit.then])
      refine bodyPost_ret (results_tmp3 rfl _ _ _) rfl ?_
      refine ⟨ret_iib ?_ ?_ rfl, hby⟩
      all_goals
        first
          | rfl
          | omega
end Go.Proofs.Ytefnmjoapmnkbaa
namespace Go.Proofs.Ytefnmjoapmnkbaa
open Go.RowKit Go.ChangeShapes Go.WideShapes Go.Deep Go.ChangeAt

theorem Try.own : ownKnob Try.prog.godebug = none := by kernel_rfl
theorem Try.laidOut : laidOutB Try.prog = true := by kernel_rfl
theorem Try.cells54 : Try.prog.cellsOf 54 = 3 := by kernel_rfl
theorem Try.cells26 : Try.prog.cellsOf 26 = 1 := by kernel_rfl
theorem Try.cells3 : Try.prog.cellsOf 3 = 1 := by kernel_rfl
theorem Try.cells9 : Try.prog.cellsOf 9 = 1 := by kernel_rfl

theorem i64_wf {n : Int} (h : (Lit.int .i64 n).wf = true) : -9223372036854775808 ≤ n ∧ n ≤ 9223372036854775807 := by
  simp [Lit.wf, IntKind.min, IntKind.max, IntKind.signed, IntKind.bits] at h
  omega
theorem add_lit (b o j : Nat) : (Addr.mk b o none).add j = ⟨b, o + j, none⟩ := by unfold Addr.add; split <;> simp_all

section
variable {H : Type} {enc : TypeId × Value → H} {w : World} {spare : Nat → Bool} {held : Bool}
set_option maxRecDepth 100000 in
/-- three cells that read as a cell of a term -/
theorem open_cell {n : Nat} {cs : List Value} {x : DataW H × List MemPlace} (h : DataW.trod enc Try.prog w 0 spare held n 54 cs = some x) :
    ∃ c : Cel, cs = [.int .i64 c.k, .string c.s, .int .i64 c.n] ∧ c.fit := by
  obtain ⟨ys, m, _, _, hlen, hyl, hf⟩ := DataW.trod_struct Try.underlying54 h
  rw [Try.cells54] at hlen
  match cs, hlen with
  | [v0, v1, v2], _ =>
    have h0 : DataW.trod enc Try.prog w 0 spare held m 3 (([v0, v1, v2].drop 0).take (Try.prog.cellsOf 3)) = ys[0]? := hf 0 _ rfl
    have h1 : DataW.trod enc Try.prog w 0 spare held m 9 (([v0, v1, v2].drop 1).take (Try.prog.cellsOf 9)) = ys[1]? := hf 1 _ rfl
    have h2 : DataW.trod enc Try.prog w 0 spare held m 3 (([v0, v1, v2].drop 2).take (Try.prog.cellsOf 3)) = ys[2]? := hf 2 _ rfl
    rw [Try.cells3] at h0 h2
    rw [Try.cells9] at h1
    have hy : ∀ i : Nat, i < 3 → ∃ y, ys[i]? = some y := fun i hi => ⟨_, List.getElem?_eq_getElem (by rw [hyl]; exact hi)⟩
    obtain ⟨y0, e0⟩ := hy 0 (by omega)
    obtain ⟨y1, e1⟩ := hy 1 (by omega)
    obtain ⟨y2, e2⟩ := hy 2 (by omega)
    rw [e0] at h0
    rw [e1] at h1
    rw [e2] at h2
    obtain ⟨a0, q0, _, f0⟩ := DataW.trod_int Try.underlying3 h0
    obtain ⟨a1, q1, _, f1⟩ := DataW.trod_string Try.underlying9 h1
    obtain ⟨a2, q2, _, f2⟩ := DataW.trod_int Try.underlying3 h2
    simp at q0 q1 q2
    refine ⟨⟨a0, a1, a2⟩, by rw [q0, q1, q2], ⟨(i64_wf f0).1, (i64_wf f0).2, (i64_wf f2).1, (i64_wf f2).2, by unfold maxLen at f1; exact f1⟩⟩

/-- what rows of a kind are made of -/
theorem open_rows {α : Type} [Rep α] {t e : TypeId} (ht : Try.prog.underlying t = some (.slice e)) (hC : Try.prog.cellsOf e = Rep.sz α)
    (hE : ∀ (n : Nat) (a : Addr) (cs : List Value) (x : DataW H × List MemPlace), w.cells? 0 a (Rep.sz α) = some cs → DataW.trod enc Try.prog w 0 (fun _ => true) held n e cs = some x → ∃ (b o : Nat) (y : α), a = ⟨b, o, none⟩ ∧ Rep.E w b o y)
    {fuel : Nat} {a : Option Addr} {len cap : Nat} {x : DataW H × List MemPlace} (h : DataW.trod enc Try.prog w 0 (fun _ => true) held fuel t [.slice a len cap] = some x) :
    ∃ xs : List α, xs.length = len ∧ Row w a cap xs := by
  rcases open_slice ht h with ⟨hcs, _⟩ | ⟨ad, l, c, m, n, D, Pl, hcs, _, hl, hm, hmm, _, hi⟩
  · simp at hcs
    obtain ⟨rfl, rfl, rfl⟩ := hcs
    exact ⟨[], rfl, Row.empty _ _ _ (by omega) (fun _ => rfl)⟩
  · simp at hcs
    obtain ⟨rfl, rfl, rfl⟩ := hcs
    simp only [if_true] at hmm
    subst hmm
    have key : ∀ i, i < len → ∃ (b o : Nat) (y : α), ad.add (i * Rep.sz α) = ⟨b, o, none⟩ ∧ Rep.E w b o y := by
      intro i hil
      obtain ⟨cs', hc, ht'⟩ := hi i (by omega)
      rw [hC] at hc
      exact hE n _ cs' _ hc ht'
    have hy : ∀ i : Fin len, ∃ y : α, ∃ b o, ad.add (i.val * Rep.sz α) = ⟨b, o, none⟩ ∧ Rep.E w b o y := fun i => by
      obtain ⟨b, o, y, e1, e2⟩ := key i.val i.isLt
      exact ⟨y, b, o, e1, e2⟩
    let f : Fin len → α := fun i => Classical.choose (hy i)
    have hf : ∀ i : Fin len, ∃ b o, ad.add (i.val * Rep.sz α) = ⟨b, o, none⟩ ∧ Rep.E w b o (f i) := fun i => Classical.choose_spec (hy i)
    refine ⟨List.ofFn f, List.length_ofFn, ⟨by rw [List.length_ofFn]; exact hl, by unfold maxLen at hm; omega, (fun e => by cases e), fun i x hx => ?_⟩⟩
    have hil : i < len := by
      have := (List.getElem?_eq_some_iff.1 hx).1; rwa [List.length_ofFn] at this
    have hx' : f ⟨i, hil⟩ = x := by
      rw [List.getElem?_eq_getElem (by rw [List.length_ofFn]; exact hil), List.getElem_ofFn] at hx
      exact Option.some.inj hx
    obtain ⟨b, o, e1, e2⟩ := hf ⟨i, hil⟩
    obtain ⟨b0, o0, s0⟩ := ad
    have hz := hf ⟨0, by omega⟩
    obtain ⟨b1, o1, e3, _⟩ := hz
    simp only [Nat.zero_mul, Addr.add, if_true] at e3
    injection e3 with e3 e4 e5
    subst e5
    rw [add_lit] at e1
    injection e1 with e1 e6
    subst e1
    refine ⟨b0, o0, rfl, ?_⟩
    rw [hx'] at e2
    rw [← e6] at e2
    exact e2

theorem spot_none {a : Addr} {v : Value} (h : w.cell? a = some v) : ∃ b o, a = ⟨b, o, none⟩ := by
  have := World.cell?_spot h
  obtain ⟨b, o, s⟩ := a
  simp at this
  subst this
  exact ⟨b, o, rfl⟩
theorem E_cell (n : Nat) (a : Addr) (cs : List Value) (x : DataW H × List MemPlace) (hc : w.cells? 0 a 3 = some cs) (h : DataW.trod enc Try.prog w 0 spare held n 54 cs = some x) : ∃ (b o : Nat) (y : Cel), a = ⟨b, o, none⟩ ∧ Rep.E w b o y := by
  obtain ⟨c, rfl, hf⟩ := open_cell h
  obtain ⟨_, _, hat⟩ := World.cells?_some hc
  have h0 := hat 0 (by omega)
  obtain ⟨b, o, rfl⟩ : ∃ b o, a = ⟨b, o, none⟩ := spot_none (by simpa [Addr.add] using h0)
  refine ⟨b, o, c, rfl, ?_⟩
  have h1 := hat 1 (by omega)
  have h2 := hat 2 (by omega)
  rw [add_lit] at h0 h1 h2
  exact ⟨h0, h1, h2, hf⟩
/-- []Cell -/
theorem open_cells {fuel : Nat} {a : Option Addr} {len cap : Nat} {x : DataW H × List MemPlace} (h : DataW.trod enc Try.prog w 0 (fun _ => true) held fuel 26 [.slice a len cap] = some x) :
    ∃ xs : List Cel, xs.length = len ∧ Row w a cap xs :=
  open_rows Try.underlying26 Try.cells54 (fun n a cs x h1 h2 => E_cell n a cs x h1 h2) h
theorem E_list {α : Type} [Rep α] {e : TypeId} {el : TypeId} (he : Try.prog.underlying e = some (.slice el))
    (hop : ∀ {fuel : Nat} {a : Option Addr} {len cap : Nat} {x : DataW H × List MemPlace}, DataW.trod enc Try.prog w 0 (fun _ => true) held fuel e [.slice a len cap] = some x → ∃ xs : List α, xs.length = len ∧ Row w a cap xs)
    (n : Nat) (a : Addr) (cs : List Value) (x : DataW H × List MemPlace) (hc : w.cells? 0 a 1 = some cs) (h : DataW.trod enc Try.prog w 0 (fun _ => true) held n e cs = some x) : ∃ (b o : Nat) (y : List α), a = ⟨b, o, none⟩ ∧ Rep.E w b o y := by
  obtain ⟨_, hl, hat⟩ := World.cells?_some hc
  have h0 := hat 0 (by omega)
  match cs, hl with
  | [v], _ =>
    have hv : ∃ a' len cap, v = .slice a' len cap := by
      rcases open_slice he h with ⟨hcs, _⟩ | ⟨ad, l, c, m, n, D, Pl, hcs, _⟩
      · simp at hcs; exact ⟨_, _, _, hcs⟩
      · simp at hcs; exact ⟨_, _, _, hcs⟩
    obtain ⟨a', len, cap, rfl⟩ := hv
    obtain ⟨xs, rfl, hr⟩ := hop h
    obtain ⟨b, o, rfl⟩ : ∃ b o, a = ⟨b, o, none⟩ := spot_none (by simpa [Addr.add] using h0)
    rw [add_lit] at h0
    exact ⟨b, o, xs, rfl, ⟨a', cap, h0, hr⟩⟩
/-- [][]Cell -/
theorem open_cellss {fuel : Nat} {a : Option Addr} {len cap : Nat} {x : DataW H × List MemPlace} (h : DataW.trod enc Try.prog w 0 (fun _ => true) held fuel 142 [.slice a len cap] = some x) :
    ∃ xs : List (List Cel), xs.length = len ∧ Row w a cap xs :=
  open_rows Try.underlying142 Try.cells26 (fun n a cs x h1 h2 => E_list (α := Cel) Try.underlying26 open_cells n a cs x h1 h2) h
end
end Go.Proofs.Ytefnmjoapmnkbaa
set_option linter.unusedVariables false
namespace Go.Proofs.Ytefnmjoapmnkbaa
open Go.RowKit

/-! ### a map from pairs of numbers to bool -/
def pfit (p : Int × Int) : Prop := (-9223372036854775808 ≤ p.1 ∧ p.1 ≤ 9223372036854775807) ∧ -9223372036854775808 ≤ p.2 ∧ p.2 ≤ 9223372036854775807
def keyPr (p : Int × Int) : Lit := .string (keyBytes [.int .i64 p.1, .int .i64 p.2])
theorem pair_law : WideMaps.KeyLaw Try.prog 111 :=
  deep_law_gate Try.laidOut (Nat.le_of_ble_eq_true (by kernel_rfl)) (Nat.le_of_ble_eq_true (by kernel_rfl)) (by kernel_rfl) (by rw [Try.underlying111])
theorem pair_keyed : Go.Maps.Keyed Try.prog 111 := Go.Maps.Keyed.of_law pair_law
theorem Try.cellsPair : Try.prog.cellsOf 111 = 2 := by kernel_rfl
theorem Try.keyPair : Try.prog.keyType 111 = true := by kernel_rfl
theorem Try.cellsIntH : Try.prog.cellsOf 3 = 1 := by kernel_rfl
theorem Try.typesSizeH : ∃ m, Try.prog.types.size = m + 1 := ⟨Try.prog.types.size - 1, by kernel_rfl⟩
theorem keyOf_pair {p : Int × Int} (hf : pfit p) : keyOf Try.prog 111 (.agg #[.int .i64 p.1, .int .i64 p.2]) = some (keyPr p) := by
  obtain ⟨m, hm⟩ := Try.typesSizeH
  have h1 : (Lit.int .i64 p.1).wf = true := wf64 hf.1.1 hf.1.2
  have h2 : (Lit.int .i64 p.2).wf = true := wf64 hf.2.1 hf.2.2
  unfold keyOf
  simp only [Try.underlying111]
  rw [if_pos (by simp [Try.keyPair, Value.formed, Try.underlying111, Try.cellsPair]), hm]
  unfold Program.keyLits
  simp only [Try.underlying111, Value.cells]
  rw [if_pos (by rw [Try.cellsPair]; simp)]
  have k1 : ∀ n : Int, (Lit.int .i64 n).wf = true → Try.prog.keyLits (m + 1) 3 [.int .i64 n] = some [.int .i64 n] := by
    intro n h
    unfold Program.keyLits
    simp only [Try.underlying3]
    rw [if_pos ⟨trivial, h⟩]
  rw [show List.range 2 = [0, 1] from rfl]
  simp only [List.mapM_cons, List.mapM_nil]
  rw [Try.cellsIntH]
  show Option.map (fun ls => Lit.string (keyBytes ls)) (Option.map List.flatten (do
    let x ← Try.prog.keyLits (m + 1) 3 [Value.int .i64 p.1]
    let y ← (do
      let z ← Try.prog.keyLits (m + 1) 3 [Value.int .i64 p.2]
      let u ← pure []
      pure (z :: u))
    pure (x :: y))) = _
  rw [k1 _ h1, k1 _ h2]
  simp only [bind, Option.bind, pure, Option.map, List.flatten_cons, List.flatten_nil, List.append_nil, List.cons_append, List.nil_append, keyPr]
theorem keyPr_inj {p q : Int × Int} (hp : pfit p) (hq : pfit q) (h : keyPr p = keyPr q) : p = q := by
  have h1 := keyOf_pair hp
  have h2 := keyOf_pair hq
  rw [← h] at h2
  have h3 := pair_keyed.inj h1 h2
  clear h h1 h2
  have h4 : (#[Value.int .i64 p.1, .int .i64 p.2] : Array Value).toList = [Value.int .i64 q.1, .int .i64 q.2] := by rw [Value.agg.inj h3]
  have h5 : Value.int .i64 p.1 = Value.int .i64 q.1 := (List.cons.inj h4).1
  have h6 : Value.int .i64 p.2 = Value.int .i64 q.2 := (List.cons.inj (List.cons.inj h4).2).1
  exact Prod.ext (Value.int.inj h5).2 (Value.int.inj h6).2
theorem plainElem_boolH (v : Value) {ps : List MemPlace} {x : Bool} (hv : plainElem (H := Unit) Try.prog 4 v = some (.lit (.bool x), ps)) : v = .bool x := by
  have key : ∀ (P : Program) (e : TypeId), P.underlying e = some .bool → plainElem (H := Unit) P e v = some (.lit (.bool x), ps) → v = .bool x := by
    intro P e he hv
    unfold plainElem at hv
    rw [he] at hv
    cases v <;> simp at hv
    rw [hv.1]
  exact key _ _ Try.underlying4 hv
/-- block b of w is a map from pairs to bool of at most n entries -/
def MapPB (w : World) (b n : Nat) (f : Int × Int → Bool) : Prop :=
  ∃ D : DataW Unit, w.ownsMap Try.prog 111 (plainElem Try.prog 4) b n D ∧ ∀ p : Int × Int, pfit p → D.atKey (keyPr p) (.lit (.bool false)) = .lit (.bool (f p))
theorem MapPB.made (w : World) : MapPB (w.alloc (.map #[] 0)) w.heap.size 0 (fun _ => false) :=
  ⟨.map [], World.ownsMap_made w Try.prog 111 _, fun _ _ => rfl⟩
theorem Try.zeroBoolH (w : World) : (zeroValue 4).run Try.prog w = .ok (.bool false) w := by kernel_rfl
section
variable {w w' : World} {b n : Nat} {f : Int × Int → Bool}
theorem MapPB.lt (h : MapPB w b n f) : b < w.heap.size := let ⟨_, h, _⟩ := h; h.lt
theorem MapPB.kept {row : Option Nat} (h : MapPB w b n f) (hg : w.grownBy w' row) (hne : some b ≠ row) : MapPB w' b n f :=
  let ⟨D, h, hf⟩ := h; ⟨D, h.kept hg hne, hf⟩
theorem MapPB.below (h : MapPB w b n f) (hb : Below w.heap.size w w') : MapPB w' b n f :=
  h.kept (row := none) ⟨hb.os, hb.tape, hb.output, hb.size, fun k hk _ => hb.block k hk⟩ (by simp)
theorem MapPB.alloc (h : MapPB w b n f) (o : Obj) : MapPB (w.alloc o) b n f := let ⟨D, h, hf⟩ := h; ⟨D, h.alloc o, hf⟩
/-- kept by whatever leaves the block as it is -/
theorem MapPB.block (h : MapPB w b n f) (e : w'.heap[b]? = w.heap[b]?) : MapPB w' b n f := by
  obtain ⟨D, ⟨es, clock, h1, h2, h3, h4⟩, hf⟩ := h
  exact ⟨D, ⟨es, clock, e.trans h1, h2, h3, h4⟩, hf⟩
theorem MapPB.run_lookup (h : MapPB w b n f) {p : Int × Int} (hp : pfit p) : (Instr.lookup 158 (.map (some b)) (.agg #[.int .i64 p.1, .int .i64 p.2]) false).run Try.prog w = .ok (.bool (f p)) w := by
  obtain ⟨D, h, hf⟩ := h
  obtain ⟨v, ps, hrun, hv⟩ := h.lookup pair_keyed Try.underlying158 (Try.zeroBoolH w) (z := .bool false) (zd := .lit (.bool false)) (zp := []) (plainElem_bool Try.underlying4 false) (keyOf_pair hp)
  rw [hf p hp] at hv
  rw [hrun]
  rw [plainElem_boolH v hv]
theorem MapPB.put_at {D : DataW Unit} (hD : Go.Maps.IsMap D) (hf : ∀ p : Int × Int, pfit p → D.atKey (keyPr p) (.lit (.bool false)) = .lit (.bool (f p))) {p : Int × Int} (hp : pfit p) (x : Bool) :
    ∀ q : Int × Int, pfit q → (D.put (keyPr p) (.lit (.bool x))).atKey (keyPr q) (.lit (.bool false)) = .lit (.bool (if q = p then x else f q)) := by
  intro q hq
  by_cases e : q = p
  · subst e; rw [if_pos rfl]; exact Go.Maps.atKey_put_same hD (pair_keyed.key (keyOf_pair hq)) _ _
  · rw [if_neg e, ← hf q hq]; exact Go.Maps.atKey_put_other (fun h => e (keyPr_inj hq hp h)) _ _
theorem MapPB.wpl_update {ops : Array Oper} {rest : List Oper} {o : Oper} {a : Act} {Q : Exit → Act → World → Prop}
    (hg : o.guard = none) (m x y : Operand) (hop : o.op = Op.mapUpdate 158 m x y)
    (hm : a.eval m = .map (some b)) (h : MapPB w b n f) (hn : n < 9223372036854775807) (p : Int × Int) (hx : a.eval x = .agg #[.int .i64 p.1, .int .i64 p.2]) (hp : pfit p) (z : Bool) (hy : a.eval y = .bool z)
    (hK : ∀ w', MapPB w' b (n + 1) (fun j => if j = p then z else f j) → w.grownBy w' (some b) → wpList Try.prog ops Q rest (a.put o.dst undef) w') :
    wpList Try.prog ops Q (o :: rest) a w := by
  obtain ⟨D, h, hf⟩ := h
  refine wpList_mapUpdate_own w hg m x y 158 hop 111 4 pair_keyed Try.underlying158 _ b n D hm h (by unfold maxLen; omega) _ _ _ hx hy (keyOf_pair hp) (.lit (.bool z)) [] (plainElem_bool Try.underlying4 z) ?_
  intro w' h' hg'
  exact hK w' ⟨_, h', MapPB.put_at h.isMap hf hp z⟩ hg'
end
end Go.Proofs.Ytefnmjoapmnkbaa
