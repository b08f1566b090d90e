import Derived.Test.YtfcebbfphjbkoaaZk3
import Derived.RangeFuncNested
import Derived.RangeFuncBound
import Derived.RangeFuncCalls
import Derived.RangeFuncLeaves
import Derived.Shelf.Abstract
import Derived.Shelf.RegionOpen
import Derived.WalkKit
import Derived.OwnWalkIn
import Derived.TacticsInMore
import Derived.LoopNIn
import Derived.LoopIn
import Derived.Maps.AppendAt
import Derived.Test.YtfcebbfphjbkoaaRows
import Derived.Shelf.SlSortCmp.WholeK
import Derived.Shelf.SlSortCmp.NoneTotal
namespace Go.Proofs.Ytfcebbfphjbkoaa
open Go.RowKit
attribute [local go_sem] Oper.semAt_some

/-- a cell that may be -/
abbrev CelF := { c : Cel // c.fit }
def vals (l : List CelF) : List Cel := l.map Subtype.val
theorem vals_append (a b : List CelF) : vals (a ++ b) = vals a ++ vals b := by simp [vals]
/-- what a round of the loop over cells keeps -/
structure KpC (n₀ B1 B2 : Nat) (W W' : World) : Prop where
  below : Below n₀ W W'
  b1 : W'.heap[B1]? = W.heap[B1]?
  b2 : W'.heap[B2]? = W.heap[B2]?
theorem KpC.refl (n₀ B1 B2 : Nat) (W : World) : KpC n₀ B1 B2 W W := ⟨Below.refl _ _, rfl, rfl⟩
theorem KpC.trans {n₀ B1 B2 : Nat} {A B C : World} (h : KpC n₀ B1 B2 A B) (k : KpC n₀ B1 B2 B C) : KpC n₀ B1 B2 A C := ⟨h.below.trans k.below, k.b1.trans h.b1, k.b2.trans h.b2⟩
theorem KpC.alloc {n₀ B1 B2 : Nat} {A W : World} (h : KpC n₀ B1 B2 A W) (o : Obj) (hs : n₀ ≤ W.heap.size) (h1 : B1 < W.heap.size) (h2 : B2 < W.heap.size) : KpC n₀ B1 B2 A (W.alloc o) :=
  ⟨h.below.alloc hs o, (Below.heap_alloc W o B1 h1).trans h.b1, (Below.heap_alloc W o B2 h2).trans h.b2⟩

theorem putL_take_le {f : Int → Option (List Cel)} {ys : List Cel} {k : Nat} : (putL f (ys.take k)).length ≤ (putL f ys).length := by
  have : ys = ys.take k ++ ys.drop k := (List.take_append_drop k ys).symm
  have h := congrArg (fun l => (putL f l).length) this
  simp only [putL_append, List.length_append] at h
  omega
theorem put_room {f : Int → Option (List Cel)} {ys : List Cel} {k j : Nat} (hk : k < ys.length) (hj : j < (putC f ys[k]).length) : (putL f (ys.take k) ++ (putC f ys[k]).take j).length < (putL f ys).length := by
  have h1 := putL_take_le (f := f) (ys := ys) (k := k + 1)
  rw [putL_snoc f ys k hk, List.length_append] at h1
  simp only [List.length_append, List.length_take]
  omega

theorem MapT.yesB {w w' : World} {m : Nat} {f : Int → Option (List Cel)} (h : MapT w m f) (hb : Below w.heap.size w w') {i : Int} {t : List Cel} (hf : f i = some t) (hi : (Lit.int .i64 i).wf = true) :
    ∃ a cap, (Instr.lookup 65 (.map (some m)) (.int .i64 i) true).run Try.prog w' = .ok (.tuple #[.slice a t.length cap, .bool true]) w' ∧ Row w a cap t := by
  obtain ⟨n, g, h1, h2⟩ := h.ex
  have := h2 i
  rw [hf] at this
  obtain ⟨a, cap, e, hr⟩ := this
  have hrun := (h1.below hb).run_ok (t := 65) (e := 22) Try.underlying3 Try.underlying65 (Try.zeroCells w') hi
  rw [e] at hrun
  exact ⟨a, cap, hrun, hr⟩

set_option maxRecDepth 100000 in
set_option maxHeartbeats 8000000 in
theorem cells1_in (F : Fence) (n : Nat) (hF : F.fn 79) (hro : F.round = none) (hn : 1 ≤ n) (l B1 B2 : Nat) (w : World) (m : Nat) (f : Int → Option (List Cel)) (hM : MapT w m f) (a : Option Addr) (cap : Nat) (ys : List Cel) (hy : Row w a cap ys) (hl : ys.length ≤ 10000)
    (J Jx : List CelF → World → Prop)
    (W : World) (hW : Below w.heap.size w W) (hJ : AbidesFrom W.heap.size J)
    (hY : ∀ pre x W, J pre W → pre.length < (putL f ys).length → YieldAt F (n - 1) Try.prog l #[x.1.v] W fun e W' =>
      (e = .returned (.bool true) ∧ J (pre ++ [x]) W' ∧ KpC w.heap.size B1 B2 W W') ∨ (e = .returned (.bool false) ∧ Jx (pre ++ [x]) W'))
    (hB1 : W.cell? ⟨B1, 0, none⟩ = some (.slice a ys.length cap)) (hB2 : W.cell? ⟨B2, 0, none⟩ = some (.map (some m))) (h0 : J [] W) :
    CallsIn F n Try.prog 79 #[.func (.yield l) #[] #[], .pointer (some ⟨B1, 0, none⟩), .pointer (some ⟨B2, 0, none⟩)] W fun e W' => (∃ v, e = .returned v) ∧
      ((∃ zs, vals zs = putL f ys ∧ J zs W') ∨ (∃ pre, vals pre <+: putL f ys ∧ Jx pre W')) := by
  have hm := hy.max
  have hm2 := hy.le
  refine callsIn_of_wp Try.func79 rfl hF ?_ hro
  simp only [Try.ntmps79, List.size_toArray, List.length_cons, List.length_nil, Nat.reduceAdd, Nat.reduceSub, Array.replicate_succ, Array.replicate_zero, List.push_toArray, List.append_toArray, List.nil_append, List.cons_append]
  gi_wp2
  gi_loopw [4, 5, 6, 7, 8, 10, 13, 39] (fun _ _ _ _ _ _ i _ wr => ∃ (k : Nat) (pre : List CelF), k ≤ ys.length ∧ i = .int .i64 k ∧ Hid (vals pre = putL f (ys.take k)) ∧ J pre wr ∧ KpC w.heap.size B1 B2 W wr ∧ W.heap.size ≤ wr.heap.size) (fun _ _ _ _ _ _ i _ _ => ys.length - (intOf i).toNat)
  case atStart => exact ⟨0, [], Nat.zero_le _, rfl, by simp [Hid, vals, putL], h0, KpC.refl _ _ _ _, Nat.le_refl _⟩
  case round =>
    obtain ⟨k, pre, hk, rfl, HP, hJs, hkp, hsz⟩ := hrel
    obtain ⟨wo, rfl⟩ : ∃ wo : World, wo = wr := ⟨_, rfl⟩
    by_cases hlt : k < ys.length
    · have hbw := hW.trans hkp.below
      obtain ⟨b, off, rfl, hb, hat⟩ := hy.cases.resolve_left (fun e => by simp [e] at hlt)
      obtain ⟨c0, c1, c2, hf⟩ := cel_at hat hbw hlt
      have hB1l := cell_lt hB1
      have hB2l := cell_lt hB2
      have e1 : wo.cell? ⟨B1, 0, none⟩ = some (.slice (some ⟨b, off, none⟩) ys.length cap) := by rw [World.cell?, hkp.b1]; exact hB1
      have e2 : wo.cell? ⟨B2, 0, none⟩ = some (.map (some m)) := by rw [World.cell?, hkp.b2]; exact hB2
      have g1 := keep e1 ((Below.refl _ _).new (.cells #[.int .i64 ys[k].k, .string ys[k].s, .int .i64 ys[k].n] 24))
      have g2 := keep e2 ((Below.refl _ _).new (.cells #[.int .i64 ys[k].k, .string ys[k].s, .int .i64 ys[k].n] 24))
      have hwf : (Lit.int .i64 ys[k].n).wf = true := WalkArith.wf_i64 ⟨hf.n1, hf.n2⟩
      have hbx := hbw.new (.cells #[.int .i64 ys[k].k, .string ys[k].s, .int .i64 ys[k].n] 24)
      have hM2 := hM.below hbx
      have HJ1 := mkHid (hJ pre _ _ none hJs (World.grownBy_alloc wo (.cells #[.int .i64 ys[k].k, .string ys[k].s, .int .i64 ys[k].n] 24) none) (fun r e => by cases e))
      have hkp1 := hkp.alloc (.cells #[.int .i64 ys[k].k, .string ys[k].s, .int .i64 ys[k].n] 24) hbw.size (by omega) (by omega)
      have hrs : Row w (some ⟨b, off + k * 3, none⟩) (cap - k) ((ys.drop k).take (k + 1 - k)) := hy.slice (i := k) (j := k + 1) (by omega) (by omega)
      have hr1 : (ys.drop k).take (k + 1 - k) = [ys[k]] := by rw [Nat.add_sub_cancel_left, List.drop_eq_getElem_cons hlt]; rfl
      rw [hr1] at hrs
      -- what is put in, and where it lies
      cases hfn : f ys[k].n with
      | none =>
        have HC : Hid (putC f ys[k] = [ys[k]]) := by rw [Hid]; unfold putC; rw [hfn]; simp
        have hrun := hM2.no hfn hwf
        obtain ⟨inl, hinl⟩ : ∃ inl : List Cel, inl = [ys[k]] := ⟨_, rfl⟩
        have hL1 : inl.length ≤ 1 := by rw [hinl]; simp
        have hL2 : 1 ≤ inl.length := by rw [hinl]; simp
        rw [← hinl] at hrs HC
        clear hfn hM2 hr1 hinl
        gi_wp2
        gi_loopw [10, 39] (fun _ j wr => ∃ (q : Nat) (pre' : List CelF), q ≤ inl.length ∧ j = .int .i64 q ∧ Hid (vals pre' = putL f (ys.take k) ++ inl.take q) ∧ J pre' wr ∧ KpC w.heap.size B1 B2 W wr ∧ W.heap.size ≤ wr.heap.size) (fun _ j _ => inl.length - (intOf j).toNat)
        case atStart => exact ⟨0, pre, Nat.zero_le _, rfl, by rw [Hid, List.take_zero, List.append_nil]; exact HP.out, HJ1.out, hkp1, by simp; omega⟩
        case round =>
          obtain ⟨q, pre', hq, rfl, HQ, hJ2, hkp2, hsz2⟩ := hrel
          by_cases hlq : q < inl.length
          · obtain ⟨b3, off3, e3, _, hat3⟩ := hrs.cases.resolve_left (fun e => by rw [e] at hlq; simp at hlq)
            cases e3
            have hq1 : q < 1 := by omega
            have hbw2 := hW.trans hkp2.below
            obtain ⟨d0, d1, d2, hf3⟩ := cel_at hat3 hbw2 hlq
            have hJ3 := hJ pre' _ _ none hJ2 (World.grownBy_alloc wr (.cells #[.int .i64 inl[q].k, .string inl[q].s, .int .i64 inl[q].n] 24) none) (fun r e => by cases e)
            have hkp3 := hkp2.alloc (.cells #[.int .i64 inl[q].k, .string inl[q].s, .int .i64 inl[q].n] 24) hbw2.size (by omega) (by omega)
            have hroom : pre'.length < (putL f ys).length := by
              have h1 : pre'.length = (vals pre').length := by simp [vals]
              rw [h1, HQ.out, ← HC.out]
              exact put_room hlt (by rw [HC.out]; exact hlq)
            obtain ⟨fn, tmps, assign, body, hy3, hR⟩ := hY pre' ⟨inl[q], hf3⟩ _ hJ3 hroom
            dsimp only [Cel.v] at hy3
            have HV : Hid (vals (pre' ++ [⟨inl[q], hf3⟩]) = putL f (ys.take k) ++ inl.take (q + 1)) := by
              rw [Hid, vals_append, HQ.out, List.take_succ_eq_append_getElem hlq, List.append_assoc]; rfl
            gi_wp2
            refine hR.mono ?_
            rintro e W3 (⟨rfl, hJ4, hk4⟩ | ⟨rfl, hJx4⟩)
            · gi_wp2
              go_roundw
              case rel => exact ⟨q + 1, _, by omega, by simp, HV, hJ4, hkp3.trans hk4, by have := hk4.below.size; simp at this; omega⟩
              case measure => simp [intOf]; omega
            · gi_wp2
              refine bodyPost_ret (results_none rfl _ _ _) rfl ?_
              refine ⟨⟨_, rfl⟩, .inr ⟨_, ?_, hJx4⟩⟩
              rw [HV.out]
              have hpre : putL f (ys.take (k + 1)) <+: putL f ys := by
                refine ⟨putL f (ys.drop (k + 1)), ?_⟩
                rw [← putL_append, List.take_append_drop]
              rw [putL_snoc f ys k hlt, HC.out] at hpre
              exact List.IsPrefix.trans ⟨inl.drop (q + 1), by rw [List.append_assoc, List.take_append_drop]⟩ hpre
          · have HN : Hid (vals pre' = putL f (ys.take (k + 1))) := by
              rw [Hid, putL_snoc f ys k hlt, HC.out, HQ.out, List.take_of_length_le (l := inl) (i := q) (by omega)]
            gi_wp2
            go_roundw
            case rel => exact ⟨k + 1, pre', by omega, by simp, HN, hJ2, hkp2, hsz2⟩
            case measure => simp [intOf]; omega
      | some t =>
        obtain ⟨a9, cap9, hrun, hrs9⟩ := hM.yesB hbx hfn hwf
        by_cases h1 : ys[k].k = 1
        · have t1 : (ys[k].k == 1) = true := by simp [h1]
          have HC : Hid (putC f ys[k] = t) := by rw [Hid]; unfold putC; rw [hfn, if_pos h1]; rfl
          clear hrs hfn hM2 hr1 h1
          have hrs := hrs9
          have htm := hrs9.max
          have htl := hrs9.le
          gi_wp2
          gi_loopw [10, 39] (fun _ j wr => ∃ (q : Nat) (pre' : List CelF), q ≤ t.length ∧ j = .int .i64 q ∧ Hid (vals pre' = putL f (ys.take k) ++ t.take q) ∧ J pre' wr ∧ KpC w.heap.size B1 B2 W wr ∧ W.heap.size ≤ wr.heap.size) (fun _ j _ => t.length - (intOf j).toNat)
          case atStart => exact ⟨0, pre, Nat.zero_le _, rfl, by rw [Hid, List.take_zero, List.append_nil]; exact HP.out, HJ1.out, hkp1, by simp; omega⟩
          case round =>
            obtain ⟨q, pre', hq, rfl, HQ, hJ2, hkp2, hsz2⟩ := hrel
            by_cases hlq : q < t.length
            · obtain ⟨b3, off3, e3, _, hat3⟩ := hrs.cases.resolve_left (fun e => by rw [e] at hlq; simp at hlq)
              subst e3
              have hbw2 := hW.trans hkp2.below
              obtain ⟨d0, d1, d2, hf3⟩ := cel_at hat3 hbw2 hlq
              have hJ3 := hJ pre' _ _ none hJ2 (World.grownBy_alloc wr (.cells #[.int .i64 t[q].k, .string t[q].s, .int .i64 t[q].n] 24) none) (fun r e => by cases e)
              have hkp3 := hkp2.alloc (.cells #[.int .i64 t[q].k, .string t[q].s, .int .i64 t[q].n] 24) hbw2.size (by omega) (by omega)
              have hroom : pre'.length < (putL f ys).length := by
                have h1 : pre'.length = (vals pre').length := by simp [vals]
                rw [h1, HQ.out, ← HC.out]
                exact put_room hlt (by rw [HC.out]; exact hlq)
              obtain ⟨fn, tmps, assign, body, hy3, hR⟩ := hY pre' ⟨t[q], hf3⟩ _ hJ3 hroom
              dsimp only [Cel.v] at hy3
              have HV : Hid (vals (pre' ++ [⟨t[q], hf3⟩]) = putL f (ys.take k) ++ t.take (q + 1)) := by
                rw [Hid, vals_append, HQ.out, List.take_succ_eq_append_getElem hlq, List.append_assoc]; rfl
              gi_wp2
              refine hR.mono ?_
              rintro e W3 (⟨rfl, hJ4, hk4⟩ | ⟨rfl, hJx4⟩)
              · gi_wp2
                go_roundw
                case rel => exact ⟨q + 1, _, by omega, by simp, HV, hJ4, hkp3.trans hk4, by have := hk4.below.size; simp at this; omega⟩
                case measure => simp [intOf]; omega
              · gi_wp2
                refine bodyPost_ret (results_none rfl _ _ _) rfl ?_
                refine ⟨⟨_, rfl⟩, .inr ⟨_, ?_, hJx4⟩⟩
                rw [HV.out]
                have hpre : putL f (ys.take (k + 1)) <+: putL f ys := by
                  refine ⟨putL f (ys.drop (k + 1)), ?_⟩
                  rw [← putL_append, List.take_append_drop]
                rw [putL_snoc f ys k hlt, HC.out] at hpre
                exact List.IsPrefix.trans ⟨t.drop (q + 1), by rw [List.append_assoc, List.take_append_drop]⟩ hpre
            · have HN : Hid (vals pre' = putL f (ys.take (k + 1))) := by
                rw [Hid, putL_snoc f ys k hlt, HC.out, HQ.out, List.take_of_length_le (l := t) (i := q) (by omega)]
              gi_wp2
              go_roundw
              case rel => exact ⟨k + 1, pre', by omega, by simp, HN, hJ2, hkp2, hsz2⟩
              case measure => simp [intOf]; omega
        · have t1 : (ys[k].k == 1) = false := by simp [h1]
          have HC : Hid (putC f ys[k] = [ys[k]]) := by rw [Hid]; unfold putC; rw [if_neg h1]
          obtain ⟨inl, hinl⟩ : ∃ inl : List Cel, inl = [ys[k]] := ⟨_, rfl⟩
          have hL1 : inl.length ≤ 1 := by rw [hinl]; simp
          have hL2 : 1 ≤ inl.length := by rw [hinl]; simp
          rw [← hinl] at hrs HC
          clear hfn hM2 hr1 hinl h1 hrs9
          gi_wp2
          gi_loopw [10, 39] (fun _ j wr => ∃ (q : Nat) (pre' : List CelF), q ≤ inl.length ∧ j = .int .i64 q ∧ Hid (vals pre' = putL f (ys.take k) ++ inl.take q) ∧ J pre' wr ∧ KpC w.heap.size B1 B2 W wr ∧ W.heap.size ≤ wr.heap.size) (fun _ j _ => inl.length - (intOf j).toNat)
          case atStart => exact ⟨0, pre, Nat.zero_le _, rfl, by rw [Hid, List.take_zero, List.append_nil]; exact HP.out, HJ1.out, hkp1, by simp; omega⟩
          case round =>
            obtain ⟨q, pre', hq, rfl, HQ, hJ2, hkp2, hsz2⟩ := hrel
            by_cases hlq : q < inl.length
            · obtain ⟨b3, off3, e3, _, hat3⟩ := hrs.cases.resolve_left (fun e => by rw [e] at hlq; simp at hlq)
              cases e3
              have hq1 : q < 1 := by omega
              have hbw2 := hW.trans hkp2.below
              obtain ⟨d0, d1, d2, hf3⟩ := cel_at hat3 hbw2 hlq
              have hJ3 := hJ pre' _ _ none hJ2 (World.grownBy_alloc wr (.cells #[.int .i64 inl[q].k, .string inl[q].s, .int .i64 inl[q].n] 24) none) (fun r e => by cases e)
              have hkp3 := hkp2.alloc (.cells #[.int .i64 inl[q].k, .string inl[q].s, .int .i64 inl[q].n] 24) hbw2.size (by omega) (by omega)
              have hroom : pre'.length < (putL f ys).length := by
                have h1 : pre'.length = (vals pre').length := by simp [vals]
                rw [h1, HQ.out, ← HC.out]
                exact put_room hlt (by rw [HC.out]; exact hlq)
              obtain ⟨fn, tmps, assign, body, hy3, hR⟩ := hY pre' ⟨inl[q], hf3⟩ _ hJ3 hroom
              dsimp only [Cel.v] at hy3
              have HV : Hid (vals (pre' ++ [⟨inl[q], hf3⟩]) = putL f (ys.take k) ++ inl.take (q + 1)) := by
                rw [Hid, vals_append, HQ.out, List.take_succ_eq_append_getElem hlq, List.append_assoc]; rfl
              gi_wp2
              refine hR.mono ?_
              rintro e W3 (⟨rfl, hJ4, hk4⟩ | ⟨rfl, hJx4⟩)
              · gi_wp2
                go_roundw
                case rel => exact ⟨q + 1, _, by omega, by simp, HV, hJ4, hkp3.trans hk4, by have := hk4.below.size; simp at this; omega⟩
                case measure => simp [intOf]; omega
              · gi_wp2
                refine bodyPost_ret (results_none rfl _ _ _) rfl ?_
                refine ⟨⟨_, rfl⟩, .inr ⟨_, ?_, hJx4⟩⟩
                rw [HV.out]
                have hpre : putL f (ys.take (k + 1)) <+: putL f ys := by
                  refine ⟨putL f (ys.drop (k + 1)), ?_⟩
                  rw [← putL_append, List.take_append_drop]
                rw [putL_snoc f ys k hlt, HC.out] at hpre
                exact List.IsPrefix.trans ⟨inl.drop (q + 1), by rw [List.append_assoc, List.take_append_drop]⟩ hpre
            · have HN : Hid (vals pre' = putL f (ys.take (k + 1))) := by
                rw [Hid, putL_snoc f ys k hlt, HC.out, HQ.out, List.take_of_length_le (l := inl) (i := q) (by omega)]
              gi_wp2
              go_roundw
              case rel => exact ⟨k + 1, pre', by omega, by simp, HN, hJ2, hkp2, hsz2⟩
              case measure => simp [intOf]; omega
    · have HN : Hid (vals pre = putL f ys) := by
        rw [Hid, HP.out, List.take_of_length_le (l := ys) (i := k) (by omega)]
      gi_wp2
      go_end0
      exact ⟨⟨_, rfl⟩, .inl ⟨_, HN.out, hJs⟩⟩
end Go.Proofs.Ytfcebbfphjbkoaa
namespace Go.Proofs.Ytfcebbfphjbkoaa
open Go.RowKit
attribute [local go_sem] Oper.semAt_some

set_option maxHeartbeats 1000000 in
theorem cells_in (F : Fence) (n : Nat) (hF : F.fn 70) (hro : F.round = none) (m : Option Nat) (a : Option Addr) (len cap : Nat) (w : World) :
    CallsIn F n Try.prog 70 #[.map m, .slice a len cap] w fun e w' => e = .returned (.func (.func 79) #[] #[.pointer (some ⟨w.heap.size + 1, 0, none⟩), .pointer (some ⟨w.heap.size, 0, none⟩)]) ∧ w' = (w.alloc (.cells #[.map m] 65)).alloc (.cells #[.slice a len cap] 22) := by
  refine callsIn_of_wp Try.func70 rfl hF ?_ hro
  simp only [Try.ntmps70, List.size_toArray, List.length_cons, List.length_nil, Nat.reduceAdd, Nat.reduceSub, Array.replicate_succ, Array.replicate_zero, List.push_toArray, List.append_toArray, List.nil_append, List.cons_append]
  gi_wp2
  go_ret
  exact ⟨rfl, rfl⟩

def outB (f : Int → Option (List Cel)) (t : List Cel) : Bool := decide ((putL f t).length ≤ 200)
def outL (f : Int → Option (List Cel)) (t : List Cel) : List Cel := if outB f t then putL f t else []

/-- the block of a loop's variable -/
def CelBox (W : World) (B : Nat) (c : Cel) : Prop := W.heap[B]? = some (.cells #[.int .i64 c.k, .string c.s, .int .i64 c.n] 24 (0, 0))
theorem CelBox.at_ {W : World} {B : Nat} {c : Cel} (h : CelBox W B c) (hf : c.fit) : CelAt W B 0 c := by
  have h' : W.heap[B]? = _ := h
  exact ⟨by simp [World.cell?, h'], by simp [World.cell?, h'], by simp [World.cell?, h'], hf⟩

theorem celbox_own {β : Type} (B : Nat) (f : β → Cel) : Own (fun s W => CelBox W B (f s)) := fun s X Y row hs hg hrow => by
  have hlt : B < X.heap.size := (Array.getElem?_eq_some_iff.1 (show X.heap[B]? = _ from hs)).1
  refine (hg.block B hlt fun e' => ?_).trans hs
  obtain ⟨o, ho, hc⟩ := hrow B e'.symm
  rw [show X.heap[B]? = _ from hs] at ho
  cases ho
  cases hc

/-- what a round of put finds -/
structure PutI (w : World) (m : Nat) (a : Option Addr) (len cap : Nat) (pre : List CelF) (W : World) : Prop where
  b4 : Boxed W w.heap.size 22 (.slice none 0 0)
  b5 : Boxed W (w.heap.size + 1) 4 (.bool false)
  b6 : ∃ v, Boxed W (w.heap.size + 2) 22 v ∧ W.ownsRow w.heap.size 24 3 v (vals pre).length (flat (vals pre)) ∧ True
  bm : Boxed W (w.heap.size + 3) 65 (.map (some m))
  bs : Boxed W (w.heap.size + 4) 22 (.slice a len cap)
theorem PutI.own (w : World) (m : Nat) (a : Option Addr) (len cap : Nat) : Own (PutI w m a len cap) := fun s X Y row hs hg hr =>
  ⟨boxed_own _ _ (fun (_ : Unit) => Value.slice none 0 0) () X Y row hs.b4 hg hr, boxed_own _ _ (fun (_ : Unit) => Value.bool false) () X Y row hs.b5 hg hr,
    holdsRow_own w.heap.size (w.heap.size + 2) 22 24 3 (fun pre : List CelF => (vals pre).length) (fun pre => flat (vals pre)) (fun _ _ => True) s X Y row hs.b6 hg hr,
    boxed_own _ _ (fun (_ : Unit) => Value.map (some m)) () X Y row hs.bm hg hr, boxed_own _ _ (fun (_ : Unit) => Value.slice a len cap) () X Y row hs.bs hg hr⟩
theorem PutI.alloc {w : World} {m : Nat} {a : Option Addr} {len cap : Nat} {pre : List CelF} {W : World} (h : PutI w m a len cap pre W) (o : Obj) : PutI w m a len cap pre (W.alloc o) :=
  let ⟨v, h1, h2, h3⟩ := h.b6
  ⟨h.b4.alloc o, h.b5.alloc o, ⟨v, h1.alloc o, h2.alloc o, h3⟩, h.bm.alloc o, h.bs.alloc o⟩

set_option maxRecDepth 100000 in
set_option maxHeartbeats 4000000 in
theorem put_in (F : Fence) (n : Nat) (h52 : F.fn 52) (h70 : F.fn 70) (h79 : F.fn 79) (hro : F.round = none) (hn : 3 ≤ n) (m : Nat) (f : Int → Option (List Cel)) (a : Option Addr) (cap : Nat) (ys : List Cel) (w : World)
    (hM : MapT w m f) (hy : Row w a cap ys) (hl : ys.length ≤ 10000) :
    CallsIn F n Try.prog 52 #[.map (some m), .slice a ys.length cap] w fun e w' => ∃ a2 cap2, e = .returned (.tuple #[.slice a2 (outL f ys).length cap2, .bool (outB f ys)]) ∧ NewRow w.heap.size w' a2 cap2 (outL f ys) ∧ Below w.heap.size w w' := by
  have h1 : 1 ≤ n := by omega
  refine callsIn_of_wp_marks Try.func52 rfl h52 ?_ hro
  simp only [Try.ntmps52, List.size_toArray, List.length_cons, List.length_nil, Nat.reduceAdd, Nat.reduceSub, Array.replicate_succ, Array.replicate_zero, List.push_toArray, List.append_toArray, List.nil_append, List.cons_append]
  gi_wp2_with (gi_at_call 70; refine (cells_in F (n - 1) h70 hro _ _ _ _ _).mono ?_; rintro e w' ⟨rfl, rfl⟩)
  have b4 := ((((Boxed.new w 22 (.slice none 0 0)).alloc (.cells #[.bool false] 4)).alloc (.cells #[.slice none 0 0] 22)).alloc (.cells #[.map (some m)] 65)).alloc (.cells #[.slice a ys.length cap] 22)
  have b5 := (((Boxed.new (w.alloc (.cells #[.slice none 0 0] 22)) 4 (.bool false)).alloc (.cells #[.slice none 0 0] 22)).alloc (.cells #[.map (some m)] 65)).alloc (.cells #[.slice a ys.length cap] 22)
  have b6 := ((Boxed.new ((w.alloc (.cells #[.slice none 0 0] 22)).alloc (.cells #[.bool false] 4)) 22 (.slice none 0 0)).alloc (.cells #[.map (some m)] 65)).alloc (.cells #[.slice a ys.length cap] 22)
  have bm := (Boxed.new (((w.alloc (.cells #[.slice none 0 0] 22)).alloc (.cells #[.bool false] 4)).alloc (.cells #[.slice none 0 0] 22)) 65 (.map (some m))).alloc (.cells #[.slice a ys.length cap] 22)
  have bs := Boxed.new ((((w.alloc (.cells #[.slice none 0 0] 22)).alloc (.cells #[.bool false] 4)).alloc (.cells #[.slice none 0 0] 22)).alloc (.cells #[.map (some m)] 65)) 22 (.slice a ys.length cap)
  simp only [World.size_alloc] at b4 b5 b6 bm bs
  have hB0 := ((((Below.refl w.heap.size w).new (.cells #[.slice none 0 0] 22)).new (.cells #[.bool false] 4)).new (.cells #[.slice none 0 0] 22)).new (.cells #[.map (some m)] 65) |>.new (.cells #[.slice a ys.length cap] 22)
  have hsz : (((((w.alloc (.cells #[.slice none 0 0] 22)).alloc (.cells #[.bool false] 4)).alloc (.cells #[.slice none 0 0] 22)).alloc (.cells #[.map (some m)] 65)).alloc (.cells #[.slice a ys.length cap] 22)).heap.size = w.heap.size + 5 := by simp
  obtain ⟨W0, hW0⟩ : ∃ W0, ((((w.alloc (.cells #[.slice none 0 0] 22)).alloc (.cells #[.bool false] 4)).alloc (.cells #[.slice none 0 0] 22)).alloc (.cells #[.map (some m)] 65)).alloc (.cells #[.slice a ys.length cap] 22) = W0 := ⟨_, rfl⟩
  rw [hW0] at b4 b5 b6 bm bs hB0 hsz ⊢
  clear hW0
  refine wpIn_rangeFunc_ownH hro h1 (gf := 79) (lb := #[.pointer (some ⟨w.heap.size + 1 + 1 + 1 + 1, 0, none⟩), .pointer (some ⟨w.heap.size + 1 + 1 + 1, 0, none⟩)]) rfl h79 (enters_of Try.func79 (by kernel_rfl) rfl)
    (α := CelF) (encs := fun x => #[x.1.v]) (Kp := KpC w.heap.size (w.heap.size + 4) (w.heap.size + 3)) (S := fun xs => vals xs = putL f ys) (Sp := fun pre => vals pre <+: putL f ys) (N := (putL f ys).length) (w0 := W0)
    (fun l J Jx W hW hJ _ hY h0 => cells1_in F (n - 1) h79 hro (by omega) l (w.heap.size + 4) (w.heap.size + 3) w m f hM a cap ys hy hl J Jx W (hB0.trans (hW.mono hB0.size)) hJ hY
      ((hW.cell (p := ⟨w.heap.size + 4, 0, none⟩) bs.lt).trans bs.cell) ((hW.cell (p := ⟨w.heap.size + 3, 0, none⟩) bm.lt).trans bm.cell) h0)
    (fun h k => h.trans k) (fun W l o o' hl ho h1 h2 => ⟨belowK_b hB0.size W l o o' hl ho h1 h2, World.putObj_heap_other (by omega), World.putObj_heap_other (by omega)⟩) (Below.refl _ _) (fun _ => rfl)
    (fun pre W => (PutI w m a ys.length cap pre W ∧ Below w.heap.size w W) ∧ pre.length ≤ 200)
    (fun c pre W => ((c = .ret ∧ 200 < pre.length) ∧ Boxed W w.heap.size 22 (.slice none 0 0) ∧ Boxed W (w.heap.size + 1) 4 (.bool false)) ∧ Below w.heap.size w W)
    (OwnFrom.and (OwnFrom.and ((PutI.own _ _ _ _ _).from _) (ownFrom_below (Nat.le_refl _) hB0.size)) (ownFrom_pure _ _))
    (fun c => OwnFrom.and (OwnFrom.and (ownFrom_pure _ _) (OwnFrom.and ((boxed_own _ _ (fun _ => Value.slice none 0 0)).from _) ((boxed_own _ _ (fun _ => Value.bool false)).from _))) (ownFrom_below (Nat.le_refl _) hB0.size))
    ⟨⟨⟨b4, b5, ⟨_, b6, World.ownsRow_nil _ _ _ _, trivial⟩, bm, bs⟩, hB0⟩, by simp⟩
    (fun x a' W => ∃ Bx, w.heap.size + 4 < Bx ∧ CelBox W Bx x.1 ∧ a' = { tmps := #[.map (some m), .slice a ys.length cap, undef, undef, .pointer (some ⟨w.heap.size, 0, none⟩), .pointer (some ⟨w.heap.size + 1, 0, none⟩), .pointer (some ⟨w.heap.size + 1 + 1, 0, none⟩), .pointer (some ⟨Bx, 0, none⟩), .map (some m), .slice a ys.length cap, .func (.func 79) #[] #[.pointer (some ⟨w.heap.size + 1 + 1 + 1 + 1, 0, none⟩), .pointer (some ⟨w.heap.size + 1 + 1 + 1, 0, none⟩)], x.1.v, undef, undef, undef, undef, undef, undef, undef, undef], defers := [] })
    (fun x a' _ X Y row hs hg hr => by obtain ⟨Bx, h1, h2, h3⟩ := hs; exact ⟨Bx, h1, celbox_own Bx (fun (_ : Unit) => x.1) () X Y row h2 hg (fun r e => (hr r e).2), h3⟩)
    ?assign ?body ?done ?stop
  case assign =>
    rintro l pre x W K ⟨⟨hI, hB⟩, hlen⟩ hK
    gi_wp2
    exact hK _ _ ((KeepsOthers.alloc _ _).from _) ((KpC.refl _ _ _ W).alloc _ hB.size hI.bs.lt hI.bm.lt) ⟨⟨hI.alloc _, hB.alloc hB.size _⟩, hlen⟩ ⟨W.heap.size, hI.bs.lt, World.alloc_heap_new W _, rfl⟩
  case body =>
    rintro l pre x a' W hl ⟨r, hr⟩ ⟨⟨hI, hB⟩, hlen⟩ ⟨Bx, hBx, hX, rfl⟩ hlt
    obtain ⟨v, hb6, hown, _⟩ := hI.b6
    have hfit : ∀ c ∈ vals pre, c.fit := by
      intro c hc
      obtain ⟨d, _, rfl⟩ := List.mem_map.1 hc
      exact d.2
    have hvl : (vals pre).length = pre.length := by simp [vals]
    obtain ⟨av, capv, rfl, hrow⟩ := own_row hown hfit
    have hX' := hX.at_ x.2
    have c6 : W.cell? ⟨w.heap.size + 1 + 1, 0, none⟩ = some (.slice av (vals pre).length capv) := hb6.cell
    by_cases h200 : (vals pre).length = 200
    · have t1 : (((vals pre).length : Int) == 200) = true := by rw [h200]; rfl
      have c4 := hI.b4.cell
      have f4 := hI.b4.frozen
      have b5' : Boxed (W.setCell ⟨w.heap.size, 0, none⟩ (.slice none 0 0)) (w.heap.size + 1) 4 (.bool false) := hI.b5.other (by omega) _
      have b4' : Boxed (W.setCell ⟨w.heap.size, 0, none⟩ (.slice none 0 0)) w.heap.size 22 (.slice none 0 0) := hI.b4.set _
      have c5 := b5'.cell
      have f5 := b5'.frozen
      have hB1 := hB.setCell (p := ⟨w.heap.size, 0, none⟩) (Nat.le_refl _) (.slice none 0 0)
      have hB2 := hB1.setCell (p := ⟨w.heap.size + 1, 0, none⟩) (Nat.le_succ _) (.bool false)
      have b4'' := b4'.other (B' := w.heap.size + 1) (by omega) (.bool false)
      have b5'' := b5'.set (.bool false)
      clear hX' hown hrow hb6 hr
      gi_wp2
      exact ⟨((KeepsOthers.setCell _ _ _).trans (KeepsOthers.setCell _ _ _)).from _, ⟨⟨rfl, by rw [List.length_append, ← hvl, h200]; simp⟩, b4'', b5''⟩, hB2⟩
    · have t1 : (((vals pre).length : Int) == 200) = false := by simp; omega
      obtain ⟨d0, d1, d2, _⟩ := hX'
      have hv2 : (vals pre).length ≤ 199 := by omega
      have HVL := mkHid hvl
      clear hvl h200
      obtain ⟨i0, hi, hz0, hz1, hz2⟩ := info_parts Try.infoCell
      gi_wp2_with (gi_at_builtin; refine wpListIn_append_own _ rfl _ _ 22 rfl w.heap.size 24 i0 _ 3 32 Try.underlying22 hi hz0 hz1 hz2 rfl (by decide) (.slice av (vals pre).length capv) (vals pre).length (flat (vals pre)) rfl (hown.alloc _) ⟨W.heap.size, 0, none⟩ 1 1 [.int .i64 x.1.k, .string x.1.s, .int .i64 x.1.n] rfl rfl ((src_new W #[.int .i64 x.1.k, .string x.1.s, .int .i64 x.1.n] _ 3 rfl (by simp [Value.oneCell'])).cells _ rfl) (by simp [Value.oneCell']) (by unfold maxLen; omega) (by omega) (by have := hB.size; simp; omega) ?_; intro v' w1 hown' hgrow _; obtain ⟨g', cap', rfl⟩ := ownsRow_succ hown'; obtain ⟨hv1, hv2', hr2, hk2, hb2⟩ := hb6.appended (by decide) hown hB.size (by omega) hown' hgrow; have hc1 : w1.cell? ⟨w.heap.size + 1 + 1, 0, none⟩ = _ := hv1.cell; have hf1 : w1.frozen? ⟨w.heap.size + 1 + 1, 0, none⟩ = _ := hv1.frozen)
      have e4 := ((hI.b4.alloc (.cells #[.int .i64 x.1.k, .string x.1.s, .int .i64 x.1.n] 24)).kept hgrow (hI.b4.not_row (by decide) hown)).other (B' := w.heap.size + 2) (by omega) (.slice (some ⟨g', 0, none⟩) ((vals pre).length + 1) cap')
      have e5 := ((hI.b5.alloc (.cells #[.int .i64 x.1.k, .string x.1.s, .int .i64 x.1.n] 24)).kept hgrow (hI.b5.not_row (by decide) hown)).other (B' := w.heap.size + 2) (by omega) (.slice (some ⟨g', 0, none⟩) ((vals pre).length + 1) cap')
      have em := ((hI.bm.alloc (.cells #[.int .i64 x.1.k, .string x.1.s, .int .i64 x.1.n] 24)).kept hgrow (hI.bm.not_row (by decide) hown)).other (B' := w.heap.size + 2) (by omega) (.slice (some ⟨g', 0, none⟩) ((vals pre).length + 1) cap')
      have es := ((hI.bs.alloc (.cells #[.int .i64 x.1.k, .string x.1.s, .int .i64 x.1.n] 24)).kept hgrow (hI.bs.not_row (by decide) hown)).other (B' := w.heap.size + 2) (by omega) (.slice (some ⟨g', 0, none⟩) ((vals pre).length + 1) cap')
      refine ⟨hk2.from _, ⟨hb2, Eq.trans es hI.bs.symm, Eq.trans em hI.bm.symm⟩, ⟨⟨e4, e5, ⟨_, hv2', ?_, trivial⟩, em, es⟩, hB.trans hb2⟩, by rw [List.length_append, ← HVL.out]; simp; omega⟩
      rw [vals_append, flat_append, List.length_append]
      exact hr2
  case done =>
    rintro D zs W hD hS ⟨⟨hI, hB⟩, hlen⟩ hK
    obtain ⟨v, hb6, hown, _⟩ := hI.b6
    have hfit : ∀ c ∈ vals zs, c.fit := by
      intro c hc
      obtain ⟨d, _, rfl⟩ := List.mem_map.1 hc
      exact d.2
    have hO : outB f ys = true := by
      unfold outB; rw [← hS]; simp [vals]; exact hlen
    have HL : Hid (outL f ys = vals zs) := by rw [Hid]; unfold outL; rw [if_pos hO, hS]
    have HO := mkHid hO
    obtain ⟨av, capv, rfl, hrow⟩ := own_row hown hfit
    have c6 : W.cell? ⟨w.heap.size + 1 + 1, 0, none⟩ = some (.slice av (vals zs).length capv) := hb6.cell
    have c4 := hI.b4.cell
    have f4 := hI.b4.frozen
    have b4' : Boxed (W.setCell ⟨w.heap.size, 0, none⟩ (.slice av (vals zs).length capv)) w.heap.size 22 (.slice av (vals zs).length capv) := hI.b4.set _
    have b5' : Boxed (W.setCell ⟨w.heap.size, 0, none⟩ (.slice av (vals zs).length capv)) (w.heap.size + 1) 4 (.bool false) := hI.b5.other (by omega) _
    have c5 := b5'.cell
    have f5 := b5'.frozen
    have o1 := hown.kept (grownBy_setCell' W w.heap.size (.slice av (vals zs).length capv)) (.inr (hI.b4.not_row (by decide) hown).symm)
    have o2 := o1.kept (grownBy_setCell' _ (w.heap.size + 1) (.bool true)) (.inr (b5'.not_row (by decide) o1).symm)
    have b4'' := b4'.other (B' := w.heap.size + 1) (by omega) (.bool true)
    have b5'' := b5'.set (.bool true)
    have hK' := ((KeepsOthers.setCell W ⟨w.heap.size, 0, none⟩ (.slice av (vals zs).length capv)).trans (KeepsOthers.setCell _ ⟨w.heap.size + 1, 0, none⟩ (.bool true))).same D _ hK rfl
    have hB2 := (hB.setCell (p := ⟨w.heap.size, 0, none⟩) (Nat.le_refl _) (.slice av (vals zs).length capv)).setCell (p := ⟨w.heap.size + 1, 0, none⟩) (Nat.le_succ _) (.bool true)
    have o3 := ownsRow_putObj o2 (.deferred none) hK' rfl
    obtain ⟨a9, cap9, e9, hnew⟩ := own_new o3 hfit
    injection e9 with e9 _ e10
    subst e9
    subst e10
    have h4 := cell_kept b4''.cell (grownBy_putObj' _ D (.deferred none)) (fun r e => by cases e; exact ⟨_, hK', rfl⟩)
    have h5 := cell_kept b5''.cell (grownBy_putObj' _ D (.deferred none)) (fun r e => by cases e; exact ⟨_, hK', rfl⟩)
    clear hown hrow hb6 o1 o2 o3 hO hS b4'' b5'' b4' b5'
    gi_wp2
    refine ⟨by simp, .inl ⟨_, _, rfl, run_takeDeferred hK', ?_⟩⟩
    refine ⟨.tuple #[.slice av (vals zs).length capv, .bool true], ?_, av, capv, by rw [HL.out, HO.out], by rw [HL.out]; exact hnew, hB2.trans (belowK_b (w := w) (Nat.le_refl _) _ D _ _ (by omega) hK' rfl rfl)⟩
    simp [results, Try.f52, go_sem, h4, h5]
  case stop =>
    rintro D c pre W hD hpre ⟨⟨⟨rfl, h200⟩, hb4, hb5⟩, hB⟩ hK
    have hO : outB f ys = false := by
      have h1 := hpre.length_le
      have h2 : (vals pre).length = pre.length := by simp [vals]
      unfold outB; simp; omega
    have HL : Hid (outL f ys = []) := by rw [Hid]; unfold outL; rw [if_neg (by simp [hO])]
    have HO := mkHid hO
    clear hO hpre
    gi_wp2
    refine ⟨by simp, .inl ⟨_, _, rfl, run_takeDeferred hK, ?_⟩⟩
    have h4 := cell_kept hb4.cell (grownBy_putObj' _ D (.deferred none)) (fun r e => by cases e; exact ⟨_, hK, rfl⟩)
    have h5 := cell_kept hb5.cell (grownBy_putObj' _ D (.deferred none)) (fun r e => by cases e; exact ⟨_, hK, rfl⟩)
    refine ⟨.tuple #[.slice none 0 0, .bool false], ?_, none, 0, by rw [HL.out, HO.out]; rfl, by rw [HL.out]; exact NewRow.empty _ _ _ _ (by omega) (fun _ => rfl), hB.trans (belowK_b (w := w) (Nat.le_refl _) W D _ _ (by omega) hK rfl rfl)⟩
    simp [results, Try.f52, go_sem, h4, h5]

theorem put_any (m : Nat) (f : Int → Option (List Cel)) (a : Option Addr) (cap : Nat) (ys : List Cel) (w : World) (hM : MapT w m f) (hy : Row w a cap ys) (hl : ys.length ≤ 10000) :
    Calls Try.prog 52 #[.map (some m), .slice a ys.length cap] w fun e w' => ∃ a2 cap2, e = .returned (.tuple #[.slice a2 (outL f ys).length cap2, .bool (outB f ys)]) ∧ NewRow w.heap.size w' a2 cap2 (outL f ys) ∧ Below w.heap.size w w' :=
  (callsIn_wide (n := 3)).1 (put_in _ 3 trivial trivial trivial rfl (Nat.le_refl _) m f a cap ys w hM hy hl)
end Go.Proofs.Ytfcebbfphjbkoaa
namespace Go.Proofs.Ytfcebbfphjbkoaa
open Go.RowKit

set_option maxHeartbeats 400000 in
theorem applysub_any (a : Option Addr) (cap : Nat) (a' : Option Addr) (cap' : Nat) (w : World) (xs : List Bnd) (ys : List Cel) (hx : Row w a cap xs) (hy : Row w a' cap' ys) (hl : xs.length ≤ 1000000) (hl2 : ys.length ≤ 10000) :
    Calls Try.prog 21 #[.slice a xs.length cap, .slice a' ys.length cap'] w fun e w' => ∃ a2 cap2, e = .returned (.tuple #[.slice a2 (outL (lookL xs) ys).length cap2, .bool (outB (lookL xs) ys)]) ∧ NewRow w.heap.size w' a2 cap2 (outL (lookL xs) ys) ∧ Below w.heap.size w w' := by
  go_enter Try.func21, Try.ntmps21
  go_wp2_with (first
    | (go_at_call 53; refine (byvar_any _ cap _ xs hx hl).mono ?_; rintro e w2 ⟨m, rfl, hM, hb2⟩)
    | (go_at_call 52; refine (put_any m _ _ _ ys _ hM (hy.below hb2) hl2).mono ?_; rintro e w3 ⟨a3, cap3, rfl, hr3, hb3⟩))
  go_ret2
  exact ⟨_, _, rfl, hr3.mono hb2.size, hb2.then hb3⟩

/-! ### Idem -/
theorem contains_lookup {w : World} {m : Nat} {f : Int → Option (List Cel)} (h : MapT w m f) {i : Int} (hi : (Lit.int .i64 i).wf = true) :
    ∃ v, (Instr.lookup 65 (.map (some m)) (.int .i64 i) true).run Try.prog w = .ok (.tuple #[v, .bool (f i).isSome]) w := by
  cases hf : f i with
  | none => exact ⟨_, h.no hf hi⟩
  | some t => obtain ⟨a, cap, hr, _⟩ := h.yes hf hi; exact ⟨_, hr⟩
set_option maxHeartbeats 400000 in
theorem bound_any (i : Int) (B m : Nat) (f : Int → Option (List Cel)) (w : World) (hM : MapT w m f) (hB : w.cell? ⟨B, 0, none⟩ = some (.map (some m))) (hi : (Lit.int .i64 i).wf = true) :
    Calls Try.prog 60 #[.int .i64 i, .pointer (some ⟨B, 0, none⟩)] w fun e w' => e = .returned (.bool (f i).isSome) ∧ Below w.heap.size w w' := by
  obtain ⟨v, hrun⟩ := contains_lookup hM hi
  have HF : ∃ b : Bool, b = (f i).isSome := ⟨_, rfl⟩
  obtain ⟨b, hb⟩ := HF
  rw [← hb] at hrun ⊢
  clear hb hi
  go_enter Try.func60, Try.ntmps60
  go_wp2
  go_ret
  exact ⟨rfl, Below.refl _ _⟩

def anyV (f : Int → Option (List Cel)) (l : List Int) : Bool := l.any fun n => (f n).isSome
set_option maxHeartbeats 800000 in
theorem indexint_any (a : Option Addr) (cap : Nat) (B m : Nat) (f : Int → Option (List Cel)) (w : World) (xs : List Int) (hx : Row w a cap xs) (hM : MapT w m f) (hB : w.cell? ⟨B, 0, none⟩ = some (.map (some m))) :
    Calls Try.prog 75 #[.slice a xs.length cap, .func (.func 60) #[] #[.pointer (some ⟨B, 0, none⟩)]] w fun e w' => (∃ i : Int, e = .returned (.int .i64 i) ∧ -1 ≤ i ∧ decide (0 ≤ i) = anyV f xs) ∧ Below w.heap.size w w' := by
  have hm := hx.max
  have hm2 := hx.le
  go_enter Try.func75, Try.ntmps75
  go_wp2
  go_loopw [5, 8] (fun _ i wr => ∃ k : Nat, k ≤ xs.length ∧ i = .int .i64 k ∧ Below w.heap.size w wr ∧ Hid ((xs.take k).all (fun n => !(f n).isSome) = true)) (fun _ i wr => xs.length - (intOf i).toNat)
  case atStart => exact ⟨0, Nat.zero_le _, rfl, Below.refl _ _, by simp [Hid]⟩
  case round =>
    obtain ⟨k, hk, rfl, hbl, HS⟩ := hrel
    by_cases hlt : k < xs.length
    · obtain ⟨b, off, rfl, hb, hat⟩ := hx.cases.resolve_left (fun e => by simp [e] at hlt)
      obtain ⟨c0, hlo, hhi⟩ := int_at hat hbl hlt
      have hwf : Hid ((Lit.int .i64 xs[k]).wf = true) := WalkArith.wf_i64 ⟨by omega, by omega⟩
      cases hf : (f xs[k]).isSome with
      | true =>
        have HF := mkHid hf
        have HA : Hid (anyV f xs = true) := by
          rw [Hid]; unfold anyV; rw [List.any_eq_true]; exact ⟨xs[k], List.getElem_mem hlt, hf⟩
        clear HS hf
        go_wp2_with (go_at_call 60; refine (bound_any _ B m f _ (hM.below hbl) (keep hB hbl) hwf.out).mono ?_; rintro e w2 ⟨rfl, hb2⟩; rw [HF.out])
        go_ret
        exact ⟨⟨k, rfl, by omega, by rw [HA.out]; simp⟩, hbl.then hb2⟩
      | false =>
        have HF := mkHid hf
        have HT := mkHid (scan_next (p := fun n => !(f n).isSome) HS.out hlt (by simp only [hf]; rfl))
        clear HS hf
        go_wp2_with (go_at_call 60; refine (bound_any _ B m f _ (hM.below hbl) (keep hB hbl) hwf.out).mono ?_; rintro e w2 ⟨rfl, hb2⟩; rw [HF.out])
        go_round
        case rel => exact ⟨k + 1, by omega, by go_num, hbl.then hb2, HT⟩
        case measure => simp [intOf]; omega
    · have HA : Hid (anyV f xs = false) := by
        rw [Hid]; unfold anyV
        rw [List.any_eq_false]
        intro n hn
        have := List.all_eq_true.1 (scan_end HS.out (by omega)) n hn
        simpa using this
      clear HS
      go_wp2
      go_ret
      exact ⟨⟨-1, rfl, by omega, by rw [HA.out]; simp⟩, hbl⟩
set_option maxHeartbeats 400000 in
theorem containsint_any (a : Option Addr) (cap : Nat) (B m : Nat) (f : Int → Option (List Cel)) (w : World) (xs : List Int) (hx : Row w a cap xs) (hM : MapT w m f) (hB : w.cell? ⟨B, 0, none⟩ = some (.map (some m))) :
    Calls Try.prog 61 #[.slice a xs.length cap, .func (.func 60) #[] #[.pointer (some ⟨B, 0, none⟩)]] w fun e w' => e = .returned (.bool (anyV f xs)) ∧ Below w.heap.size w w' := by
  go_enter Try.func61, Try.ntmps61
  go_wp2_with (go_at_call 75; refine (indexint_any _ cap B m f _ xs hx hM hB).mono ?_; rintro e w2 ⟨⟨i, rfl, hi, ha⟩, hb2⟩; have HA := mkHid ha; clear ha)
  go_ret
  exact ⟨ret_bool HA.out, hb2⟩

def idemL (s : List Bnd) : Bool := s.all fun b => !anyV (lookL s) (varsL b.t)
set_option maxHeartbeats 800000 in
theorem idemsub_any (a : Option Addr) (cap : Nat) (w : World) (xs : List Bnd) (hx : Row w a cap xs) (hl : xs.length ≤ 1000000) (hT : ∀ b ∈ xs, b.t.length ≤ 1000) :
    Calls Try.prog 29 #[.slice a xs.length cap] w fun e w' => e = .returned (.bool (idemL xs)) ∧ Below w.heap.size w w' := by
  have hm := hx.max
  have hm2 := hx.le
  have HT := mkHid hT
  clear hT
  go_enter Try.func29, Try.ntmps29
  go_wp2_with (go_at_call 53; refine (byvar_any _ cap _ xs hx hl).mono ?_; rintro e w1 ⟨m, rfl, hM, hb1⟩)
  have hb2 := hb1.new (.cells #[.map (some m)] 65)
  have hM2 := hM.below ((Below.refl _ _).new (.cells #[.map (some m)] 65))
  have hB : (w1.alloc (.cells #[.map (some m)] 65)).cell? ⟨w1.heap.size, 0, none⟩ = some (.map (some m)) := World.cell?_alloc_at _ _ _ 0 rfl
  obtain ⟨W, hW⟩ : ∃ W, w1.alloc (.cells #[.map (some m)] 65) = W := ⟨_, rfl⟩
  rw [hW] at hb2 hM2 hB ⊢
  clear hW
  go_wp2
  go_loopw [6, 12] (fun _ i wr => ∃ k : Nat, k ≤ xs.length ∧ i = .int .i64 k ∧ Below w.heap.size w wr ∧ Below W.heap.size W wr ∧ Hid ((xs.take k).all (fun b => !anyV (lookL xs) (varsL b.t)) = true)) (fun _ i wr => xs.length - (intOf i).toNat)
  case atStart => exact ⟨0, Nat.zero_le _, rfl, hb2, Below.refl _ _, by simp [Hid]⟩
  case round =>
    obtain ⟨k, hk, rfl, hbl, hbW, HS⟩ := hrel
    by_cases hlt : k < xs.length
    · obtain ⟨b, off, rfl, hb, hat⟩ := hx.cases.resolve_left (fun e => by simp [e] at hlt)
      obtain ⟨a1, cap1, c0, c1, hr1, hv1, hv2⟩ := bnd_at hat hbl hlt
      have hTk := HT.out xs[k] (List.getElem_mem hlt)
      have hbx : Below wr.heap.size wr (wr.alloc (.cells #[.int .i64 xs[k].v, .slice a1 xs[k].t.length cap1] 46)) := (Below.refl _ _).new _
      cases hf : anyV (lookL xs) (varsL xs[k].t) with
      | true =>
        have HF := mkHid hf
        have HE : Hid (false = idemL xs) := by
          rw [Hid]; symm
          exact scan_bad hlt (by simp [hf])
        clear HS hf
        go_wp2_with (first
          | (go_at_call 41; refine (vars_any _ _ _ _ (hr1.below hbx) (by omega)).mono ?_; rintro e w3 ⟨a3, cap3, rfl, hr3, hb3⟩)
          | (go_at_call 61; refine (containsint_any _ _ _ m _ _ _ hr3 ((hM2.below hbW).below (hbx.then hb3)) (keep (keep hB hbW) (hbx.then hb3))).mono ?_; rintro e w4 ⟨rfl, hb4⟩; rw [HF.out]))
        go_ret
        exact ⟨ret_bool HE.out, ((hbl.then hbx).then hb3).then hb4⟩
      | false =>
        have HF := mkHid hf
        have HN := mkHid (scan_next (p := fun b => !anyV (lookL xs) (varsL b.t)) HS.out hlt (by simp only [hf]; rfl))
        clear HS hf
        go_wp2_with (first
          | (go_at_call 41; refine (vars_any _ _ _ _ (hr1.below hbx) (by omega)).mono ?_; rintro e w3 ⟨a3, cap3, rfl, hr3, hb3⟩)
          | (go_at_call 61; refine (containsint_any _ _ _ m _ _ _ hr3 ((hM2.below hbW).below (hbx.then hb3)) (keep (keep hB hbW) (hbx.then hb3))).mono ?_; rintro e w4 ⟨rfl, hb4⟩; rw [HF.out]))
        go_round
        case rel => exact ⟨k + 1, by omega, by go_num, ((hbl.then hbx).then hb3).then hb4, ((hbW.then hbx).then hb3).then hb4, HN⟩
        case measure => simp [intOf]; omega
    · have HE : Hid (true = idemL xs) := (scan_end HS.out (by omega)).symm
      clear HS
      go_wp2
      go_ret
      exact ⟨ret_bool HE.out, hbl⟩
end Go.Proofs.Ytfcebbfphjbkoaa
namespace Go.Proofs.Ytfcebbfphjbkoaa
open Go.RowKit

section
variable {B e g n cap : Nat} {acc : List Bnd} {w : World}
theorem AccInv.bnd (h : AccInv B e acc (.slice (some ⟨g, 0, none⟩) n cap) w) {j : Nat} (hj : j < acc.length) :
    ∃ a1 cap1, w.cell? ⟨g, j * 2, none⟩ = some (.int .i64 acc[j].v) ∧ w.cell? ⟨g, j * 2 + 1, none⟩ = some (.slice a1 acc[j].t.length cap1) ∧ Row (hide (some g) w) a1 cap1 acc[j].t ∧ -9223372036854775808 ≤ acc[j].v ∧ acc[j].v ≤ 9223372036854775807 := by
  obtain ⟨vs, ho, hc⟩ := h.ex
  obtain ⟨cs, ⟨⟨a1, cap1, rfl, hr⟩, h2, h3⟩, hat⟩ := hc.get hj
  have hl : n = acc.length := h.len
  subst hl
  exact ⟨a1, cap1, own_cells ho _ _ (hat 0 _ rfl), own_cells ho _ _ (hat 1 _ rfl), hr, h2, h3⟩
theorem AccInv.frozen (h : AccInv B e acc (.slice (some ⟨g, 0, none⟩) n cap) w) (j : Nat) : w.frozen? ⟨g, j, none⟩ = false := by
  obtain ⟨vs, ho, hc⟩ := h.ex
  have hl : n = acc.length := h.len
  subst hl
  exact ho.frozenAt j
theorem AccInv.stored (h : AccInv B e acc (.slice (some ⟨g, 0, none⟩) n cap) w) {i : Nat} (hi : i < acc.length) (y : Bnd) (a1 : Option Addr) (cap1 : Nat) (hr : Row (hide (some g) w) a1 cap1 y.t) (h2 : -9223372036854775808 ≤ y.v) (h3 : y.v ≤ 9223372036854775807) :
    AccInv B e (acc.set i y) (.slice (some ⟨g, 0, none⟩) n cap) ((w.setCell ⟨g, i * 2, none⟩ (.int .i64 y.v)).setCell ⟨g, i * 2 + 1, none⟩ (.slice a1 y.t.length cap1)) ∧
    w.grownBy ((w.setCell ⟨g, i * 2, none⟩ (.int .i64 y.v)).setCell ⟨g, i * 2 + 1, none⟩ (.slice a1 y.t.length cap1)) (some g) := by
  obtain ⟨vs, ho, hc⟩ := h.ex
  have hl : n = acc.length := h.len
  subst hl
  obtain ⟨o1, g1⟩ := ho.stored (i * 2) (.int .i64 y.v)
  obtain ⟨o2, g2⟩ := o1.stored (i * 2 + 1) (.slice a1 y.t.length cap1)
  have hg := g1.trans g2
  refine ⟨⟨_, by rw [List.length_set]; exact o2, ?_⟩, hg⟩
  have hk : Keeps (hide (some g) w) (hide (some g) _) := grown_keeps hg
  have hvl : vs.length = acc.length * 2 := hc.len
  refine (hc.keeps hk).set hi (cs := [.int .i64 y.v, .slice a1 y.t.length cap1]) ⟨⟨a1, cap1, rfl, hr.keeps hk⟩, h2, h3⟩ (by simp) (fun q hq => ?_) (fun q hq => ?_)
  · have hq' : q < 2 := hq
    show ((vs.set (i * 2) _).set (i * 2 + 1) _)[i * 2 + q]? = _
    match q, hq' with
    | 0, _ => rw [List.getElem?_set_ne (by omega), Nat.add_zero, List.getElem?_set_self (by omega)]; rfl
    | 1, _ => rw [List.getElem?_set_self (by rw [List.length_set]; omega)]; rfl
  · have hq' : q < i * 2 ∨ (i + 1) * 2 ≤ q := hq
    rw [List.getElem?_set_ne (by omega), List.getElem?_set_ne (by omega)]
/-- what is stored behind the row plays no part -/
theorem acc_behind : ∀ (us : List Value) (o : Nat), acc.length * 2 ≤ o → ∀ {w : World}, AccInv B e acc (.slice (some ⟨g, 0, none⟩) n cap) w → AccInv B e acc (.slice (some ⟨g, 0, none⟩) n cap) (w.setCells g o us) ∧ w.grownBy (w.setCells g o us) (some g)
  | [], _, _, w, h => ⟨h, ⟨rfl, rfl, rfl, Nat.le_refl _, fun _ _ _ => rfl⟩⟩
  | u :: us, o, ho, w, h => by
    obtain ⟨vs, how, hc⟩ := h.ex
    have hl : n = acc.length := h.len
    obtain ⟨o1, g1⟩ := (hl ▸ how : w.ownsRow B e 2 (.slice (some ⟨g, 0, none⟩) acc.length cap) acc.length vs).stored o u
    have hvl : vs.length = acc.length * 2 := hc.len
    rw [List.set_eq_of_length_le (by omega)] at o1
    have h1 : AccInv B e acc (.slice (some ⟨g, 0, none⟩) n cap) (w.setCell ⟨g, o, none⟩ u) := ⟨vs, by rw [hl]; exact o1, hc.keeps (grown_keeps g1)⟩
    obtain ⟨r1, r2⟩ := acc_behind us (o + 1) (by omega) h1
    exact ⟨r1, g1.trans r2⟩
end

set_option maxHeartbeats 800000 in
theorem indexbnd_any (a : Option Addr) (cap : Nat) (w : World) (xs : List Bnd) (hx : Row w a cap xs) :
    Calls Try.prog 71 #[.slice a xs.length cap, .func (.func 50) #[] #[]] w fun e w' => (Hid (xs.all (fun b => !ownB b) = true) ∧ e = .returned (.int .i64 (-1)) ∨ ∃ k : Nat, k < xs.length ∧ e = .returned (.int .i64 k) ∧ Hid ((xs.take k).all (fun b => !ownB b) = true ∧ ∀ h : k < xs.length, ownB xs[k] = true)) ∧ Below w.heap.size w w' := by
  have hm := hx.max
  have hm2 := hx.le
  go_enter Try.func71, Try.ntmps71
  go_wp2
  go_loopw [5, 8] (fun _ i wr => ∃ k : Nat, k ≤ xs.length ∧ i = .int .i64 k ∧ Below w.heap.size w wr ∧ Hid ((xs.take k).all (fun b => !ownB b) = true)) (fun _ i wr => xs.length - (intOf i).toNat)
  case atStart => exact ⟨0, Nat.zero_le _, rfl, Below.refl _ _, by simp [Hid]⟩
  case round =>
    obtain ⟨k, hk, rfl, hbl, HS⟩ := hrel
    by_cases hlt : k < xs.length
    · obtain ⟨b, off, rfl, hb, hat⟩ := hx.cases.resolve_left (fun e => by simp [e] at hlt)
      obtain ⟨a1, cap1, c0, c1, hr1, hv1, hv2⟩ := bnd_at hat hbl hlt
      cases hf : ownB xs[k] with
      | true =>
        have HF := mkHid hf
        clear hf
        go_wp2_with (go_at_call 50; refine (itself_any _ _ _ _ _ hr1 hv1 hv2).mono ?_; rintro e w2 ⟨rfl, hb2⟩; rw [show ownB ⟨xs[k].v, xs[k].t⟩ = true from HF.out])
        go_ret
        exact ⟨.inr ⟨k, hlt, rfl, HS.out, fun _ => HF.out⟩, hbl.then hb2⟩
      | false =>
        have HF := mkHid hf
        have HT := mkHid (scan_next (p := fun b => !ownB b) HS.out hlt (by simp only [hf]; rfl))
        clear HS hf
        go_wp2_with (go_at_call 50; refine (itself_any _ _ _ _ _ hr1 hv1 hv2).mono ?_; rintro e w2 ⟨rfl, hb2⟩; rw [show ownB ⟨xs[k].v, xs[k].t⟩ = false from HF.out])
        go_round
        case rel => exact ⟨k + 1, by omega, by go_num, hbl.then hb2, HT⟩
        case measure => simp [intOf]; omega
    · have HA := mkHid (scan_end HS.out (by omega))
      clear HS
      go_wp2
      go_ret
      exact ⟨.inl ⟨HA.out, rfl⟩, hbl⟩
end Go.Proofs.Ytfcebbfphjbkoaa
namespace Go.Proofs.Ytfcebbfphjbkoaa
open Go.RowKit

theorem Try.zeroBind (w : World) : (zeroValue 46).run Try.prog w = .ok (.agg #[.int .i64 0, .slice none 0 0]) w := by kernel_rfl
def zb (n : Nat) : List Value := (Builtin.zeroCells #[.int .i64 0, .slice none 0 0] n).toList
theorem zb_len (n : Nat) : (zb n).length = n * 2 := by simp [zb, Builtin.zeroCells]
theorem zb_one (n : Nat) : ∀ v ∈ zb n, v.oneCell' = true := by
  intro v hv
  unfold zb Builtin.zeroCells at hv
  rw [Array.toList_map] at hv
  obtain ⟨i, _, rfl⟩ := List.mem_map.1 hv
  have h : i % 2 = 0 ∨ i % 2 = 1 := by omega
  rcases h with h | h
  · have : i % (#[Value.int .i64 0, .slice none 0 0] : Array Value).size = 0 := h
    rw [this]; rfl
  · have : i % (#[Value.int .i64 0, .slice none 0 0] : Array Value).size = 1 := h
    rw [this]; rfl
theorem run_clear_bind (w : World) (ty : TypeId) (b o n c : Nat) (hn : 0 < n)
    (hc : ∀ j, j < n * 2 → (w.cell? ⟨b, o + j, none⟩).isSome = true) (hf : ∀ j, j < n * 2 → w.frozen? ⟨b, o + j, none⟩ = false) :
    (Builtin.clear_ #[28] ty #[.slice (some ⟨b, o, none⟩) n c]).run Try.prog w = .ok (.tuple #[]) (w.setCells b o (zb n)) := by
  have hst := run_storeCells_cells (P := Try.prog) b o (zb n) 0 w (by rw [zb_len]; simpa using hc) (by rw [zb_len]; simpa using hf) (zb_one n)
  simp only [Nat.add_zero] at hst
  obtain ⟨m, rfl⟩ : ∃ m, n = m + 1 := ⟨n - 1, by omega⟩
  have hz : (Builtin.zeroCells (Value.agg #[.int .i64 0, .slice none 0 0]).cells (m + 1)).toList = zb (m + 1) := rfl
  simp [Builtin.clear_, run_underlying Try.underlying28, Try.zeroBind, hz, hst]

def cleanL (acc : List Bnd) : List Bnd := acc.filter fun b => !ownB b
theorem clean_keep {acc : List Bnd} {j : Nat} (hj : j < acc.length) (h : ownB acc[j] = false) : cleanL (acc.take (j + 1)) = cleanL (acc.take j) ++ [acc[j]] := by
  unfold cleanL; rw [List.take_succ_eq_append_getElem hj, List.filter_append]; simp [h]
theorem clean_drop {acc : List Bnd} {j : Nat} (hj : j < acc.length) (h : ownB acc[j] = true) : cleanL (acc.take (j + 1)) = cleanL (acc.take j) := by
  unfold cleanL; rw [List.take_succ_eq_append_getElem hj, List.filter_append]; simp [h]
theorem clean_all {acc : List Bnd} (h : acc.all (fun b => !ownB b) = true) : cleanL acc = acc := by
  unfold cleanL; rw [List.filter_eq_self]; exact List.all_eq_true.1 h
/-- how far the row has been cleaned -/
structure DelInv (acc L : List Bnd) (i j : Nat) : Prop where
  len : L.length = acc.length
  lo : i < j
  hi : j ≤ acc.length
  pre : L.take i = cleanL (acc.take j)
  post : L.drop j = acc.drop j
theorem DelInv.start {acc : List Bnd} {k : Nat} (hk : k < acc.length) (h : (acc.take k).all (fun b => !ownB b) = true) (ho : ownB acc[k] = true) : DelInv acc acc k (k + 1) :=
  ⟨rfl, Nat.lt_succ_self _, hk, by rw [clean_drop hk ho, clean_all h], rfl⟩
theorem DelInv.at_ {acc L : List Bnd} {i j : Nat} (h : DelInv acc L i j) (hj : j < acc.length) (hj' : j < L.length) : L[j] = acc[j] := by
  have h1 : (L.drop j)[0]? = (acc.drop j)[0]? := by rw [h.post]
  rw [List.getElem?_drop, List.getElem?_drop, Nat.add_zero, List.getElem?_eq_getElem hj', List.getElem?_eq_getElem hj] at h1
  exact Option.some.inj h1
theorem DelInv.keep {acc L : List Bnd} {i j : Nat} (h : DelInv acc L i j) (hj : j < acc.length) (ho : ownB acc[j] = false) : DelInv acc (L.set i acc[j]) (i + 1) (j + 1) := by
  have h1 := h.lo
  have h2 := h.len
  refine ⟨by rw [List.length_set]; exact h.len, by omega, hj, ?_, ?_⟩
  · rw [clean_keep hj ho, ← h.pre, List.take_succ_eq_append_getElem (by rw [List.length_set]; omega), List.getElem_set_self, List.take_set, List.set_eq_of_length_le (by rw [List.length_take]; omega)]
  · rw [List.drop_set_of_lt (by omega)]
    have := congrArg (List.drop 1) h.post
    rwa [List.drop_drop, List.drop_drop] at this
theorem DelInv.skip {acc L : List Bnd} {i j : Nat} (h : DelInv acc L i j) (hj : j < acc.length) (ho : ownB acc[j] = true) : DelInv acc L i (j + 1) := by
  have h1 := h.lo
  refine ⟨h.len, by omega, hj, ?_, ?_⟩
  · rw [clean_drop hj ho]; exact h.pre
  · have := congrArg (List.drop 1) h.post
    rwa [List.drop_drop, List.drop_drop] at this

theorem below_size {B : Nat} {w w' : World} (h : Below B w w') (hB : B ≤ w.heap.size) : B ≤ w'.heap.size := Nat.le_trans hB h.size

set_option maxHeartbeats 3200000 in
theorem delfunc_any (B : Nat) (v : Value) (w : World) (acc : List Bnd) (hacc : AccInv B 46 acc v w) (hB : B ≤ w.heap.size) :
    Calls Try.prog 56 #[v, .func (.func 50) #[] #[]] w fun e w' => ∃ v', e = .returned v' ∧ AccInv B 46 (cleanL acc) v' w' ∧ Below B w w' := by
  obtain ⟨a, cap, rfl, hrow⟩ := hacc.row
  have hm := hrow.max
  have hm2 := hrow.le
  by_cases hall : acc.all (fun b => !ownB b) = true
  · have HC := mkHid (clean_all hall)
    have HA := mkHid hall
    clear hall
    rw [HC.out]
    go_enter Try.func56, Try.ntmps56
    go_wp2_with (go_at_call 71; refine (indexbnd_any _ _ _ _ hrow).mono ?_; rintro e w2 ⟨⟨_, rfl⟩ | ⟨k, hk, rfl, HK⟩, hb2⟩)
    · go_ret
      exact ⟨_, rfl, hacc.below hb2, hb2.mono hB⟩
    · exact absurd (List.all_eq_true.1 HA.out _ (List.getElem_mem hk)) (by simp [HK.out.2 hk])
  · have h0 : acc ≠ [] := fun e => hall (by rw [e]; rfl)
    obtain ⟨g, rfl⟩ : ∃ g, a = some ⟨g, 0, none⟩ := by
      obtain ⟨vs, ho, _⟩ := hacc.ex
      rcases ho.2 with ⟨e, hn⟩ | ⟨g, cap', cur, e, _⟩
      · exact absurd (List.eq_nil_of_length_eq_zero hn) h0
      · injection e with e1; exact ⟨g, e1⟩
    have HA := mkHid hall
    have hgl := hacc.lt g rfl
    clear hall h0
    go_enter Try.func56, Try.ntmps56
    go_wp2_with (go_at_call 71; refine (indexbnd_any _ _ _ _ hrow).mono ?_; rintro e w2 ⟨⟨HN, rfl⟩ | ⟨k, hk, rfl, HK⟩, hb2⟩; rotate_left; have t1 : ((k : Int) == -1) = false := (beq_eq_false_iff_ne.2 (by omega)); rotate_left)
    · exact absurd HN.out HA.out
    · have hS := mkHid (DelInv.start hk HK.out.1 (HK.out.2 hk))
      have hacc2 := hacc.below hb2
      have hbl2 : Below B w w2 := hb2.mono hB
      clear hacc hrow HK HA
      go_loopw [5, 6, 7] (fun i j _ wr => ∃ (i' j' : Nat) (L : List Bnd), i' < j' ∧ j' ≤ acc.length ∧ i = .int .i64 i' ∧ j = .int .i64 j' ∧ AccInv B 46 L (.slice (some ⟨g, 0, none⟩) acc.length cap) wr ∧ Below B w wr ∧ Hid (DelInv acc L i' j')) (fun i j _ wr => acc.length - (intOf j).toNat)
      case atStart => exact ⟨k, k + 1, acc, by omega, by omega, rfl, by go_num, hacc2, hbl2, hS.out⟩
      case round =>
        obtain ⟨i, j, L, hij, hj, rfl, rfl, haccr, hblr, HD⟩ := hrel
        have hLl : L.length = acc.length := HD.out.len
        by_cases hlt : j < acc.length
        · obtain ⟨a1, cap1, c0, c1, hr1, hv1, hv2⟩ := haccr.bnd (j := j) (by omega)
          have hLj := HD.out.at_ hlt (by omega)
          rw [hLj] at c0 c1 hr1 hv1 hv2
          have HLl := mkHid hLl
          clear hLj hLl
          have hrr : Row wr a1 cap1 acc[j].t := hr1.keeps (hide_keeps _ _)
          have hbx : Below wr.heap.size wr (wr.alloc (.cells #[.int .i64 acc[j].v, .slice a1 acc[j].t.length cap1] 46)) := (Below.refl _ _).new _
          have x0 : (wr.alloc (.cells #[.int .i64 acc[j].v, .slice a1 acc[j].t.length cap1] 46)).cell? ⟨wr.heap.size, 0, none⟩ = some (.int .i64 acc[j].v) := World.cell?_alloc_at _ _ _ 0 rfl
          have x1 : (wr.alloc (.cells #[.int .i64 acc[j].v, .slice a1 acc[j].t.length cap1] 46)).cell? ⟨wr.heap.size, 1, none⟩ = some (.slice a1 acc[j].t.length cap1) := World.cell?_alloc_at _ _ _ 1 rfl
          cases hf : ownB acc[j] with
          | true =>
            have HF := mkHid hf
            have HN := mkHid (HD.out.skip hlt hf)
            clear hf HD
            go_wp2_with (go_at_call 50; refine (itself_any _ _ _ _ _ (hrr.below hbx) hv1 hv2).mono ?_; rintro e w3 ⟨rfl, hb3⟩; rw [show ownB ⟨acc[j].v, acc[j].t⟩ = true from HF.out])
            go_round
            case rel => exact ⟨i, j + 1, L, by omega, by omega, rfl, by go_num, (haccr.below hbx).below hb3, hblr.trans ((hbx.then hb3).mono (below_size hblr hB)), HN⟩
            case measure => simp [intOf]; omega
          | false =>
            have HF := mkHid hf
            have HN := mkHid (HD.out.keep hlt hf)
            clear hf HD
            go_wp2_with (go_at_call 50; refine (itself_any _ _ _ _ _ (hrr.below hbx) hv1 hv2).mono ?_; rintro e w3 ⟨rfl, hb3⟩; rw [show ownB ⟨acc[j].v, acc[j].t⟩ = false from HF.out]; have hacc3 := (haccr.below hbx).below hb3; have y0 := keep x0 hb3; have y1 := keep x1 hb3; obtain ⟨a5, cap5, d0, d1, _, _, _⟩ := hacc3.bnd (j := i) (by have := HLl.out; omega); have f0 := hacc3.frozen (i * 2); have f1 := hacc3.frozen (i * 2 + 1); clear c0 c1 x0 x1)
            have hst := hacc3.stored (i := i) (by have := HLl.out; omega) acc[j] a1 cap1 ((hr1.keeps (below_hide hbx _)).keeps (below_hide hb3 _)) hv1 hv2
            go_round
            case rel => exact ⟨i + 1, j + 1, _, by omega, by omega, by go_num, by go_num, hst.1, (hblr.trans ((hbx.then hb3).mono (below_size hblr hB))).grown hst.2 (Nat.le_trans (below_size hblr hB) (hbx.then hb3).size) (fun k e => by cases e; exact hgl.1), HN⟩
            case measure => simp [intOf]; omega
        · obtain rfl : j = acc.length := by omega
          have hLt : L.take i = cleanL acc := by rw [HD.out.pre, List.take_length]
          have hta := haccr.take (k := i) (by omega)
          rw [hLt] at hta
          have hil : i = (cleanL acc).length := hta.len
          have hex : ∀ q, q < (acc.length - i) * 2 → (wr.cell? ⟨g, i * 2 + q, none⟩).isSome = true := by
            intro q hq
            obtain ⟨vs, ho, hc⟩ := haccr.ex
            have hvl : vs.length = L.length * 2 := hc.len
            have hu : vs[i * 2 + q]? = some (vs[i * 2 + q]'(by omega)) := List.getElem?_eq_getElem _
            have ho' : wr.ownsRow B 46 2 (.slice (some ⟨g, 0, none⟩) L.length cap) L.length vs := by rw [hLl]; rw [hLl] at ho; exact ho
            rw [own_cells ho' _ _ hu]; rfl
          have hcl := fun ty => run_clear_bind wr ty g (i * 2) (acc.length - i) (cap - i) (by omega) hex (fun q _ => haccr.frozen _)
          obtain ⟨hfin, hgr⟩ := acc_behind (zb (acc.length - i)) (i * 2) (by omega) hta
          have HFI := mkHid hfin
          have HIL := mkHid hil
          clear HD hLl hLt hta hil hex hfin
          go_wp2
          go_ret
          exact ⟨_, rfl, HFI.out, hblr.grown hgr (below_size hblr hB) (fun k e => by cases e; exact hgl.1)⟩
end Go.Proofs.Ytfcebbfphjbkoaa
namespace Go.Proofs.Ytfcebbfphjbkoaa
open Go.Shelf
def Try.sortBnd_ren : Go.Shelf.Ren := ⟨fun | 6 => 57 | 15 => 73 | 14 => 72 | 28 => 88 | 29 => 89 | 20 => 80 | 21 => 81 | 22 => 82 | 23 => 83 | 24 => 84 | 25 => 85 | 26 => 86 | 27 => 87 | 46 => 92 | 47 => 93 | 48 => 94 | 49 => 95 | 50 => 96 | 57 => 97 | n => n, fun | 22 => 28 | 24 => 46 | 25 => 72 | 3 => 3 | 39 => 88 | 0 => 0 | 53 => 101 | 55 => 103 | 4 => 4 | 46 => 94 | 45 => 93 | 50 => 98 | 5 => 5 | 9 => 9 | 66 => 104 | 70 => 108 | 76 => 110 | 77 => 111 | n => n, fun | n => n⟩
theorem Try.sortBnd : Go.Proofs.SlLaysF0.n6 Try.prog Try.sortBnd_ren := {
  mixed := by kernel_rfl
  f6 := ⟨Try.f57.name, by decide, Try.func57.trans (congrArg some (by kernel_rfl))⟩
  f14 := ⟨Try.f72.name, by decide, Try.func72.trans (congrArg some (by kernel_rfl))⟩
  f15 := Try.func73.trans (congrArg some (by kernel_rfl))
  f20 := ⟨Try.f80.name, by decide, Try.func80.trans (congrArg some (by kernel_rfl))⟩
  f21 := ⟨Try.f81.name, by decide, Try.func81.trans (congrArg some (by kernel_rfl))⟩
  f22 := ⟨Try.f82.name, by decide, Try.func82.trans (congrArg some (by kernel_rfl))⟩
  f23 := ⟨Try.f83.name, by decide, Try.func83.trans (congrArg some (by kernel_rfl))⟩
  f24 := ⟨Try.f84.name, by decide, Try.func84.trans (congrArg some (by kernel_rfl))⟩
  f25 := ⟨Try.f85.name, by decide, Try.func85.trans (congrArg some (by kernel_rfl))⟩
  f26 := ⟨Try.f86.name, by decide, Try.func86.trans (congrArg some (by kernel_rfl))⟩
  f27 := ⟨Try.f87.name, by decide, Try.func87.trans (congrArg some (by kernel_rfl))⟩
  f28 := Try.func88.trans (congrArg some (by kernel_rfl))
  f29 := Try.func89.trans (congrArg some (by kernel_rfl))
  f46 := ⟨Try.f92.name, by decide, Try.func92.trans (congrArg some (by kernel_rfl))⟩
  f47 := Try.func93.trans (congrArg some (by kernel_rfl))
  f48 := Try.func94.trans (congrArg some (by kernel_rfl))
  f49 := ⟨Try.f95.name, by decide, Try.func95.trans (congrArg some (by kernel_rfl))⟩
  f50 := ⟨Try.f96.name, by decide, Try.func96.trans (congrArg some (by kernel_rfl))⟩
  f57 := ⟨Try.f97.name, by decide, Try.func97.trans (congrArg some (by kernel_rfl))⟩
  t0 := Try.underlying0
  a0 := Try.isAgg0
  z0 := Try.sizeOf0
  v0 := Try.zeroValue0
  t3 := Try.underlying3
  a3 := Try.isAgg3
  z3 := Try.sizeOf3
  v3 := Try.zeroValue3
  t4 := Try.underlying4
  a4 := Try.isAgg4
  z4 := Try.sizeOf4
  v4 := Try.zeroValue4
  t5 := Try.underlying5
  a5 := Try.isAgg5
  z5 := Try.sizeOf5
  v5 := Try.zeroValue5
  t9 := Try.underlying9
  a9 := Try.isAgg9
  z9 := Try.sizeOf9
  v9 := Try.zeroValue9
  t22 := Try.underlying28
  a22 := Try.isAgg28
  z22 := Try.sizeOf28
  v22 := Try.zeroValue28
  t25 := Try.underlying72
  a25 := Try.isAgg72
  z25 := Try.sizeOf72
  v25 := Try.zeroValue72
  t39 := Try.underlying88
  a39 := Try.isAgg88
  z39 := Try.sizeOf88
  v39 := Try.zeroValue88
  t45 := Try.underlying93
  a45 := Try.isAgg93
  z45 := Try.sizeOf93
  v45 := Try.zeroValue93
  t46 := Try.underlying94
  a46 := Try.isAgg94
  z46 := Try.sizeOf94
  v46 := Try.zeroValue94
  t50 := Try.underlying98
  a50 := Try.isAgg98
  z50 := Try.sizeOf98
  v50 := Try.zeroValue98
  t53 := Try.underlying101
  a53 := Try.isAgg101
  z53 := Try.sizeOf101
  v53 := Try.zeroValue101
  t55 := Try.underlying103
  a55 := Try.isAgg103
  z55 := Try.sizeOf103
  v55 := Try.zeroValue103
  t66 := Try.underlying104
  a66 := Try.isAgg104
  z66 := Try.sizeOf104
  v66 := Try.zeroValue104
  t70 := Try.underlying108
  a70 := Try.isAgg108
  z70 := Try.sizeOf108
  v70 := Try.zeroValue108
  t76 := Try.underlying110
  a76 := Try.isAgg110
  z76 := Try.sizeOf110
  v76 := Try.zeroValue110
  t77 := Try.underlying111
  a77 := Try.isAgg111
  z77 := Try.sizeOf111
  v77 := Try.zeroValue111 }
end Go.Proofs.Ytfcebbfphjbkoaa
namespace Go.Proofs.Ytfcebbfphjbkoaa
open Go.RowKit Go.Shelf Go.Lib
open Go.Sort (flatK HoldsK SWO PermIn SortedIn grow)

deriving instance Inhabited for Cel
deriving instance Inhabited for Bnd
/-- a binding, and where its term lies -/
structure SB where
  a : Option Addr
  cap : Nat
  b : Bnd
  deriving Inhabited
def encSB (x : SB) : List Value := [.int .i64 x.b.v, .slice x.a x.b.t.length x.cap]
theorem crows_sb {w : World} {vs : List Value} {acc : List Bnd} (h : CRows w vs acc) : ∃ l : List SB, l.map SB.b = acc ∧ vs = l.flatMap encSB ∧ ∀ x ∈ l, RepC.C w (encSB x) x.b := by
  induction h with
  | nil => exact ⟨[], rfl, rfl, by simp⟩
  | @cons cs x vs xs hc _ ih =>
    obtain ⟨l, h1, h2, h3⟩ := ih
    obtain ⟨⟨a, cap, rfl, hr⟩, hv⟩ := hc
    refine ⟨⟨a, cap, x⟩ :: l, by simp [h1], by simp [h2, encSB], fun y hy => ?_⟩
    rcases List.mem_cons.1 hy with rfl | hy
    · exact ⟨⟨a, cap, rfl, hr⟩, hv⟩
    · exact h3 y hy
theorem sb_crows {w : World} : ∀ (l : List SB), (∀ x ∈ l, RepC.C w (encSB x) x.b) → CRows w (l.flatMap encSB) (l.map SB.b)
  | [], _ => .nil
  | x :: l, h => .cons (h x (by simp)) (sb_crows l fun y hy => h y (by simp [hy]))
theorem flat_sb : ∀ (l : List SB) (t : Nat), (l.flatMap encSB)[t]? = (l[t / 2]?).bind fun x => (encSB x)[t % 2]?
  | [], t => by simp
  | x :: l, t => by
    rw [List.flatMap_cons]
    match t with
    | 0 => rfl
    | 1 => rfl
    | t + 2 =>
      rw [List.getElem?_append_right (by simp [encSB])]
      have e1 : t + 2 - (encSB x).length = t := by simp [encSB]
      have e2 : (t + 2) / 2 = t / 2 + 1 := by omega
      have e3 : (t + 2) % 2 = t % 2 := by omega
      rw [e1, e2, e3, List.getElem?_cons_succ]
      exact flat_sb l t
theorem flatK_sb (l : List SB) : (flatK encSB 2 l.toArray).toList = l.flatMap encSB := by
  refine List.ext_getElem? fun t => ?_
  rw [flat_sb]
  by_cases ht : t < l.length * 2
  · have h2 : t / 2 < l.length := by omega
    have h3 : t % 2 < 2 := by omega
    have hs : t < (flatK encSB 2 l.toArray).size := by simpa using ht
    rw [List.getElem?_eq_getElem (l := (flatK encSB 2 l.toArray).toList) (by simpa using hs), List.getElem?_eq_getElem h2, Array.getElem_toList]
    have := Go.Sort.get_flatK encSB 2 l.toArray t (by simpa using ht)
    rw [getElem!_pos _ t hs] at this
    rw [this]
    simp only [Option.bind_some]
    rw [List.getElem?_eq_getElem (by simpa [encSB] using h3), getElem!_pos l.toArray (t / 2) (by simpa using h2), getElem!_pos _ (t % 2) (by simpa [encSB] using h3)]
    rfl
  · rw [List.getElem?_eq_none (by simpa using ht), List.getElem?_eq_none (l := l) (by omega)]; rfl

theorem sort_grown (w : World) (g n : Nat) (d : Array SB) (os : Array Obj) : w.grownBy (sortWorldK encSB 2 w g 0 n d os) (some g) := by
  refine ⟨rfl, rfl, rfl, ?_, fun k hk hne => ?_⟩
  · simp [sortWorldK, grow, Go.Sort.putRowK, Go.Sort.ahead]
  · have hkg : g ≠ k := fun e => hne (by rw [e])
    simp only [sortWorldK, grow, Go.Sort.putRowK, Go.Sort.putRow, Go.Sort.mapBlock, Go.Sort.ahead]
    rw [Array.getElem?_append_left (by simpa using hk), Array.getElem?_modify]
    simp [hkg]
theorem sort_block (w : World) (g n : Nat) (d : Array SB) (os : Array Obj) {cur : Array Value} {e : Nat} (h : w.heap[g]? = some (.cells cur e (0, 0))) :
    (sortWorldK encSB 2 w g 0 n d os).heap[g]? = some (.cells (Go.Sort.putCells id 0 (flatK encSB 2 d) cur) e (0, 0)) := by
  have hlt := (Array.getElem?_eq_some_iff.1 h).1
  simp only [sortWorldK, grow, Go.Sort.putRowK, Go.Sort.putRow, Go.Sort.mapBlock, Go.Sort.ahead]
  rw [Array.getElem?_append_left (by simpa using hlt), Array.getElem?_modify, if_pos rfl, h]
  rfl
theorem putCells_take (F cur : Array Value) (h : F.size ≤ cur.size) : (Go.Sort.putCells id 0 F cur).toList.take F.size = F.toList := by
  refine List.ext_getElem? fun t => ?_
  by_cases ht : t < F.size
  · rw [List.getElem?_take_of_lt ht, Array.getElem?_toList, Array.getElem?_toList]
    unfold Go.Sort.putCells
    rw [Array.getElem?_mapIdx, Array.getElem?_eq_getElem (show t < cur.size by omega), Array.getElem?_eq_getElem ht]
    simp only [Option.map_some]
    rw [if_pos (by omega), Nat.sub_zero, getElem!_pos F t ht]; rfl
  · rw [List.getElem?_eq_none (by rw [List.length_take]; omega), List.getElem?_eq_none (by simpa using ht)]

/-- a sorted row is a row -/
theorem acc_sorted {B e g n cap : Nat} {acc : List Bnd} {w : World} (h : AccInv B e acc (.slice (some ⟨g, 0, none⟩) n cap) w) {l : List SB} (hl : l.map SB.b = acc) (hC : ∀ x ∈ l, RepC.C (hide (some g) w) (encSB x) x.b)
    {d' : List SB} (hp : d'.Perm l) (m : Nat) (os : Array Obj) : AccInv B e (d'.map SB.b) (.slice (some ⟨g, 0, none⟩) n cap) (sortWorldK encSB 2 w g 0 m d'.toArray os) := by
  have hn := h.len
  obtain ⟨vs, ⟨h1, h2⟩, hc⟩ := h.ex
  have hdl : (d'.map SB.b).length = acc.length := by rw [List.length_map, hp.length_eq, ← hl, List.length_map]
  have hdl' : d'.length = acc.length := by rw [← hdl, List.length_map]
  rcases h2 with ⟨h, _⟩ | ⟨g', cap', cur, e1, hb, hg, hnc, hm, hs, ht⟩
  · cases h
  · injection e1 with e1 e2 e3
    injection e1 with e1
    injection e1 with e1
    subst e1; subst e3
    have hf : (flatK encSB 2 d'.toArray).size = acc.length * 2 := by simp [hdl']
    have hs' : cur.size = cap * 2 := hs
    refine ⟨d'.flatMap encSB, ⟨?_, .inr ⟨g, cap, _, ?_, hb, sort_block w g m d'.toArray os hg, ?_, hm, ?_, ?_⟩⟩, ?_⟩
    · rw [← flatK_sb, Array.length_toList, hf, hdl]; rfl
    · rw [hdl, hn]
    · rw [hdl]; exact hnc
    · rw [← hs]; simp [Go.Sort.putCells]
    · rw [hdl]
      show (Go.Sort.putCells id 0 (flatK encSB 2 d'.toArray) cur).toList.take (acc.length * 2) = _
      rw [← hf, putCells_take _ _ (by rw [hf, hs']; exact Nat.mul_le_mul_right _ hnc), flatK_sb]
    · exact (sb_crows d' fun x hx => hC x (hp.mem_iff.1 hx)).keeps (grown_keeps (sort_grown w g m d'.toArray os))
end Go.Proofs.Ytfcebbfphjbkoaa
namespace Go.Proofs.Ytfcebbfphjbkoaa
open Go.RowKit Go.Shelf Go.Lib
open Go.Sort (flatK HoldsK SWO PermIn SortedIn grow)

def cfSB (x y : SB) : Int := cmpI x.b.v y.b.v
theorem lt_sb (x y : SB) : ltOf cfSB x y = decide (x.b.v < y.b.v) := by
  unfold ltOf cfSB cmpI
  by_cases h1 : x.b.v < y.b.v
  · simp [h1]
  · by_cases h2 : y.b.v < x.b.v <;> simp [h1, h2]
theorem swo_sb : SWO (ltOf cfSB) where
  irrefl x := by rw [lt_sb]; simp
  trans x y z h1 h2 := by rw [lt_sb] at *; simp at *; omega
  ntrans x y z h1 h2 := by rw [lt_sb] at *; simp at *; omega
set_option maxHeartbeats 1000000 in
theorem closure_sb (x y : SB) (W : World) : Calls Try.prog 58 #[.agg #[.int .i64 x.b.v, .slice x.a x.b.t.length x.cap], .agg #[.int .i64 y.b.v, .slice y.a y.b.t.length y.cap]] W fun e w' => e = .returned (.int .i64 (cfSB x y)) ∧ ∃ q os', w' = grow (W.drewN q) os' := by
  obtain ⟨r, hr⟩ : ∃ r, cfSB x y = r := ⟨_, rfl⟩
  have HR : Hid (cmpI x.b.v y.b.v = r) := hr
  rw [hr]
  clear hr
  go_enter Try.func58, Try.ntmps58
  go_wp2_with (go_at_call 59; refine (cmpI_any _ _ _).mono ?_; rintro e w' ⟨rfl, rfl⟩; rw [HR.out])
  go_ret
  exact ⟨rfl, 0, _, by rw [Go.Sort.alloc_eq_grow, Go.Sort.alloc_eq_grow, Go.Sort.grow_grow]; rfl⟩
theorem cmpLays_sb (blk off size : Nat) (w : World) : CmpLays Try.prog 58 #[] encSB 2 cfSB blk off size w := fun _ _ _ _ x y => closure_sb x y _

/-- rising by variable -/
def risesB (l : List Bnd) : Prop := l.Pairwise fun x y => x.v ≤ y.v

set_option maxHeartbeats 1000000 in
theorem sort_any (B : Nat) (v : Value) (w : World) (acc : List Bnd) (hacc : AccInv B 46 acc v w) (hB : B ≤ w.heap.size) (hl : acc.length ≤ 1000000) :
    Calls Try.prog 57 #[v, .func (.func 58) #[] #[]] w fun e w' => e = .returned (.tuple #[]) ∧ ∃ acc' : List Bnd, Hid (acc'.Perm acc ∧ risesB acc') ∧ AccInv B 46 acc' v w' ∧ Below B w w' := by
  obtain ⟨a, cap, rfl, hrow⟩ := hacc.row
  cases acc with
  | nil =>
    have h := AnyF.slices_SortFunc_none Try.sortBnd a cap (.func (.func 58) #[] #[]) w
    exact h.mono fun e w' ⟨he, hw⟩ => ⟨he, [], ⟨List.Perm.refl _, List.Pairwise.nil⟩, by rw [hw]; exact hacc, by rw [hw]; exact Below.refl _ _⟩
  | cons b0 acc0 =>
    obtain ⟨g, rfl⟩ : ∃ g, a = some ⟨g, 0, none⟩ := by
      obtain ⟨vs, ho, _⟩ := hacc.ex
      rcases ho.2 with ⟨e, hn⟩ | ⟨g, cap', cur, e, _⟩
      · simp at hn
      · injection e with e1; exact ⟨g, e1⟩
    have hgl := hacc.lt g rfl
    obtain ⟨vs, ho, hc⟩ := hacc.ex
    obtain ⟨l, hlb, hvs, hC⟩ := crows_sb hc
    have hll : l.length = (b0 :: acc0).length := by rw [← hlb, List.length_map]
    have hH : HoldsK encSB 2 w g 0 l.toArray := by
      intro j hj
      refine ⟨?_, hacc.frozen _⟩
      have hj' : j < (flatK encSB 2 l.toArray).toList.length := by simpa using hj
      have h1 : vs[j]? = some ((flatK encSB 2 l.toArray).toList[j]'hj') := by
        rw [hvs, ← flatK_sb, List.getElem?_eq_getElem hj']
      have h2 := own_cells ho j _ h1
      rw [Nat.zero_add, h2, getElem!_pos _ j hj]; simp
    have eg : ∀ args w, (callFunc 58 args).run Try.prog w = .ok (.enter 58 args) w := enters_of Try.func58 (by kernel_rfl) rfl
    have hcon := AnyQ.slices_SortFunc Try.sortBnd 2 Try.isAgg46 Try.sizeOf46 encSB (fun _ => rfl) (fun x v hv => by simp [encSB] at hv; rcases hv with rfl | rfl <;> rfl) cfSB swo_sb 58 #[] g 0 cap l.toArray w eg (cmpLays_sb g 0 l.toArray.size w) hH hgl.2 (by simp; rw [hll]; omega)
    have hcon' : Calls Try.prog 57 #[.slice (some ⟨g, 0, none⟩) l.toArray.size cap, .func (.func 58) #[] #[]] w _ := hcon
    have hsz : l.toArray.size = (b0 :: acc0).length := by simpa using hll
    rw [hsz] at hcon'
    refine hcon'.mono fun e w' ⟨he, d', m, os, hp, hs, hw⟩ => ?_
    obtain ⟨hp1, _, hp3⟩ := hp
    have hperm : d'.toList.Perm l := by
      have e1 : d'.extract 0 (b0 :: acc0).length = d' := by
        rw [← hsz, ← hp1]; simp
      have e2 : l.toArray.extract 0 (b0 :: acc0).length = l.toArray := by rw [← hsz]; simp
      rw [e1, e2] at hp3
      simpa using hp3
    refine ⟨he, d'.toList.map SB.b, ⟨?_, ?_⟩, ?_, ?_⟩
    · rw [← hlb]; exact hperm.map _
    · unfold risesB
      rw [List.pairwise_map, List.pairwise_iff_getElem]
      intro i j hi hj hij
      have hi' : i < d'.size := by simpa using hi
      have hj' : j < d'.size := by simpa using hj
      have := hs i j (Nat.zero_le _) hij (by rw [← hsz, ← hp1]; exact hj')
      rw [lt_sb, getElem!_pos d' i hi', getElem!_pos d' j hj'] at this
      simp at this
      simpa using this
    · rw [hw]
      have := acc_sorted hacc hlb hC hperm m os
      simpa using this
    · rw [hw]
      exact (Below.refl B w).grown (sort_grown w g m d' os) hB (fun k e => by cases e; exact hgl.1)
end Go.Proofs.Ytfcebbfphjbkoaa
namespace Go.Proofs.Ytfcebbfphjbkoaa
open Go.RowKit

def cmOne (b : List Bnd) (x : Bnd) : Bnd := ⟨x.v, putL (lookL b) x.t⟩
def cmB (a b : List Bnd) : Bool := a.all fun x => outB (lookL b) x.t
def restB (a b : List Bnd) : List Bnd := b.filter fun x => !(lookL a x.v).isSome
def cmL (a b : List Bnd) : List Bnd := cleanL (a.map (cmOne b) ++ restB a b)
theorem rest_yes {a b : List Bnd} {k : Nat} (hk : k < b.length) (h : lookL a b[k].v = none) : restB a (b.take (k + 1)) = restB a (b.take k) ++ [b[k]] := by
  unfold restB; rw [List.take_succ_eq_append_getElem hk, List.filter_append]; simp [h]
theorem rest_no {a b : List Bnd} {k : Nat} {t : List Cel} (hk : k < b.length) (h : lookL a b[k].v = some t) : restB a (b.take (k + 1)) = restB a (b.take k) := by
  unfold restB; rw [List.take_succ_eq_append_getElem hk, List.filter_append]; simp [h]
theorem map_take_succ {α β : Type} (f : α → β) {l : List α} {k : Nat} (hk : k < l.length) : (l.take (k + 1)).map f = (l.take k).map f ++ [f l[k]] := by
  rw [List.take_succ_eq_append_getElem hk, List.map_append]; rfl

/-- what Compose tells -/
def CmPost (w : World) (a b : List Bnd) (e : Ending) (w' : World) : Prop :=
  Below w.heap.size w w' ∧ ((cmB a b = false ∧ e = .returned (.tuple #[.slice none 0 0, .bool false])) ∨
    (cmB a b = true ∧ ∃ (a2 : Option Addr) (cap2 : Nat) (L : List Bnd), e = .returned (.tuple #[.slice a2 L.length cap2, .bool true]) ∧ Row w' a2 cap2 L ∧ L.Perm (cmL a b) ∧ risesB L))

set_option maxRecDepth 100000 in
set_option maxHeartbeats 6400000 in
theorem composesub_any (a : Option Addr) (cap : Nat) (a' : Option Addr) (cap' : Nat) (w : World) (xs ys : List Bnd) (hx : Row w a cap xs) (hy : Row w a' cap' ys) (hl : xs.length ≤ 100000) (hl2 : ys.length ≤ 100000) (hT : ∀ b ∈ xs, b.t.length ≤ 1000) (hT2 : ∀ b ∈ ys, b.t.length ≤ 1000) :
    Calls Try.prog 23 #[.slice a xs.length cap, .slice a' ys.length cap'] w (CmPost w xs ys) := by
  have hm := hx.max
  have hm2 := hx.le
  have hm3 := hy.max
  have hm4 := hy.le
  have HT := mkHid hT
  have HT2 := mkHid hT2
  clear hT hT2
  go_enter Try.func23, Try.ntmps23
  go_wp2_with (first
    | (go_at_call 53; (with_reducible refine (byvar_any _ cap _ xs hx (by omega)).mono ?_); rintro e w1 ⟨m1, rfl, hM1, hb1⟩)
    | (go_at_call 53; (with_reducible refine (byvar_any _ cap' _ ys (hy.below hb1) (by omega)).mono ?_); rintro e w2 ⟨m2, rfl, hM2, hb2⟩))
  have hbw := hb1.then hb2
  have hMa := hM1.below hb2
  have hx2 := hx.below hbw
  have hy2 := hy.below hbw
  clear hM1
  go_loopw [8, 10, 11, 12, 23] (fun v _ _ _ i wr => ∃ k : Nat, k ≤ xs.length ∧ i = .int .i64 k ∧ AccInv w2.heap.size 46 ((xs.take k).map (cmOne ys)) v wr ∧ Below w2.heap.size w2 wr ∧ Hid ((xs.take k).all (fun x => outB (lookL ys) x.t) = true)) (fun _ _ _ _ i wr => xs.length - (intOf i).toNat)
  case atStart => exact ⟨0, Nat.zero_le _, rfl, AccInv.nil _ _ _, Below.refl _ _, by simp [Hid]⟩
  case round =>
    obtain ⟨k, hk, rfl, hacc, hbl, HS⟩ := hrel
    by_cases hlt : k < xs.length
    · obtain ⟨b, off, rfl, hb, hat⟩ := hx2.cases.resolve_left (fun e => by simp [e] at hlt)
      obtain ⟨a1, cap1, c0, c1, hr1, hv1, hv2⟩ := bnd_at hat hbl hlt
      have hTk := HT.out xs[k] (List.getElem_mem hlt)
      have hbx : Below wr.heap.size wr (wr.alloc (.cells #[.int .i64 xs[k].v, .slice a1 xs[k].t.length cap1] 46)) := (Below.refl _ _).new _
      have x0 : (wr.alloc (.cells #[.int .i64 xs[k].v, .slice a1 xs[k].t.length cap1] 46)).cell? ⟨wr.heap.size, 0, none⟩ = some (.int .i64 xs[k].v) := World.cell?_alloc_at _ _ _ 0 rfl
      have hal : ((xs.take k).map (cmOne ys)).length ≤ k := by rw [List.length_map, List.length_take]; omega
      cases hf : outB (lookL ys) xs[k].t with
      | false =>
        have HF := mkHid hf
        have HE : Hid (cmB xs ys = false) := scan_bad hlt hf
        have HL : Hid (outL (lookL ys) xs[k].t = []) := by rw [Hid]; unfold outL; rw [if_neg (by simp [hf])]
        clear HS hf
        go_wp2_with (go_at_call 52; refine (put_any m2 _ _ _ xs[k].t _ ((hM2.below hbl).below hbx) (hr1.below hbx) (by omega)).mono ?_; rintro e w3 ⟨a3, cap3, rfl, hr3, hb3⟩; rw [HF.out])
        go_ret2
        exact ⟨hbw.then ((hbl.then hbx).then hb3), .inl ⟨HE.out, rfl⟩⟩
      | true =>
        have HF := mkHid hf
        have HN := mkHid (scan_next (p := fun x => outB (lookL ys) x.t) HS.out hlt hf)
        have HL : Hid (outL (lookL ys) xs[k].t = (cmOne ys xs[k]).t) := by rw [Hid]; unfold outL; rw [if_pos hf]; rfl
        have HM := mkHid (map_take_succ (cmOne ys) hlt)
        clear HS hf
        go_wp2_with (first
          | (go_at_call 52; refine (put_any m2 _ _ _ xs[k].t _ ((hM2.below hbl).below hbx) (hr1.below hbx) (by omega)).mono ?_; rintro e w3 ⟨a3, cap3, rfl, hr3, hb3⟩; rw [HF.out]; rw [HL.out] at hr3 ⊢; have y0 := keep x0 hb3; have hacc3 := (hacc.below hbx).below hb3; have hC := (hacc.below hbx).newer (Nat.le_refl _) hr3; have hbl3 := (hbl.then hbx).then hb3)
          | (at_builtin; refine wpList_acc (α := Bnd) rfl _ _ 28 rfl w2.heap.size 46 32 _ Try.underlying28 Try.infoBind rfl (by decide) _ ((xs.take k).map (cmOne ys)) hacc3 (by rfl) _ #[.int .i64 xs[k].v, .slice a3 (cmOne ys xs[k]).t.length cap3] (cmOne ys xs[k]) ⟨⟨a3, cap3, rfl, hC⟩, hv1, hv2⟩ (by rfl) (by omega) hbl3.size ?_; intro v' w4 hacc4 hb4))
        go_round
        case rel => exact ⟨k + 1, by omega, by go_num, hacc4.lit HM.out.symm, below_then' hbl3 hb4 (Nat.le_refl _), HN⟩
        case measure => simp [intOf]; omega
    · have HB : Hid (cmB xs ys = true) := scan_end HS.out (by omega)
      have hacc1 := hacc.lit (show (xs.take k).map (cmOne ys) = xs.map (cmOne ys) by rw [List.take_of_length_le (by omega)])
      clear hacc HS
      obtain ⟨wm, rfl⟩ : ∃ wm : World, wm = wr := ⟨_, rfl⟩
      go_wp2
      go_loopw [8, 14, 15, 16, 46, 50] (fun v _ _ _ i _ wr => ∃ n : Nat, n ≤ ys.length ∧ i = .int .i64 n ∧ AccInv w2.heap.size 46 (xs.map (cmOne ys) ++ restB xs (ys.take n)) v wr ∧ Below w2.heap.size w2 wr) (fun _ _ _ _ i _ wr => ys.length - (intOf i).toNat)
      case atStart => exact ⟨0, Nat.zero_le _, rfl, hacc1.lit (by simp [restB]), hbl⟩
      case round =>
        obtain ⟨n, hn, rfl, hacc2, hbr⟩ := hrel
        have hal : (xs.map (cmOne ys) ++ restB xs (ys.take n)).length ≤ xs.length + n := by
          rw [List.length_append, List.length_map]
          have := List.length_filter_le (fun x : Bnd => !(lookL xs x.v).isSome) (ys.take n)
          have h2 : (ys.take n).length ≤ n := List.length_take_le _ _
          unfold restB; omega
        by_cases hlt : n < ys.length
        · obtain ⟨b, off, rfl, hb, hat⟩ := hy2.cases.resolve_left (fun e => by simp [e] at hlt)
          obtain ⟨a1, cap1, c0, c1, hr1, hv1, hv2⟩ := bnd_at hat hbr hlt
          have hTn := HT2.out ys[n] (List.getElem_mem hlt)
          have hwf : (Lit.int .i64 ys[n].v).wf = true := WalkArith.wf_i64 ⟨by omega, by omega⟩
          have hbx : Below wr.heap.size wr (wr.alloc (.cells #[.int .i64 ys[n].v, .slice a1 ys[n].t.length cap1] 46)) := (Below.refl _ _).new _
          have hMx := (hMa.below hbr).below hbx
          cases hf : lookL xs ys[n].v with
          | none =>
            have hrun := hMx.no hf hwf
            have HR : Hid (xs.map (cmOne ys) ++ restB xs (ys.take (n + 1)) = xs.map (cmOne ys) ++ restB xs (ys.take n) ++ [ys[n]]) := by rw [Hid, rest_yes hlt hf, List.append_assoc]
            clear hf hwf hMx
            go_wp2_with (first
              | (go_at_call 55; refine (copied_any _ _ _ _ ys[n].t (hr1.below hbx) (by omega)).mono ?_; rintro e w3 ⟨a3, cap3, rfl, hr3, hb3⟩; have hacc3 := (hacc2.below hbx).below hb3; have hC := (hacc2.below hbx).newer (Nat.le_refl _) hr3; have hbl3 := (hbr.then hbx).then hb3)
              | (at_builtin; refine wpList_acc (α := Bnd) rfl _ _ 28 rfl w2.heap.size 46 32 _ Try.underlying28 Try.infoBind rfl (by decide) _ (xs.map (cmOne ys) ++ restB xs (ys.take n)) hacc3 (by rfl) _ #[.int .i64 ys[n].v, .slice a3 ys[n].t.length cap3] ys[n] ⟨⟨a3, cap3, rfl, hC⟩, hv1, hv2⟩ (by rfl) (by omega) hbl3.size ?_; intro v' w4 hacc4 hb4))
            go_round
            case rel => exact ⟨n + 1, by omega, by go_num, hacc4.lit HR.out.symm, below_then' hbl3 hb4 (Nat.le_refl _)⟩
            case measure => simp [intOf]; omega
          | some t =>
            obtain ⟨a9, cap9, hrun, _⟩ := hMx.yes hf hwf
            have HR : Hid (xs.map (cmOne ys) ++ restB xs (ys.take (n + 1)) = xs.map (cmOne ys) ++ restB xs (ys.take n)) := by rw [Hid, rest_no hlt hf]
            clear hf hwf hMx
            go_wp2
            go_round
            case rel => exact ⟨n + 1, by omega, by go_num, (hacc2.below hbx).lit HR.out.symm, hbr.then hbx⟩
            case measure => simp [intOf]; omega
        · have hacc3 := hacc2.lit (show xs.map (cmOne ys) ++ restB xs (ys.take n) = xs.map (cmOne ys) ++ restB xs ys by rw [List.take_of_length_le (by omega)])
          have hcl : (cmL xs ys).length ≤ 1000000 := by
            have h1 := List.length_filter_le (fun x : Bnd => !ownB x) (xs.map (cmOne ys) ++ restB xs ys)
            have h2 := List.length_filter_le (fun x : Bnd => !(lookL xs x.v).isSome) ys
            rw [List.length_append, List.length_map] at h1
            have h3 : (restB xs ys).length ≤ ys.length := h2
            have h4 : (cmL xs ys).length ≤ xs.length + (restB xs ys).length := h1
            omega
          clear hacc1 hacc2
          go_wp2_with (first
            | (go_at_call 56; refine (delfunc_any w2.heap.size _ _ _ hacc3 hbr.size).mono ?_; rintro e w3 ⟨v3, rfl, hacc4, hb3⟩)
            | (go_at_call 57; refine (sort_any w2.heap.size _ _ _ hacc4 (below_size hb3 hbr.size) hcl).mono ?_; rintro e w4 ⟨rfl, L, HL, hacc5, hb4⟩))
          obtain ⟨a2, cap2, rfl, hrow⟩ := hacc5.row
          have hfin := hbw.then (below_then' (below_then' hbr hb3 (Nat.le_refl _)) hb4 (Nat.le_refl _))
          go_wp2
          go_ret2
          exact ⟨hfin, .inr ⟨HB.out, a2, cap2, L, rfl, hrow, HL.out.1, HL.out.2⟩⟩
end Go.Proofs.Ytfcebbfphjbkoaa
namespace Go.Proofs.Ytfcebbfphjbkoaa
open Go.RowKit

/-! ### the mathematics of bindings -/
theorem look_nil (n : Int) : look [] n = none := rfl
theorem look_cons (b : Bnd) (s : List Bnd) (n : Int) : look (b :: s) n = if b.v = n then some b.t else look s n := by
  unfold look
  rw [List.find?_cons]
  by_cases h : b.v = n <;> simp [h]
theorem rightG_mem {m : Int} {s : List Bnd} (h : rightG m s = true) : ∀ b ∈ s, m ≤ b.v ∧ b.v ≤ 999 ∧ rightB b.t = true ∧ ownB b = false := by
  induction s generalizing m with
  | nil => intro b hb; simp at hb
  | cons c s ih =>
    unfold rightG at h
    simp at h
    intro b hb
    rcases List.mem_cons.1 hb with rfl | hb
    · exact ⟨by omega, by omega, h.1.1.2, h.1.2⟩
    · have := ih h.2 b hb
      exact ⟨by omega, this.2⟩
theorem rightG_rise {m : Int} {s : List Bnd} (h : rightG m s = true) : s.Pairwise fun x y => x.v < y.v := by
  induction s generalizing m with
  | nil => exact List.Pairwise.nil
  | cons c s ih =>
    have h' := h
    unfold rightG at h
    simp at h
    refine List.pairwise_cons.2 ⟨fun b hb => ?_, ih h.2⟩
    have := (rightG_mem h.2 b hb).1
    omega
theorem rightG_of {m : Int} {s : List Bnd} (h1 : ∀ b ∈ s, m ≤ b.v ∧ b.v ≤ 999 ∧ rightB b.t = true ∧ ownB b = false) (h2 : s.Pairwise fun x y => x.v < y.v) : rightG m s = true := by
  induction s generalizing m with
  | nil => rfl
  | cons c s ih =>
    obtain ⟨h3, h4⟩ := List.pairwise_cons.1 h2
    have hc := h1 c (by simp)
    unfold rightG
    rw [ih (fun b hb => by have h5 := h1 b (by simp [hb]); have h6 := h3 b hb; exact ⟨by omega, h5.2⟩) h4]
    simp [hc.1, hc.2.1, hc.2.2.1, hc.2.2.2]
/-- where variables are apart, the first is the last -/
theorem look_of_mem {s : List Bnd} (h : s.Pairwise fun x y => x.v < y.v) {b : Bnd} (hb : b ∈ s) : look s b.v = some b.t := by
  induction s with
  | nil => simp at hb
  | cons c s ih =>
    obtain ⟨h3, h4⟩ := List.pairwise_cons.1 h
    rw [look_cons]
    rcases List.mem_cons.1 hb with rfl | hb
    · simp
    · have := h3 b hb
      rw [if_neg (by omega), ih h4 hb]
theorem look_some {s : List Bnd} {n : Int} {t : List Cel} (h : look s n = some t) : (⟨n, t⟩ : Bnd) ∈ s := by
  obtain ⟨b, hb, rfl, rfl⟩ := look_mem h
  exact hb
theorem look_iff {s : List Bnd} (h : s.Pairwise fun x y => x.v < y.v) {n : Int} {t : List Cel} : look s n = some t ↔ (⟨n, t⟩ : Bnd) ∈ s :=
  ⟨look_some, fun hm => look_of_mem h hm⟩
theorem lookL_mem {s : List Bnd} {n : Int} {t : List Cel} (h : lookL s n = some t) : (⟨n, t⟩ : Bnd) ∈ s := by
  have := look_some (s := s.reverse) (show look s.reverse n = some t from h)
  simpa using this
theorem lookL_none {s : List Bnd} {n : Int} (h : lookL s n = none) {b : Bnd} (hb : b ∈ s) : b.v ≠ n := by
  unfold lookL at h
  rw [Option.map_eq_none_iff, List.find?_eq_none] at h
  have := h b (by simpa using hb)
  simpa using this
theorem look_none {s : List Bnd} {n : Int} (h : look s n = none) {b : Bnd} (hb : b ∈ s) : b.v ≠ n := by
  unfold look at h
  rw [Option.map_eq_none_iff, List.find?_eq_none] at h
  have := h b hb
  simpa using this
theorem lookL_eq {s : List Bnd} (h : s.Pairwise fun x y => x.v < y.v) : lookL s = look s := by
  funext n
  cases h1 : lookL s n with
  | some t => exact ((look_iff h).2 (lookL_mem h1)).symm
  | none =>
    cases h2 : look s n with
    | none => rfl
    | some t => exact absurd rfl (lookL_none h1 (look_some h2))
theorem look_perm {s s' : List Bnd} (h : s.Pairwise fun x y => x.v < y.v) (h' : s'.Pairwise fun x y => x.v < y.v) (hm : ∀ b, b ∈ s ↔ b ∈ s') : look s = look s' := by
  funext n
  cases h1 : look s n with
  | some t => exact ((look_iff h').2 ((hm _).1 (look_some h1))).symm
  | none =>
    cases h2 : look s' n with
    | none => rfl
    | some t => exact absurd rfl (look_none h1 ((hm _).2 (look_some h2)))
/-- rising lists with the same elements are the same -/
theorem rise_ext {s s' : List Bnd} (h : s.Pairwise fun x y => x.v < y.v) (h' : s'.Pairwise fun x y => x.v < y.v) (hm : ∀ b, b ∈ s ↔ b ∈ s') : s = s' := by
  induction s generalizing s' with
  | nil =>
    cases s' with
    | nil => rfl
    | cons c s' => exact absurd ((hm c).2 (by simp)) (by simp)
  | cons b s ih =>
    cases s' with
    | nil => exact absurd ((hm b).1 (by simp)) (by simp)
    | cons c s' =>
      obtain ⟨h3, h4⟩ := List.pairwise_cons.1 h
      obtain ⟨h5, h6⟩ := List.pairwise_cons.1 h'
      have hbc : b = c := by
        rcases List.mem_cons.1 ((hm b).1 (by simp)) with e | e
        · exact e
        · rcases List.mem_cons.1 ((hm c).2 (by simp)) with e' | e'
          · exact e'.symm
          · have := h5 b e; have := h3 c e'; omega
      subst hbc
      congr 1
      refine ih h4 h6 fun x => ⟨fun hx => ?_, fun hx => ?_⟩
      · rcases List.mem_cons.1 ((hm x).1 (by simp [hx])) with e | e
        · have := h3 x hx; rw [e] at this; omega
        · exact e
      · rcases List.mem_cons.1 ((hm x).2 (by simp [hx])) with e | e
        · have := h5 x hx; rw [e] at this; omega
        · exact e
theorem rises_strict {L K : List Bnd} (hp : L.Perm K) (hr : risesB L) (hd : (K.map Bnd.v).Nodup) : L.Pairwise fun x y => x.v < y.v := by
  have hd' : (L.map Bnd.v).Nodup := (hp.map Bnd.v).nodup_iff.2 hd
  unfold risesB at hr
  have hn : L.Pairwise fun x y => x.v ≠ y.v := by
    have := hd'
    rwa [List.Nodup, List.pairwise_map] at this
  exact (hr.and hn).imp fun h => by omega
theorem perm_rise {L K : List Bnd} (hp : L.Perm K) (hr : risesB L) (hk : K.Pairwise fun x y => x.v < y.v) : L = K := by
  refine rise_ext (rises_strict hp hr ?_) hk fun b => hp.mem_iff
  rw [List.Nodup, List.pairwise_map]
  exact hk.imp fun h => by omega

/-! ### what is put in -/
/-- what stands for a variable -/
def subF (f : Int → Option (List Cel)) (n : Int) : List Cel := (f n).getD [varC n]
def okF (f : Int → Option (List Cel)) : Prop := ∀ n t, f n = some t → rightB t = true
theorem putC_var {f : Int → Option (List Cel)} {c : Cel} (h : cellOk c = true) (h1 : c.k = 1) : putC f c = subF f c.n := by
  unfold putC subF; rw [if_pos h1]
  rw [← cellOk_var h h1]
theorem putC_other {f : Int → Option (List Cel)} {c : Cel} (h1 : ¬ c.k = 1) : putC f c = [c] := by unfold putC; rw [if_neg h1]
theorem subF_right {f : Int → Option (List Cel)} (hf : okF f) {n : Int} (h0 : 0 ≤ n) (h9 : n ≤ 999) : rightB (subF f n) = true := by
  unfold subF
  cases h : f n with
  | none =>
    show rightB [varC n] = true
    refine right_of_sk (c := varC n) (l := []) ?_ rfl (by simp)
    simp [cellOk, varC, h0, h9]
  | some t => exact hf n t h
theorem putL_cons (f : Int → Option (List Cel)) (c : Cel) (l : List Cel) : putL f (c :: l) = putC f c ++ putL f l := rfl
theorem putL_nil (f : Int → Option (List Cel)) : putL f [] = [] := rfl
theorem sk_put {f : Int → Option (List Cel)} (hf : okF f) : ∀ (l : List Cel) (m : Nat), (∀ c ∈ l, cellOk c = true) → sk m (putL f l) = (sk m l).map (putL f)
  | [], m, _ => by cases m <;> simp [sk, putL]
  | c :: l, 0, _ => by simp [sk]
  | c :: l, m + 1, h => by
    have hc := h c (by simp)
    have hl := fun d hd => h d (List.mem_cons_of_mem _ hd)
    rw [putL_cons]
    have hs : sk (m + 1) (c :: l) = sk (m + ar c) l := by simp [sk, hc]
    rw [hs]
    by_cases h1 : c.k = 1
    · have hr := var_range hc h1
      rw [putC_var hc h1]
      obtain ⟨t, ht, e, _⟩ := right_tm (subF_right hf hr.1 hr.2)
      rw [e, sk_flat t ht, show ar c = 0 by unfold ar; rw [if_neg (by omega)], Nat.add_zero]
      exact sk_put hf l m hl
    · rw [putC_other h1]
      show sk (m + 1) (c :: putL f l) = _
      have hs2 : sk (m + 1) (c :: putL f l) = sk (m + ar c) (putL f l) := by simp [sk, hc]
      rw [hs2]
      exact sk_put hf l _ hl
theorem right_iff {xs : List Cel} : rightB xs = true ↔ xs.length ≤ 200 ∧ sk 1 xs = some [] := by
  constructor
  · intro h
    obtain ⟨c, l, rfl, hc, hs, hl⟩ := right_sk h
    refine ⟨hl, ?_⟩
    have : sk 1 (c :: l) = sk (0 + ar c) l := by simp [sk, hc]
    rw [this, Nat.zero_add]; exact hs
  · rintro ⟨hl, hs⟩
    cases xs with
    | nil => simp [sk] at hs
    | cons c l =>
      have e : sk 1 (c :: l) = if cellOk c then sk (0 + ar c) l else none := rfl
      rw [e] at hs
      by_cases hc : cellOk c = true
      · rw [if_pos hc, Nat.zero_add] at hs
        exact right_of_sk hc hs hl
      · rw [if_neg hc] at hs; cases hs
theorem put_right {f : Int → Option (List Cel)} (hf : okF f) {t : List Cel} (ht : rightB t = true) (hl : (putL f t).length ≤ 200) : rightB (putL f t) = true := by
  refine right_iff.2 ⟨hl, ?_⟩
  rw [sk_put hf t 1 (right_cells ht), (right_iff.1 ht).2]; rfl
theorem right_pos {t : List Cel} (h : rightB t = true) : 1 ≤ t.length := by
  obtain ⟨c, l, rfl, _⟩ := right_sk h; simp
theorem subF_pos {f : Int → Option (List Cel)} (hf : okF f) (n : Int) : 1 ≤ (subF f n).length := by
  unfold subF
  cases h : f n with
  | none => simp
  | some t => exact right_pos (hf n t h)
theorem putC_pos {f : Int → Option (List Cel)} (hf : okF f) (c : Cel) : 1 ≤ (putC f c).length := by
  unfold putC
  split
  · cases h : f c.n with
    | none => simp
    | some t => exact right_pos (hf _ t h)
  · simp
theorem put_grows {f : Int → Option (List Cel)} (hf : okF f) (l : List Cel) : l.length ≤ (putL f l).length := by
  induction l with
  | nil => simp [putL]
  | cons c l ih =>
    rw [putL_cons, List.length_append, List.length_cons]
    have := putC_pos hf c; omega
theorem okF_look {s : List Bnd} (h : rightS s = true) : okF (look s) := fun n t hn => (rightG_mem h _ (look_some hn)).2.2.1
theorem put_put {f g h : Int → Option (List Cel)} (hfg : ∀ n, 0 ≤ n → n ≤ 999 → subF h n = putL g (subF f n)) {l : List Cel} (hl : ∀ c ∈ l, cellOk c = true) : putL h l = putL g (putL f l) := by
  induction l with
  | nil => rfl
  | cons c l ih =>
    rw [putL_cons, putL_cons, putL_append, ih fun d hd => hl d (List.mem_cons_of_mem _ hd)]
    congr 1
    have hc := hl c (by simp)
    by_cases h1 : c.k = 1
    · have hr := var_range hc h1
      rw [putC_var hc h1, putC_var hc h1, hfg _ hr.1 hr.2]
    · rw [putC_other h1, putC_other h1, putL_cons, putC_other h1]; rfl
theorem put_var (g : Int → Option (List Cel)) (n : Int) : putL g [varC n] = subF g n := by
  unfold putL; simp [putC, varC, subF]
/-! ### composed -/
def compF (f g : Int → Option (List Cel)) (n : Int) : Option (List Cel) := match f n with
  | some t => some (putL g t)
  | none => g n
theorem sub_comp (f g : Int → Option (List Cel)) (n : Int) : subF (compF f g) n = putL g (subF f n) := by
  cases h : f n with
  | none =>
    simp only [subF, compF, h]
    show (g n).getD [varC n] = putL g [varC n]
    rw [put_var]; rfl
  | some t => simp only [subF, compF, h]; rfl
/-- all but those that are just themselves -/
def cleanF (f : Int → Option (List Cel)) (n : Int) : Option (List Cel) := match f n with
  | some t => if ownB ⟨n, t⟩ then none else some t
  | none => none
theorem sub_clean (f : Int → Option (List Cel)) (n : Int) : subF (cleanF f) n = subF f n := by
  cases h : f n with
  | none => simp only [subF, cleanF, h]
  | some t =>
    by_cases ho : ownB ⟨n, t⟩ = true
    · have : t = [varC n] := by simpa [ownB] using ho
      simp only [subF, cleanF, h, ho, if_true]
      rw [this]; rfl
    · simp only [subF, cleanF, h, ho]; rfl
theorem cm_mem {a b : List Bnd} (ha : a.Pairwise fun x y => x.v < y.v) (hb : b.Pairwise fun x y => x.v < y.v) (x : Bnd) : x ∈ cmL a b ↔ cleanF (compF (look a) (look b)) x.v = some x.t := by
  unfold cmL cleanL
  rw [List.mem_filter, List.mem_append]
  have h1 : x ∈ a.map (cmOne b) ↔ ∃ t, look a x.v = some t ∧ putL (look b) t = x.t := by
    rw [List.mem_map]
    constructor
    · rintro ⟨y, hy, rfl⟩
      exact ⟨y.t, look_of_mem ha hy, by rw [cmOne, lookL_eq hb]⟩
    · rintro ⟨t, h1, h2⟩
      refine ⟨⟨x.v, t⟩, look_some h1, ?_⟩
      rw [cmOne, lookL_eq hb]
      exact (Bnd.eq_iff _ _).2 ⟨rfl, h2⟩
  have h2 : x ∈ restB a b ↔ look a x.v = none ∧ look b x.v = some x.t := by
    unfold restB
    rw [List.mem_filter, lookL_eq ha]
    constructor
    · rintro ⟨h3, h4⟩
      refine ⟨?_, look_of_mem hb h3⟩
      cases h : look a x.v with
      | none => rfl
      | some t => rw [h] at h4; simp at h4
    · rintro ⟨h3, h4⟩
      exact ⟨look_some h4, by rw [h3]; rfl⟩
  rw [h1, h2]
  unfold cleanF compF
  cases h : look a x.v with
  | none =>
    simp only [false_and, exists_false, false_or, true_and, reduceCtorEq]
    cases h' : look b x.v with
    | none => simp
    | some t =>
      simp only [Option.some.injEq]
      constructor
      · rintro ⟨rfl, h6⟩
        rw [if_neg (by simpa using h6)]
      · intro h6
        by_cases ho : ownB ⟨x.v, t⟩ = true
        · rw [if_pos ho] at h6; cases h6
        · rw [if_neg ho] at h6
          have h7 := Option.some.inj h6
          subst h7
          exact ⟨rfl, by simpa using ho⟩
  | some t =>
    simp only [Option.some.injEq, exists_eq_left', reduceCtorEq, false_and, or_false]
    constructor
    · rintro ⟨h5, h6⟩
      rw [h5, if_neg (by simpa using h6)]
    · intro h6
      by_cases ho : ownB ⟨x.v, putL (look b) t⟩ = true
      · rw [if_pos ho] at h6; cases h6
      · rw [if_neg ho] at h6
        have h7 := Option.some.inj h6
        exact ⟨h7, by rw [h7] at ho; simpa using ho⟩
theorem cm_nodup {a b : List Bnd} (ha : a.Pairwise fun x y => x.v < y.v) (hb : b.Pairwise fun x y => x.v < y.v) : ((cmL a b).map Bnd.v).Nodup := by
  have hsub : List.Sublist ((cmL a b).map Bnd.v) ((a.map (cmOne b) ++ restB a b).map Bnd.v) := List.filter_sublist.map _
  refine List.Nodup.sublist hsub ?_
  rw [List.map_append, List.nodup_append]
  refine ⟨?_, ?_, ?_⟩
  · rw [List.map_map]
    have : (Bnd.v ∘ cmOne b) = Bnd.v := rfl
    rw [this, List.Nodup, List.pairwise_map]
    exact ha.imp fun h => by omega
  · rw [List.Nodup, List.pairwise_map]
    exact (hb.filter _).imp fun h => by omega
  · intro x hx y hy e
    subst e
    obtain ⟨p, hp, rfl⟩ := List.mem_map.1 hx
    obtain ⟨q, hq, hqv⟩ := List.mem_map.1 hy
    obtain ⟨p', hp', rfl⟩ := List.mem_map.1 hp
    unfold restB at hq
    rw [List.mem_filter] at hq
    have h3 := hq.2
    rw [lookL_eq ha, hqv, show (cmOne b p').v = p'.v from rfl, look_of_mem ha hp'] at h3
    simp at h3
theorem cm_rise {a b L : List Bnd} (ha : a.Pairwise fun x y => x.v < y.v) (hb : b.Pairwise fun x y => x.v < y.v) (hp : L.Perm (cmL a b)) (hr : risesB L) : L.Pairwise fun x y => x.v < y.v :=
  rises_strict hp hr (cm_nodup ha hb)
theorem cm_look {a b L : List Bnd} (ha : a.Pairwise fun x y => x.v < y.v) (hb : b.Pairwise fun x y => x.v < y.v) (hp : L.Perm (cmL a b)) (hr : risesB L) : look L = cleanF (compF (look a) (look b)) := by
  have hL := cm_rise ha hb hp hr
  funext n
  cases h : look L n with
  | some t =>
    have := (cm_mem ha hb ⟨n, t⟩).1 (hp.mem_iff.1 (look_some h))
    exact this.symm
  | none =>
    cases h' : cleanF (compF (look a) (look b)) n with
    | none => rfl
    | some t => exact absurd rfl (look_none h (hp.mem_iff.2 ((cm_mem ha hb ⟨n, t⟩).2 h')))
theorem outB_iff {f : Int → Option (List Cel)} {t : List Cel} : outB f t = true ↔ (putL f t).length ≤ 200 := by simp [outB]
theorem cm_right {a b L : List Bnd} (ha : rightS a = true) (hb : rightS b = true) (hB : cmB a b = true) (hp : L.Perm (cmL a b)) (hr : risesB L) : rightS L = true := by
  have ha' := rightG_rise ha
  have hb' := rightG_rise hb
  refine rightG_of (fun x hx => ?_) (cm_rise ha' hb' hp hr)
  have hx' := hp.mem_iff.1 hx
  have h1 := (cm_mem ha' hb' x).1 hx'
  unfold cmL cleanL at hx'
  rw [List.mem_filter] at hx'
  have ho : ownB x = false := by simpa using hx'.2
  rcases List.mem_append.1 hx'.1 with h | h
  · obtain ⟨y, hy, rfl⟩ := List.mem_map.1 h
    have hy' := rightG_mem ha y hy
    have hfit := List.all_eq_true.1 hB y hy
    rw [lookL_eq hb'] at hfit
    refine ⟨hy'.1, hy'.2.1, ?_, ho⟩
    show rightB (putL (lookL b) y.t) = true
    rw [lookL_eq hb']
    exact put_right (okF_look hb) hy'.2.2.1 (outB_iff.1 hfit)
  · have hm := (List.mem_filter.1 h).1
    have := rightG_mem hb x hm
    exact ⟨this.1, this.2.1, this.2.2.1, ho⟩
end Go.Proofs.Ytfcebbfphjbkoaa
namespace Go.Proofs.Ytfcebbfphjbkoaa
open Go.RowKit

set_option maxHeartbeats 400000 in
theorem v2_any (n : Int) (w : World) : Calls Try.prog 31 #[.int .i64 n] w fun e w' => e = .returned (.agg #[.int .i64 1, .string ⟨#[]⟩, .int .i64 n]) ∧ Below w.heap.size w w' := by
  have hb := ((Below.refl w.heap.size w).new (.cells #[.int .i64 1, .string ⟨#[]⟩, .int .i64 n] 24))
  go_enter Try.func31, Try.ntmps31
  go_wp2
  exact bodyPost_ret (v := .agg #[.int .i64 1, .string ⟨#[]⟩, .int .i64 n]) (by simp [results, Try.results31, go_sem]) rfl ⟨rfl, hb⟩
set_option maxHeartbeats 400000 in
theorem f2_any (s : ByteArray) (n : Int) (w : World) : Calls Try.prog 49 #[.string s, .int .i64 n] w fun e w' => e = .returned (.agg #[.int .i64 3, .string s, .int .i64 n]) ∧ Below w.heap.size w w' := by
  have hb := ((Below.refl w.heap.size w).new (.cells #[.int .i64 3, .string s, .int .i64 n] 24))
  go_enter Try.func49, Try.ntmps49
  go_wp2
  exact bodyPost_ret (v := .agg #[.int .i64 3, .string s, .int .i64 n]) (by simp [results, Try.results49, go_sem]) rfl ⟨rfl, hb⟩

section lit
variable {n m : Nat} {a a' : Option Addr} {cap cap' : Nat} {w : World}
theorem rights_lit {xs : List Bnd} (hn : n = xs.length) (hr : Row w a cap xs) {b : Bool} (hb : rightS xs = b) :
    Calls Try.prog 18 #[.slice a n cap] w fun e w' => e = .returned (.bool b) ∧ Below w.heap.size w w' := by
  subst hn; subst hb; exact rightsub_any a cap w xs hr
theorem apply_lit {xs : List Bnd} {ys ts : List Cel} (hn : n = xs.length) (hr : Row w a cap xs) (hm : m = ys.length) (hr' : Row w a' cap' ys) (hl : xs.length ≤ 1000000) (hl2 : ys.length ≤ 10000) {b : Bool} (hb : outB (lookL xs) ys = b) (ht : outL (lookL xs) ys = ts) {q : Nat} (hq : q = ts.length) :
    Calls Try.prog 21 #[.slice a n cap, .slice a' m cap'] w fun e w' => ∃ a2 cap2, e = .returned (.tuple #[.slice a2 q cap2, .bool b]) ∧ Row w' a2 cap2 ts ∧ Below w.heap.size w w' := by
  subst hn; subst hm; subst hb; subst hq; subst ht
  exact (applysub_any a cap a' cap' w xs ys hr hr' hl hl2).mono fun e w' ⟨a2, cap2, he, h1, h2⟩ => ⟨a2, cap2, he, h1.row, h2⟩
theorem compose_lit {xs ys K : List Bnd} (hn : n = xs.length) (hr : Row w a cap xs) (hm : m = ys.length) (hr' : Row w a' cap' ys) (hl : xs.length ≤ 100000) (hl2 : ys.length ≤ 100000) (hT : ∀ b ∈ xs, b.t.length ≤ 1000) (hT2 : ∀ b ∈ ys, b.t.length ≤ 1000)
    (hB : cmB xs ys = true) (hp : (cmL xs ys).Perm K) (hk : K.Pairwise fun x y => x.v < y.v) {q : Nat} (hq : q = K.length) :
    Calls Try.prog 23 #[.slice a n cap, .slice a' m cap'] w fun e w' => ∃ a2 cap2, e = .returned (.tuple #[.slice a2 q cap2, .bool true]) ∧ Row w' a2 cap2 K ∧ Below w.heap.size w w' := by
  subst hn; subst hm; subst hq
  refine (composesub_any a cap a' cap' w xs ys hr hr' hl hl2 hT hT2).mono fun e w' ⟨hb, h⟩ => ?_
  rcases h with ⟨h, _⟩ | ⟨_, a2, cap2, L, he, hrow, hpl, hri⟩
  · rw [hB] at h; cases h
  · have := perm_rise (hpl.trans hp) hri hk
    subst this
    exact ⟨a2, cap2, he, hrow, hb⟩
theorem keep_lit {xs ks : List Bnd} {ys : List Int} (hn : n = xs.length) (hr : Row w a cap xs) (hm : m = ys.length) (hr' : Row w a' cap' ys) (hl : xs.length ≤ 1000000) (hT : ∀ b ∈ xs, b.t.length ≤ 1000) (hk : keptL xs ys = ks) {q : Nat} (hq : q = ks.length) :
    Calls Try.prog 27 #[.slice a n cap, .slice a' m cap'] w fun e w' => ∃ a2 cap2, e = .returned (.slice a2 q cap2) ∧ Row w' a2 cap2 ks ∧ Below w.heap.size w w' := by
  subst hn; subst hm; subst hq; subst hk
  exact keepsub_any a cap a' cap' w xs ys hr hr' hl hT
theorem idem_lit {xs : List Bnd} (hn : n = xs.length) (hr : Row w a cap xs) (hl : xs.length ≤ 1000000) (hT : ∀ b ∈ xs, b.t.length ≤ 1000) {b : Bool} (hb : idemL xs = b) :
    Calls Try.prog 29 #[.slice a n cap] w fun e w' => e = .returned (.bool b) ∧ Below w.heap.size w w' := by
  subst hn; subst hb; exact idemsub_any a cap w xs hr hl hT
theorem refsame2_lit {xs ys : List Bnd} (hn : n = xs.length) (hr : Row w a cap xs) (hm : m = ys.length) (hr' : Row w a' cap' ys) {b : Bool} (hb : decide (xs = ys) = b) :
    Calls Try.prog 26 #[.slice a n cap, .slice a' m cap'] w fun e w' => e = .returned (.bool b) ∧ Below w.heap.size w w' := by
  subst hn; subst hm; subst hb; exact same2_any a cap a' cap' w xs ys hr hr'
theorem refsame1_lit {xs ys : List Cel} (hn : n = xs.length) (hr : Row w a cap xs) (hm : m = ys.length) (hr' : Row w a' cap' ys) {b : Bool} (hb : decide (xs = ys) = b) :
    Calls Try.prog 25 #[.slice a n cap, .slice a' m cap'] w fun e w' => e = .returned (.bool b) ∧ Below w.heap.size w w' := by
  subst hn; subst hm; subst hb; exact refsame_any a cap a' cap' w xs ys hr hr'
end lit

/-- a slice literal of cells -/
theorem cells_new (w : World) (xs : List Cel) (h : ∀ c ∈ xs, c.fit) (hl : xs.length ≤ 9223372036854775807) : Row (w.alloc (.cells (flat xs).toArray 24)) (some ⟨w.heap.size, 0, none⟩) xs.length xs :=
  row_new w (flat xs).toArray (24, 0) (by simpa using crows_flat _ h) hl
def fC (s : ByteArray) (n : Int) : Cel := ⟨3, s, n⟩
theorem fC_fit {s : ByteArray} {n : Int} (hs : s.size ≤ 9223372036854775807) (h2 : -9223372036854775808 ≤ n) (h3 : n ≤ 9223372036854775807) : (fC s n).fit := ⟨by show _ ≤ (3 : Int); omega, by show (3 : Int) ≤ _; omega, h2, h3, hs⟩
/-- a slice literal of bindings -/
theorem binds_new (w : World) (cs : Array Value) (xs : List Bnd) (h : CRows w cs.toList xs) (hl : xs.length ≤ 9223372036854775807) : Row (w.alloc (.cells cs 46)) (some ⟨w.heap.size, 0, none⟩) xs.length xs :=
  row_new w cs (46, 0) (h.keeps (Keeps.of ((Below.refl _ _).new _))) hl
theorem bind_c {w : World} {v : Int} {t : List Cel} {a : Option Addr} {cap : Nat} (h : Row w a cap t) (h2 : -9223372036854775808 ≤ v) (h3 : v ≤ 9223372036854775807) : RepC.C w [.int .i64 v, .slice a t.length cap] (⟨v, t⟩ : Bnd) := ⟨⟨a, cap, rfl, h⟩, h2, h3⟩
theorem fits_nil : ∀ c ∈ ([] : List Cel), c.fit := fun _ h => by simp at h
theorem fits_cons {c : Cel} {l : List Cel} (h : c.fit) (hl : ∀ d ∈ l, d.fit) : ∀ d ∈ c :: l, d.fit := fun d hd => by
  rcases List.mem_cons.1 hd with rfl | hd
  · exact h
  · exact hl d hd
end Go.Proofs.Ytfcebbfphjbkoaa
