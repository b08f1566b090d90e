import Derived.Test.YtabjghmfjoefpaaDoorZr2
import Derived.Deep.RegionHeld3
import Derived.Deep.RegionWith
import Derived.OneCell
import Derived.OwnWalk
import Derived.RangeFuncNested
import Derived.RangeFuncBound
import Derived.RangeFuncCalls
import Derived.RangeFuncLeaves
import Derived.RangeFuncBox
import Derived.Shelf.Abstract
import Derived.Shelf.RegionOpen
import Derived.WalkKit
import Derived.OwnWalkIn
import Derived.TacticsInMore
import Derived.LoopNIn
import Derived.LoopIn
import Derived.Maps.AppendAt
set_option linter.unusedVariables false
namespace Go.Proofs.YtabjghmfjoefpaaDoor
open Go.RowKit
namespace Md
theorem mask (a : Int) (m : Nat) (hm : m ≤ 100000) : 0 ≤ bits .and .i64 a m ∧ bits .and .i64 a m ≤ m := by
  have h2 : (BitVec.ofInt 64 (m : Int)).toNat = m := by
    rw [BitVec.ofInt_natCast, BitVec.toNat_ofNat]; exact Nat.mod_eq_of_lt (by omega)
  have h3 : (BitVec.ofInt 64 a &&& BitVec.ofInt 64 (m : Int)).toNat ≤ m := by
    rw [BitVec.toNat_and, h2]; exact Nat.and_le_right
  have e : bits .and .i64 a m = IntKind.i64.wrap ((BitVec.ofInt 64 a &&& BitVec.ofInt 64 (m : Int)).toNat : Int) := rfl
  rw [e, IntKind.wrap_i64]
  omega
/-- a row of cells that is the call's own -/
def LR (W : World) (B : Nat) (v : Value) (acc : List Cel) : Prop := W.ownsRow B 62 3 v acc.length (flat acc)
/-- append of one cell, laid just ahead of it -/
theorem wpList_lay {w : World} {ops : Array Oper} {rest : List Oper} {o : Oper} {a : Act} {Q : Exit → Act → World → Prop} (hg : o.guard = none) (s x : Operand) (hop : o.op = Op.call { callee := Callee.builtin Builtin.append, args := #[s, x], argTypes := #[22, 22] })
    (B : Nat) (v : Value) (acc : List Cel) (c : Cel) (hT : LR w B v acc) (hs : a.eval s = v) (hx : a.eval x = .slice (some ⟨w.heap.size, 0, none⟩) 1 1) (hB : B ≤ w.heap.size) (hl : acc.length ≤ 1000000)
    (hK : ∀ v' w', LR w' B v' (acc ++ [c]) → Below B w w' → (∃ g cap, v' = .slice (some ⟨g, 0, none⟩) (acc.length + 1) cap) → wpList Tryd.prog ops Q rest (a.put o.dst v') w') :
    wpList Tryd.prog ops Q (o :: rest) a (w.alloc (.cells #[.int .i64 c.k, .string c.s, .int .i64 c.n] 62)) := by
  refine wpList_plain hg fun K hK' => ?_
  obtain ⟨i, hi, hz0, hz1, hz2⟩ := info_parts Tryd.infoCell
  obtain ⟨v', w', hrun, h2, h3, h4⟩ := run_append_own (P := Tryd.prog) (w.alloc (.cells #[.int .i64 c.k, .string c.s, .int .i64 c.n] 62)) B 22 o.type 62 i _ 3 32 Tryd.underlying22 hi hz0 hz1 hz2 rfl (by omega) _ acc.length _ (World.ownsRow.alloc hT _)
    ⟨w.heap.size, 0, none⟩ 1 1 [.int .i64 c.k, .string c.s, .int .i64 c.n] rfl (by
      intro j u hj
      match j, hj with
      | 0, hj => simp at hj; subst hj; simp [Addr.add, World.cell?_alloc_at]
      | 1, hj => simp at hj; subst hj; simp [Addr.add, World.cell?_alloc_at]
      | 2, hj => simp at hj; subst hj; simp [Addr.add, World.cell?_alloc_at]
      | j + 3, hj => simp at hj) (by intro u hu; simp at hu; rcases hu with rfl | rfl | rfl <;> rfl) (by unfold maxLen; omega) (by omega) (by simp; omega)
  have hlt := World.ownsRow.lt hT
  have hb : Below B w w' := by
    refine ⟨h3.os, h3.tape, h3.output, by have := h3.size; simp at this; omega, fun k hk => ?_⟩
    exact (h3.block k (by simp; omega) (fun e => by have := (hlt k e.symm).1; omega)).trans (heap_alloc_old _ _ (by omega))
  have hlast : ∃ g cap, v' = .slice (some ⟨g, 0, none⟩) (acc.length + 1) cap := by
    rcases h2.2 with ⟨_, h0⟩ | ⟨g, cap, _, e, _⟩
    · omega
    · exact ⟨g, cap, e⟩
  have hT2 : LR w' B v' (acc ++ [c]) := by
    unfold LR
    rw [List.length_append, List.length_singleton, show flat (acc ++ [c]) = flat acc ++ [.int .i64 c.k, .string c.s, .int .i64 c.n] by simp [flat]]
    exact h2
  unfold Oper.wp execOp
  simp [hop, resolve, invoke, builtin, hs, hx, hrun, Result.andThen]
  exact hK' _ _ (hK v' w' hT2 hb hlast)
/-- what is made so far: n terms are wanted -/
structure MadeI (most n : Nat) (out : List Cel) : Prop where
  read : ∀ rest, sk 1 (out ++ rest) = sk n rest
  room : out.length + n ≤ most
  fit : ∀ c ∈ out, c.fit
theorem MadeI.start {most : Nat} (h : 1 ≤ most) : MadeI most 1 [] := ⟨fun _ => rfl, by simpa using h, by simp⟩
theorem MadeI.snoc {most m : Nat} {out : List Cel} {c : Cel} (h : MadeI most (m + 1) out) (hc : cellOk c = true) (hf : c.fit) (hr : out.length + (m + 1) + ar c ≤ most) : MadeI most (m + ar c) (out ++ [c]) := by
  refine ⟨fun rest => ?_, by rw [List.length_append, List.length_singleton]; omega, fun d hd => ?_⟩
  · rw [List.append_assoc, h.read]
    simp [sk, hc]
  · rcases List.mem_append.1 hd with hd | hd
    · exact h.fit d hd
    · rw [List.mem_singleton] at hd; rw [hd]; exact hf
theorem MadeI.done {most : Nat} {out : List Cel} (h : MadeI most 0 out) (hm : most ≤ 200) : rightB out = true ∧ out.length ≤ most := by
  have h1 := h.read []
  rw [List.append_nil] at h1
  have h2 := h.room
  refine ⟨?_, by omega⟩
  unfold rightB endI
  rw [List.drop_zero, h1]
  simp [sk]
  omega
def nilC : Cel := ⟨3, ⟨#[91, 93]⟩, 0⟩
theorem cfit (k n : Int) (s : ByteArray) (h1 : 0 ≤ k ∧ k ≤ 3) (h2 : -100000 ≤ n ∧ n ≤ 100000) (h3 : s.size ≤ 1000) : (⟨k, s, n⟩ : Cel).fit := ⟨by show _ ≤ k; omega, by show k ≤ _; omega, by show _ ≤ n; omega, by show n ≤ _; omega, by show s.size ≤ _; omega⟩
theorem nilC_fit : nilC.fit := cfit _ _ _ (by decide) (by decide) (by decide)
theorem nilC_ok : cellOk nilC = true := by decide +kernel
theorem vcel_ok (n : Int) (h : 0 ≤ n ∧ n ≤ 999) : cellOk ⟨1, ⟨#[]⟩, n⟩ = true ∧ (⟨1, ⟨#[]⟩, n⟩ : Cel).fit := by
  refine ⟨?_, cfit _ _ _ (by decide) (by omega) (by decide)⟩
  unfold cellOk
  simp
  omega
theorem ncel_ok (n : Int) (h : -30000 ≤ n ∧ n ≤ 35535) : cellOk ⟨2, ⟨#[]⟩, n⟩ = true ∧ (⟨2, ⟨#[]⟩, n⟩ : Cel).fit := by
  refine ⟨?_, cfit _ _ _ (by decide) (by omega) (by decide)⟩
  unfold cellOk
  simp
  omega
theorem fcel_ok (t : ByteArray) (ht : nameOk t = true) (hs : t.size ≤ 12) (n : Int) (h : 0 ≤ n ∧ n ≤ 3) : cellOk ⟨3, t, n⟩ = true ∧ (⟨3, t, n⟩ : Cel).fit := by
  refine ⟨?_, cfit _ _ _ (by decide) (by omega) (by omega)⟩
  unfold cellOk
  simp [ht]
  omega
/-- where a made row lies: it is the one that came, or it is new -/
def MadeAt (w : World) (a : Option Addr) (cap : Nat) (xs : List Cel) (w' : World) (a' : Option Addr) (cap' : Nat) (ys : List Cel) : Prop := (a' = a ∧ cap' = cap ∧ ys = xs) ∨ NewRow w.heap.size w' a' cap' ys
theorem MadeAt.row {w w' : World} {a a' : Option Addr} {cap cap' : Nat} {xs ys : List Cel} (h : MadeAt w a cap xs w' a' cap' ys) (hx : Row w a cap xs) (hb : Below w.heap.size w w') : Row w' a' cap' ys := by
  rcases h with ⟨rfl, rfl, rfl⟩ | h
  · exact hx.below hb
  · exact h.row
end Md
open Md
set_option maxRecDepth 100000 in
set_option maxHeartbeats 16000000 in
theorem made_where (a : Option Addr) (cap : Nat) (w : World) (xs : List Cel) (hx : Row w a cap xs) (most : Nat) (hm1 : 1 ≤ most) (hm2 : most ≤ 200) :
    Calls Tryd.prog 11 #[.slice a xs.length cap, .int .i64 most] w fun e w' => ∃ a' cap' ys, e = .returned (.slice a' ys.length cap') ∧ MadeAt w a cap xs w' a' cap' ys ∧ rightB ys = true ∧ ys.length ≤ most ∧ Below w.heap.size w w' := by
  have hm := hx.max
  have hle := hx.le
  have HX := mkHid hx
  clear hx
  go_enter Tryd.func11, Tryd.ntmps11
  go_wp2_with fail
  refine (refright_any a cap _ xs HX.out).mono ?_
  rintro e w1 ⟨rfl, hb1⟩
  by_cases hg : rightB xs = true ∧ xs.length ≤ most
  · obtain ⟨hr, hl⟩ := hg
    have t1 : decide (xs.length ≤ most) = true := by simp; omega
    have HE : Hid (∃ a' cap' ys, Ending.returned (.slice a xs.length cap) = .returned (.slice a' ys.length cap') ∧ MadeAt w a cap xs w1 a' cap' ys ∧ rightB ys = true ∧ ys.length ≤ most ∧ Below w.heap.size w w1) := ⟨a, cap, xs, rfl, .inl ⟨rfl, rfl, rfl⟩, hr, hl, hb1⟩
    rw [hr]
    clear hl hr
    go_wp2_with fail
    go_ret
    exact HE.out
  · by_cases hr : rightB xs = true
    · have t1 : decide (xs.length ≤ most) = false := by
        have : ¬ xs.length ≤ most := fun e => hg ⟨hr, e⟩
        simp; omega
      rw [hr]
      clear hr hg
      go_wp2_with fail
      have hown0 : LR (w1.alloc (.cells #[] 62)) w.heap.size (.slice (some ⟨w1.heap.size, 0, none⟩) 0 0) [] := World.ownsRow_made (base := w.heap.size) (e := 62) (size := 3) w1 #[] 0 hb1.size (by unfold maxLen; omega) rfl
      have HOWN0 := mkHid hown0
      have HMI0 := mkHid (MadeI.start hm1)
      have hb2 := hb1.new (.cells #[] 62)
      clear hown0
      go_loopw [5, 6, 7] (fun v nd i wr => ∃ (n : Nat) (out : List Cel) (g capo : Nat), nd = .int .i64 n ∧ i = .int .i64 out.length ∧ v = .slice (some ⟨g, 0, none⟩) out.length capo ∧ Hid (MadeI most n out) ∧ Hid (LR wr w.heap.size (.slice (some ⟨g, 0, none⟩) out.length capo) out) ∧ Below w.heap.size w wr ∧ out.length + n ≤ most) (fun v nd i wr => most - (intOf i).toNat)
      case atStart => exact ⟨1, [], w1.heap.size, 0, rfl, rfl, rfl, HMI0, HOWN0, hb2, by simpa using hm1⟩
      case round =>
        clear HOWN0 HMI0 hb2
        obtain ⟨n, out, g, capo, rfl, rfl, rfl, HMI, HLR, hbl, hrm⟩ := hrel
        cases n with
        | zero =>
          have HE : Hid (∃ a' cap' ys, Ending.returned (.slice (some ⟨g, 0, none⟩) out.length capo) = .returned (.slice a' ys.length cap') ∧ MadeAt w a cap xs wr a' cap' ys ∧ rightB ys = true ∧ ys.length ≤ most ∧ Below w.heap.size w wr) := by
            obtain ⟨q1, q2⟩ := HMI.out.done hm2
            obtain ⟨a5, cap5, e5, hr5⟩ := own_new (xs := out) HLR.out HMI.out.fit
            cases e5
            exact ⟨_, _, out, rfl, .inr hr5, q1, q2, hbl⟩
          go_wp2_with fail
          go_ret
          exact HE.out
        | succ m =>
          by_cases hlt : out.length < xs.length
          · obtain ⟨b, off, rfl, hb', hat⟩ := HX.out.cases.resolve_left (fun e => by simp [e] at hlt)
            obtain ⟨c0, c1, c2, hf⟩ := cel_at hat hbl hlt
            obtain ⟨k1, k2⟩ := mask xs[out.length].k 3 (by omega)
            obtain ⟨m1, m2⟩ := mask xs[out.length].n 65535 (by omega)
            obtain ⟨n1, n2⟩ := mask xs[out.length].n 3 (by omega)
            rw [show ((3 : Nat) : Int) = 3 from rfl] at k1 k2 n1 n2
            rw [show ((65535 : Nat) : Int) = 65535 from rfl] at m1 m2
            have t27 : decide ((out.length : Int) < (xs.length : Int)) = true := by simp; omega
            have t27n : decide (out.length < xs.length) = true := by simp; omega
            have hbw := cell_lt c0
            have hk0 : (0 : Int) ≤ (out.length : Int) := by omega
            have hk1 : (out.length : Int) < (xs.length : Int) := by omega
            have hb3 := hbl.new (.cells #[.int .i64 3, .string ⟨#[91, 93]⟩, .int .i64 0] 62)
            have HLR3 : Hid (LR (wr.alloc (.cells #[.int .i64 3, .string ⟨#[91, 93]⟩, .int .i64 0] 62)) w.heap.size (.slice (some ⟨g, 0, none⟩) out.length capo) out) := World.ownsRow.alloc HLR.out _
            generalize hkk : bits .and .i64 xs[out.length].k 3 = kk at k1 k2
            generalize hm7 : bits .and .i64 xs[out.length].n 65535 = v7 at m1 m2
            generalize hn3 : bits .and .i64 xs[out.length].n 3 = v3 at n1 n2
            by_cases h1 : kk = 1
            · have t35 : (kk == 1) = true := by simp [h1]
              have hv7 : 0 ≤ v7 % 1000 ∧ v7 % 1000 ≤ 999 := by omega
              obtain ⟨q1, q2⟩ := vcel_ok (v7 % 1000) hv7
              have HN := mkHid (HMI.out.snoc q1 q2 (by show out.length + (m + 1) + 0 ≤ most; omega))
              clear h1 q1 q2
              have hb4 := hbl.new (.cells #[.int .i64 1, .string ⟨#[]⟩, .int .i64 (v7 % 1000)] 62)
              have HLR4 : Hid (LR (wr.alloc (.cells #[.int .i64 1, .string ⟨#[]⟩, .int .i64 (v7 % 1000)] 62)) w.heap.size (.slice (some ⟨g, 0, none⟩) out.length capo) out) := World.ownsRow.alloc HLR.out _
              go_wp2_with (at_builtin; refine wpList_lay rfl _ _ rfl w.heap.size _ out (⟨1, ⟨#[]⟩, v7 % 1000⟩ : Cel) HLR4.out rfl (by simp only [World.size_alloc]; rfl) hb4.size (by omega) ?_; intro v2 w2 h1 h2 h3; obtain ⟨g2, cap2, rfl⟩ := h3)
              go_round
              case rel => exact ⟨m + ar (⟨1, ⟨#[]⟩, v7 % 1000⟩ : Cel), out ++ [(⟨1, ⟨#[]⟩, v7 % 1000⟩ : Cel)], g2, cap2, by go_num, by simp, by simp, HN.out, by rw [Hid, List.length_append]; exact h1, hb4.trans h2, HN.out.room⟩
              case measure => simp [intOf]; omega
            · have t35 : (kk == 1) = false := by simp [h1]
              by_cases h2 : kk = 2
              · have t55 : (kk == 2) = true := by simp [h2]
                obtain ⟨q1, q2⟩ := ncel_ok (v7 - 30000) (by omega)
                have HN := mkHid (HMI.out.snoc q1 q2 (by show out.length + (m + 1) + 0 ≤ most; omega))
                clear h1 h2 q1 q2
                have hb4 := hbl.new (.cells #[.int .i64 2, .string ⟨#[]⟩, .int .i64 (v7 - 30000)] 62)
                have HLR4 : Hid (LR (wr.alloc (.cells #[.int .i64 2, .string ⟨#[]⟩, .int .i64 (v7 - 30000)] 62)) w.heap.size (.slice (some ⟨g, 0, none⟩) out.length capo) out) := World.ownsRow.alloc HLR.out _
                go_wp2_with (at_builtin; refine wpList_lay rfl _ _ rfl w.heap.size _ out (⟨2, ⟨#[]⟩, v7 - 30000⟩ : Cel) HLR4.out rfl (by simp only [World.size_alloc]; rfl) hb4.size (by omega) ?_; intro v2 w2 h1 h2 h3; obtain ⟨g2, cap2, rfl⟩ := h3)
                go_round
                case rel => exact ⟨m + ar (⟨2, ⟨#[]⟩, v7 - 30000⟩ : Cel), out ++ [(⟨2, ⟨#[]⟩, v7 - 30000⟩ : Cel)], g2, cap2, by go_num, by simp, by simp, HN.out, by rw [Hid, List.length_append]; exact h1, hb4.trans h2, HN.out.room⟩
                case measure => simp [intOf]; omega
              · have t55 : (kk == 2) = false := by simp [h2]
                clear h1 h2
                by_cases hro : (out.length : Int) + ((m : Int) + 1) + v3 ≤ (most : Int)
                · have t81 : decide ((out.length : Int) + ((m : Int) + 1) + v3 ≤ (most : Int)) = true := by simp; omega
                  have HKS : Hid (∀ w', Below wr.heap.size wr w' → w'.cell? ⟨b, off + out.length * 3 + 1, none⟩ = some (.string xs[out.length].s) ∧ w'.cell? ⟨b, off + out.length * 3 + 2, none⟩ = some (.int .i64 xs[out.length].n)) := fun w' h => ⟨keep c1 h, keep c2 h⟩
                  have HB0 : Hid (Below wr.heap.size wr (wr.alloc (.cells #[.int .i64 3, .string ⟨#[91, 93]⟩, .int .i64 0] 62)).drew) := ((Below.refl _ _).new _).drew
                  have hk0b : (wr.alloc (.cells #[.int .i64 3, .string ⟨#[91, 93]⟩, .int .i64 0] 62)).drew.heap[wr.heap.size]? = some (.cells #[.int .i64 3, .string ⟨#[91, 93]⟩, .int .i64 0] 62) := heap_alloc_new wr _
                  have hszd : wr.heap.size < (wr.alloc (.cells #[.int .i64 3, .string ⟨#[91, 93]⟩, .int .i64 0] 62)).drew.heap.size := by show wr.heap.size < (wr.alloc _).heap.size; simp
                  have hro2 : out.length + (m + 1) + v3.toNat ≤ most := by omega
                  clear hro
                  have HK0 := mkHid hk0b
                  clear hk0b
                  go_wp2_with fail
                  refine wp_region_noPanic ?_
                  refine wp_region_held_drew (S := (fun w' : World => w'.cell? ⟨b, off + out.length * 3 + 1, none⟩ = some (.string xs[out.length].s) ∧ w'.cell? ⟨b, off + out.length * 3 + 2, none⟩ = some (.int .i64 xs[out.length].n))) (by kernel_rfl) (HKS.out _ HB0.out) (fun hSd => ?_)
                  refine wpAnyH_take (i := 0) (oi := _) (v := ?_) rfl (by kernel_rfl) (by kernel_rfl) (by kernel_rfl) (fun _ _ _ h => h) (Or.inl ⟨by rfl, ?_⟩) (by assumption) ?_
                  rotate_left
                  · (intro w' hSw; (try dsimp only at hSw); go_simp; try with_reducible rfl)
                  (try simp only [Act.put, List.setIfInBounds_toArray, List.set_cons_zero, List.set_cons_succ])
                  refine wpAnyH_take (i := 1) (oi := _) (v := ?_) rfl (by kernel_rfl) (by kernel_rfl) (by kernel_rfl) (fun _ _ _ h => h) (Or.inl ⟨by rfl, ?_⟩) (by assumption) ?_
                  rotate_left
                  · (intro w' hSw; (try dsimp only at hSw); go_simp; try with_reducible rfl)
                  (try simp only [Act.put, List.setIfInBounds_toArray, List.set_cons_zero, List.set_cons_succ])
                  refine wpAnyH_take (i := 2) (oi := _) (v := ?_) rfl (by kernel_rfl) (by kernel_rfl) (by kernel_rfl) (fun _ _ _ h => h) (Or.inl ⟨by rfl, ?_⟩) (by assumption) ?_
                  rotate_left
                  · (intro w' hSw; (try dsimp only at hSw); go_simp; try with_reducible rfl)
                  (try simp only [Act.put, List.setIfInBounds_toArray, List.set_cons_zero, List.set_cons_succ])
                  refine wpAnyH_take (i := 3) (oi := _) (v := ?_) rfl (by kernel_rfl) (by kernel_rfl) (by kernel_rfl) (fun _ _ _ h => h) (Or.inl ⟨by rfl, ?_⟩) (by assumption) ?_
                  rotate_left
                  · (intro w' hSw; (try dsimp only at hSw); go_simp; try with_reducible rfl)
                  (try simp only [Act.put, List.setIfInBounds_toArray, List.set_cons_zero, List.set_cons_succ])
                  refine wpAnyH_take (i := 4) (oi := _) (v := ?_) rfl (by kernel_rfl) (by kernel_rfl) (by kernel_rfl) (fun _ _ _ h => h) (Or.inl ⟨by rfl, ?_⟩) (by assumption) ?_
                  rotate_left
                  · (intro w' hSw; (try dsimp only at hSw); go_simp; try with_reducible rfl)
                  (try simp only [Act.put, List.setIfInBounds_toArray, List.set_cons_zero, List.set_cons_succ])
                  refine wpAnyH_take (i := 6) (oi := _) (v := ?_) rfl (by kernel_rfl) (by kernel_rfl) (by kernel_rfl) (fun _ _ _ h => h) (Or.inl ⟨by rfl, ?_⟩) (by assumption) ?_
                  rotate_left
                  · (intro w' hSw; (try dsimp only at hSw); go_simp; try with_reducible rfl)
                  (try simp only [Act.put, List.setIfInBounds_toArray, List.set_cons_zero, List.set_cons_succ])
                  refine wpAnyH_take (i := 7) (oi := _) (v := ?_) rfl (by kernel_rfl) (by kernel_rfl) (by kernel_rfl) (fun _ _ _ h => h) (Or.inl ⟨by rfl, ?_⟩) (by assumption) ?_
                  rotate_left
                  · (intro w' hSw; (try dsimp only at hSw); go_simp; try with_reducible rfl)
                  (try simp only [Act.put, List.setIfInBounds_toArray, List.set_cons_zero, List.set_cons_succ])
                  refine wpAnyH_take (i := 8) (oi := _) (v := ?_) rfl (by kernel_rfl) (by kernel_rfl) (by kernel_rfl) (fun _ _ _ h => h) (Or.inl ⟨by rfl, ?_⟩) (by assumption) ?_
                  rotate_left
                  · (intro w' hSw; (try dsimp only at hSw); go_simp; try with_reducible rfl)
                  (try simp only [Act.put, List.setIfInBounds_toArray, List.set_cons_zero, List.set_cons_succ])
                  refine wpAnyH_take (i := 9) (oi := _) (v := ?_) rfl (by kernel_rfl) (by kernel_rfl) (by kernel_rfl) (fun _ _ _ h => h) (Or.inl ⟨by rfl, ?_⟩) (by assumption) ?_
                  rotate_left
                  · (intro w' hSw; (try dsimp only at hSw); go_simp; try with_reducible rfl)
                  (try simp only [Act.put, List.setIfInBounds_toArray, List.set_cons_zero, List.set_cons_succ])
                  refine wpAnyH_take (i := 10) (oi := _) (v := ?_) rfl (by kernel_rfl) (by kernel_rfl) (by kernel_rfl) (fun _ _ _ h => h) (Or.inl ⟨by rfl, ?_⟩) (by assumption) ?_
                  rotate_left
                  · (intro w' hSw; (try dsimp only at hSw); go_simp; try with_reducible rfl)
                  (try simp only [Act.put, List.setIfInBounds_toArray, List.set_cons_zero, List.set_cons_succ])
                  refine wpAnyH_take (i := 11) (oi := _) (v := ?_) rfl (by kernel_rfl) (by kernel_rfl) (by kernel_rfl) (fun _ _ _ h => h) (Or.inl ⟨by rfl, ?_⟩) (by assumption) ?_
                  rotate_left
                  · (intro w' hSw; (try dsimp only at hSw); go_simp; try with_reducible rfl)
                  (try simp only [Act.put, List.setIfInBounds_toArray, List.set_cons_zero, List.set_cons_succ])
                  refine wpAnyH_ready (rs := [5]) (by kernel_rfl) (by simp) ?_
                  refine AllReadyH.cons (o := _) rfl (fun Kq hKq => ?_) AllReadyH.nil
                  go_simp
                  refine (rname_any _ _).mono ?_
                  rintro e V1 ⟨rfl, hq1⟩
                  have hc1 := HB0.out.then hq1
                  have hv1 : V1.heap[wr.heap.size]? = some (.cells #[.int .i64 3, .string ⟨#[91, 93]⟩, .int .i64 0] 62) := (hq1.block _ hszd).trans HK0.out
                  obtain ⟨tn, htn⟩ : ∃ tn, tn = tx (nameMade xs[out.length].s.data.toList) := ⟨_, rfl⟩
                  rw [← htn]
                  have htok : nameOk tn = true := by rw [htn]; exact nameMade_ok _
                  have htsz : tn.size ≤ 12 := by rw [htn, tx_size]; exact (nameMade_len _).2
                  clear htn
                  try dsimp only
                  refine hKq.out _ _ (HKS.out _ hc1) (fun _ => ?_)
                  clear hKq Kq
                  (try simp only [Act.put, List.setIfInBounds_toArray, List.set_cons_zero, List.set_cons_succ])
                  have e0 : V1.cell? ⟨wr.heap.size, 0, none⟩ = some (.int .i64 3) := by rw [Lib.cell_of_heap hv1]; rfl
                  have e1 : V1.cell? ⟨wr.heap.size, 1, none⟩ = some (.string ⟨#[91, 93]⟩) := by rw [Lib.cell_of_heap hv1]; rfl
                  have e2 : V1.cell? ⟨wr.heap.size, 2, none⟩ = some (.int .i64 0) := by rw [Lib.cell_of_heap hv1]; rfl
                  have f0 : ∀ i, V1.frozen? ⟨wr.heap.size, i, none⟩ = false := fun i => Lib.frozen_of_heap hv1 i
                  have hF0 := f0 0
                  have hF1 := f0 1
                  have hF2 := f0 2
                  have HV1 := mkHid hv1
                  have HC1 := mkHid hc1
                  clear f0 hv1 hq1 hszd
                  refine wpAnyH_take (i := 12) (oi := _) (v := ?_) rfl (by kernel_rfl) (by kernel_rfl) (by kernel_rfl) (fun _ _ _ h => h) (Or.inl ⟨by rfl, ?_⟩) (by assumption) ?_
                  rotate_left
                  · (intro w' hSw; (try dsimp only at hSw); go_simp; try with_reducible rfl)
                  (try simp only [Act.put, List.setIfInBounds_toArray, List.set_cons_zero, List.set_cons_succ])
                  refine wpAnyH_ready (rs := [13]) (by kernel_rfl) (by simp) ?_
                  refine AllReadyH.cons (o := _) rfl (fun Kq hKq => ?_) AllReadyH.nil
                  go_simp
                  have hc2 := ((HC1.out.setCell (p := ⟨wr.heap.size, 0, none⟩) (Nat.le_refl _) (.int .i64 3)).setCell (p := ⟨wr.heap.size, 1, none⟩) (Nat.le_refl _) (.string tn)).setCell (p := ⟨wr.heap.size, 2, none⟩) (Nat.le_refl _) (.int .i64 v3)
                  try dsimp only
                  refine hKq.out _ _ (HKS.out _ hc2) (fun _ => ?_)
                  clear hKq Kq
                  (try simp only [Act.put, List.setIfInBounds_toArray, List.set_cons_zero, List.set_cons_succ])
                  refine wpAnyH_done (by kernel_rfl) (NoPanic.normal ?_) _
                  have hv5 : (((V1.setCell ⟨wr.heap.size, 0, none⟩ (.int .i64 3)).setCell ⟨wr.heap.size, 1, none⟩ (.string tn)).setCell ⟨wr.heap.size, 2, none⟩ (.int .i64 v3)).heap[wr.heap.size]? = some (.cells #[.int .i64 3, .string tn, .int .i64 v3] 62) := by
                    simp only [World.setCell, Array.getElem?_modify, if_true, HV1.out, Option.map_some]
                    simp
                  generalize ((V1.setCell ⟨wr.heap.size, 0, none⟩ (.int .i64 3)).setCell ⟨wr.heap.size, 1, none⟩ (.string tn)).setCell ⟨wr.heap.size, 2, none⟩ (.int .i64 v3) = W5 at *
                  have z0 : W5.cell? ⟨wr.heap.size, 0, none⟩ = some (.int .i64 3) := by rw [Lib.cell_of_heap hv5]; rfl
                  have z1 : W5.cell? ⟨wr.heap.size, 1, none⟩ = some (.string tn) := by rw [Lib.cell_of_heap hv5]; rfl
                  have z2 : W5.cell? ⟨wr.heap.size, 2, none⟩ = some (.int .i64 v3) := by rw [Lib.cell_of_heap hv5]; rfl
                  have hl5 := cell_lt z0
                  have hb4 : Below w.heap.size w W5 := hbl.then hc2
                  have HLR5 : Hid (LR W5 w.heap.size (.slice (some ⟨g, 0, none⟩) out.length capo) out) := own_belowA HLR.out hc2
                  obtain ⟨q1, q2⟩ := fcel_ok tn htok htsz v3 ⟨n1, n2⟩
                  have HN := mkHid (HMI.out.snoc q1 q2 (by show out.length + (m + 1) + v3.toNat ≤ most; exact hro2))
                  clear hv5 q1 q2 htok hc2 e0 e1 e2 hF0 hF1 hF2
                  go_wp2_with (at_builtin; refine wpList_lay rfl _ _ rfl w.heap.size _ out (⟨3, tn, v3⟩ : Cel) HLR5.out rfl rfl hb4.size (by omega) ?_; intro v2 w2 h1 h2 h3; obtain ⟨g2, cap2, rfl⟩ := h3)
                  go_round
                  case rel => exact ⟨m + ar (⟨3, tn, v3⟩ : Cel), out ++ [(⟨3, tn, v3⟩ : Cel)], g2, cap2, (by show Value.int .i64 _ = Value.int .i64 ((m + v3.toNat : Nat) : Int); congr 1; omega), by simp, by simp, HN.out, by rw [Hid, List.length_append]; exact h1, hb4.trans h2, HN.out.room⟩
                  case measure => simp [intOf]; omega
                · have t81 : decide ((out.length : Int) + ((m : Int) + 1) + v3 ≤ (most : Int)) = false := by simp; omega
                  have HN := mkHid (HMI.out.snoc nilC_ok nilC_fit (by show out.length + (m + 1) + 0 ≤ most; omega))
                  clear hro
                  have hb4 := hbl.new (.cells #[.int .i64 3, .string ⟨#[91, 93]⟩, .int .i64 0] 62)
                  have HLR4 : Hid (LR (wr.alloc (.cells #[.int .i64 3, .string ⟨#[91, 93]⟩, .int .i64 0] 62)) w.heap.size (.slice (some ⟨g, 0, none⟩) out.length capo) out) := World.ownsRow.alloc HLR.out _
                  go_wp2_with (at_builtin; refine wpList_lay rfl _ _ rfl w.heap.size _ out nilC HLR4.out rfl (by simp only [World.size_alloc]; rfl) hb4.size (by omega) ?_; intro v2 w2 h1 h2 h3; obtain ⟨g2, cap2, rfl⟩ := h3)
                  go_round
                  case rel => exact ⟨m + ar nilC, out ++ [nilC], g2, cap2, by go_num, by simp, by simp, HN.out, by rw [Hid, List.length_append]; exact h1, hb4.trans h2, HN.out.room⟩
                  case measure => simp [intOf]; omega
          · have t27 : decide ((out.length : Int) < (xs.length : Int)) = false := by simp; omega
            have t27n : decide (out.length < xs.length) = false := by simp; omega
            have HN := mkHid (HMI.out.snoc nilC_ok nilC_fit (by show out.length + (m + 1) + 0 ≤ most; omega))
            clear hlt
            have hb3 := hbl.new (.cells #[.int .i64 3, .string ⟨#[91, 93]⟩, .int .i64 0] 62)
            have HLR3 : Hid (LR (wr.alloc (.cells #[.int .i64 3, .string ⟨#[91, 93]⟩, .int .i64 0] 62)) w.heap.size (.slice (some ⟨g, 0, none⟩) out.length capo) out) := World.ownsRow.alloc HLR.out _
            go_wp2_with (at_builtin; refine wpList_lay rfl _ _ rfl w.heap.size _ out nilC HLR3.out rfl (by simp only [World.size_alloc]; rfl) hb3.size (by omega) ?_; intro v2 w2 h1 h2 h3; obtain ⟨g2, cap2, rfl⟩ := h3)
            go_round
            case rel => exact ⟨m + ar nilC, out ++ [nilC], g2, cap2, by go_num, by simp, by simp, HN.out, by rw [Hid, List.length_append]; exact h1, hb3.trans h2, HN.out.room⟩
            case measure => simp [intOf]; omega
    · have hr' : rightB xs = false := by simpa using hr
      rw [hr']
      clear hr hg hr'
      go_wp2_with fail
      have hown0 : LR (w1.alloc (.cells #[] 62)) w.heap.size (.slice (some ⟨w1.heap.size, 0, none⟩) 0 0) [] := World.ownsRow_made (base := w.heap.size) (e := 62) (size := 3) w1 #[] 0 hb1.size (by unfold maxLen; omega) rfl
      have HOWN0 := mkHid hown0
      have HMI0 := mkHid (MadeI.start hm1)
      have hb2 := hb1.new (.cells #[] 62)
      clear hown0
      go_loopw [5, 6, 7] (fun v nd i wr => ∃ (n : Nat) (out : List Cel) (g capo : Nat), nd = .int .i64 n ∧ i = .int .i64 out.length ∧ v = .slice (some ⟨g, 0, none⟩) out.length capo ∧ Hid (MadeI most n out) ∧ Hid (LR wr w.heap.size (.slice (some ⟨g, 0, none⟩) out.length capo) out) ∧ Below w.heap.size w wr ∧ out.length + n ≤ most) (fun v nd i wr => most - (intOf i).toNat)
      case atStart => exact ⟨1, [], w1.heap.size, 0, rfl, rfl, rfl, HMI0, HOWN0, hb2, by simpa using hm1⟩
      case round =>
        clear HOWN0 HMI0 hb2
        obtain ⟨n, out, g, capo, rfl, rfl, rfl, HMI, HLR, hbl, hrm⟩ := hrel
        cases n with
        | zero =>
          have HE : Hid (∃ a' cap' ys, Ending.returned (.slice (some ⟨g, 0, none⟩) out.length capo) = .returned (.slice a' ys.length cap') ∧ MadeAt w a cap xs wr a' cap' ys ∧ rightB ys = true ∧ ys.length ≤ most ∧ Below w.heap.size w wr) := by
            obtain ⟨q1, q2⟩ := HMI.out.done hm2
            obtain ⟨a5, cap5, e5, hr5⟩ := own_new (xs := out) HLR.out HMI.out.fit
            cases e5
            exact ⟨_, _, out, rfl, .inr hr5, q1, q2, hbl⟩
          go_wp2_with fail
          go_ret
          exact HE.out
        | succ m =>
          by_cases hlt : out.length < xs.length
          · obtain ⟨b, off, rfl, hb', hat⟩ := HX.out.cases.resolve_left (fun e => by simp [e] at hlt)
            obtain ⟨c0, c1, c2, hf⟩ := cel_at hat hbl hlt
            obtain ⟨k1, k2⟩ := mask xs[out.length].k 3 (by omega)
            obtain ⟨m1, m2⟩ := mask xs[out.length].n 65535 (by omega)
            obtain ⟨n1, n2⟩ := mask xs[out.length].n 3 (by omega)
            rw [show ((3 : Nat) : Int) = 3 from rfl] at k1 k2 n1 n2
            rw [show ((65535 : Nat) : Int) = 65535 from rfl] at m1 m2
            have t27 : decide ((out.length : Int) < (xs.length : Int)) = true := by simp; omega
            have t27n : decide (out.length < xs.length) = true := by simp; omega
            have hbw := cell_lt c0
            have hk0 : (0 : Int) ≤ (out.length : Int) := by omega
            have hk1 : (out.length : Int) < (xs.length : Int) := by omega
            have hb3 := hbl.new (.cells #[.int .i64 3, .string ⟨#[91, 93]⟩, .int .i64 0] 62)
            have HLR3 : Hid (LR (wr.alloc (.cells #[.int .i64 3, .string ⟨#[91, 93]⟩, .int .i64 0] 62)) w.heap.size (.slice (some ⟨g, 0, none⟩) out.length capo) out) := World.ownsRow.alloc HLR.out _
            generalize hkk : bits .and .i64 xs[out.length].k 3 = kk at k1 k2
            generalize hm7 : bits .and .i64 xs[out.length].n 65535 = v7 at m1 m2
            generalize hn3 : bits .and .i64 xs[out.length].n 3 = v3 at n1 n2
            by_cases h1 : kk = 1
            · have t35 : (kk == 1) = true := by simp [h1]
              have hv7 : 0 ≤ v7 % 1000 ∧ v7 % 1000 ≤ 999 := by omega
              obtain ⟨q1, q2⟩ := vcel_ok (v7 % 1000) hv7
              have HN := mkHid (HMI.out.snoc q1 q2 (by show out.length + (m + 1) + 0 ≤ most; omega))
              clear h1 q1 q2
              have hb4 := hbl.new (.cells #[.int .i64 1, .string ⟨#[]⟩, .int .i64 (v7 % 1000)] 62)
              have HLR4 : Hid (LR (wr.alloc (.cells #[.int .i64 1, .string ⟨#[]⟩, .int .i64 (v7 % 1000)] 62)) w.heap.size (.slice (some ⟨g, 0, none⟩) out.length capo) out) := World.ownsRow.alloc HLR.out _
              go_wp2_with (at_builtin; refine wpList_lay rfl _ _ rfl w.heap.size _ out (⟨1, ⟨#[]⟩, v7 % 1000⟩ : Cel) HLR4.out rfl (by simp only [World.size_alloc]; rfl) hb4.size (by omega) ?_; intro v2 w2 h1 h2 h3; obtain ⟨g2, cap2, rfl⟩ := h3)
              go_round
              case rel => exact ⟨m + ar (⟨1, ⟨#[]⟩, v7 % 1000⟩ : Cel), out ++ [(⟨1, ⟨#[]⟩, v7 % 1000⟩ : Cel)], g2, cap2, by go_num, by simp, by simp, HN.out, by rw [Hid, List.length_append]; exact h1, hb4.trans h2, HN.out.room⟩
              case measure => simp [intOf]; omega
            · have t35 : (kk == 1) = false := by simp [h1]
              by_cases h2 : kk = 2
              · have t55 : (kk == 2) = true := by simp [h2]
                obtain ⟨q1, q2⟩ := ncel_ok (v7 - 30000) (by omega)
                have HN := mkHid (HMI.out.snoc q1 q2 (by show out.length + (m + 1) + 0 ≤ most; omega))
                clear h1 h2 q1 q2
                have hb4 := hbl.new (.cells #[.int .i64 2, .string ⟨#[]⟩, .int .i64 (v7 - 30000)] 62)
                have HLR4 : Hid (LR (wr.alloc (.cells #[.int .i64 2, .string ⟨#[]⟩, .int .i64 (v7 - 30000)] 62)) w.heap.size (.slice (some ⟨g, 0, none⟩) out.length capo) out) := World.ownsRow.alloc HLR.out _
                go_wp2_with (at_builtin; refine wpList_lay rfl _ _ rfl w.heap.size _ out (⟨2, ⟨#[]⟩, v7 - 30000⟩ : Cel) HLR4.out rfl (by simp only [World.size_alloc]; rfl) hb4.size (by omega) ?_; intro v2 w2 h1 h2 h3; obtain ⟨g2, cap2, rfl⟩ := h3)
                go_round
                case rel => exact ⟨m + ar (⟨2, ⟨#[]⟩, v7 - 30000⟩ : Cel), out ++ [(⟨2, ⟨#[]⟩, v7 - 30000⟩ : Cel)], g2, cap2, by go_num, by simp, by simp, HN.out, by rw [Hid, List.length_append]; exact h1, hb4.trans h2, HN.out.room⟩
                case measure => simp [intOf]; omega
              · have t55 : (kk == 2) = false := by simp [h2]
                clear h1 h2
                by_cases hro : (out.length : Int) + ((m : Int) + 1) + v3 ≤ (most : Int)
                · have t81 : decide ((out.length : Int) + ((m : Int) + 1) + v3 ≤ (most : Int)) = true := by simp; omega
                  have HKS : Hid (∀ w', Below wr.heap.size wr w' → w'.cell? ⟨b, off + out.length * 3 + 1, none⟩ = some (.string xs[out.length].s) ∧ w'.cell? ⟨b, off + out.length * 3 + 2, none⟩ = some (.int .i64 xs[out.length].n)) := fun w' h => ⟨keep c1 h, keep c2 h⟩
                  have HB0 : Hid (Below wr.heap.size wr (wr.alloc (.cells #[.int .i64 3, .string ⟨#[91, 93]⟩, .int .i64 0] 62)).drew) := ((Below.refl _ _).new _).drew
                  have hk0b : (wr.alloc (.cells #[.int .i64 3, .string ⟨#[91, 93]⟩, .int .i64 0] 62)).drew.heap[wr.heap.size]? = some (.cells #[.int .i64 3, .string ⟨#[91, 93]⟩, .int .i64 0] 62) := heap_alloc_new wr _
                  have hszd : wr.heap.size < (wr.alloc (.cells #[.int .i64 3, .string ⟨#[91, 93]⟩, .int .i64 0] 62)).drew.heap.size := by show wr.heap.size < (wr.alloc _).heap.size; simp
                  have hro2 : out.length + (m + 1) + v3.toNat ≤ most := by omega
                  clear hro
                  have HK0 := mkHid hk0b
                  clear hk0b
                  go_wp2_with fail
                  refine wp_region_noPanic ?_
                  refine wp_region_held_drew (S := (fun w' : World => w'.cell? ⟨b, off + out.length * 3 + 1, none⟩ = some (.string xs[out.length].s) ∧ w'.cell? ⟨b, off + out.length * 3 + 2, none⟩ = some (.int .i64 xs[out.length].n))) (by kernel_rfl) (HKS.out _ HB0.out) (fun hSd => ?_)
                  refine wpAnyH_take (i := 0) (oi := _) (v := ?_) rfl (by kernel_rfl) (by kernel_rfl) (by kernel_rfl) (fun _ _ _ h => h) (Or.inl ⟨by rfl, ?_⟩) (by assumption) ?_
                  rotate_left
                  · (intro w' hSw; (try dsimp only at hSw); go_simp; try with_reducible rfl)
                  (try simp only [Act.put, List.setIfInBounds_toArray, List.set_cons_zero, List.set_cons_succ])
                  refine wpAnyH_take (i := 1) (oi := _) (v := ?_) rfl (by kernel_rfl) (by kernel_rfl) (by kernel_rfl) (fun _ _ _ h => h) (Or.inl ⟨by rfl, ?_⟩) (by assumption) ?_
                  rotate_left
                  · (intro w' hSw; (try dsimp only at hSw); go_simp; try with_reducible rfl)
                  (try simp only [Act.put, List.setIfInBounds_toArray, List.set_cons_zero, List.set_cons_succ])
                  refine wpAnyH_take (i := 2) (oi := _) (v := ?_) rfl (by kernel_rfl) (by kernel_rfl) (by kernel_rfl) (fun _ _ _ h => h) (Or.inl ⟨by rfl, ?_⟩) (by assumption) ?_
                  rotate_left
                  · (intro w' hSw; (try dsimp only at hSw); go_simp; try with_reducible rfl)
                  (try simp only [Act.put, List.setIfInBounds_toArray, List.set_cons_zero, List.set_cons_succ])
                  refine wpAnyH_take (i := 3) (oi := _) (v := ?_) rfl (by kernel_rfl) (by kernel_rfl) (by kernel_rfl) (fun _ _ _ h => h) (Or.inl ⟨by rfl, ?_⟩) (by assumption) ?_
                  rotate_left
                  · (intro w' hSw; (try dsimp only at hSw); go_simp; try with_reducible rfl)
                  (try simp only [Act.put, List.setIfInBounds_toArray, List.set_cons_zero, List.set_cons_succ])
                  refine wpAnyH_take (i := 4) (oi := _) (v := ?_) rfl (by kernel_rfl) (by kernel_rfl) (by kernel_rfl) (fun _ _ _ h => h) (Or.inl ⟨by rfl, ?_⟩) (by assumption) ?_
                  rotate_left
                  · (intro w' hSw; (try dsimp only at hSw); go_simp; try with_reducible rfl)
                  (try simp only [Act.put, List.setIfInBounds_toArray, List.set_cons_zero, List.set_cons_succ])
                  refine wpAnyH_take (i := 6) (oi := _) (v := ?_) rfl (by kernel_rfl) (by kernel_rfl) (by kernel_rfl) (fun _ _ _ h => h) (Or.inl ⟨by rfl, ?_⟩) (by assumption) ?_
                  rotate_left
                  · (intro w' hSw; (try dsimp only at hSw); go_simp; try with_reducible rfl)
                  (try simp only [Act.put, List.setIfInBounds_toArray, List.set_cons_zero, List.set_cons_succ])
                  refine wpAnyH_take (i := 7) (oi := _) (v := ?_) rfl (by kernel_rfl) (by kernel_rfl) (by kernel_rfl) (fun _ _ _ h => h) (Or.inl ⟨by rfl, ?_⟩) (by assumption) ?_
                  rotate_left
                  · (intro w' hSw; (try dsimp only at hSw); go_simp; try with_reducible rfl)
                  (try simp only [Act.put, List.setIfInBounds_toArray, List.set_cons_zero, List.set_cons_succ])
                  refine wpAnyH_take (i := 8) (oi := _) (v := ?_) rfl (by kernel_rfl) (by kernel_rfl) (by kernel_rfl) (fun _ _ _ h => h) (Or.inl ⟨by rfl, ?_⟩) (by assumption) ?_
                  rotate_left
                  · (intro w' hSw; (try dsimp only at hSw); go_simp; try with_reducible rfl)
                  (try simp only [Act.put, List.setIfInBounds_toArray, List.set_cons_zero, List.set_cons_succ])
                  refine wpAnyH_take (i := 9) (oi := _) (v := ?_) rfl (by kernel_rfl) (by kernel_rfl) (by kernel_rfl) (fun _ _ _ h => h) (Or.inl ⟨by rfl, ?_⟩) (by assumption) ?_
                  rotate_left
                  · (intro w' hSw; (try dsimp only at hSw); go_simp; try with_reducible rfl)
                  (try simp only [Act.put, List.setIfInBounds_toArray, List.set_cons_zero, List.set_cons_succ])
                  refine wpAnyH_take (i := 10) (oi := _) (v := ?_) rfl (by kernel_rfl) (by kernel_rfl) (by kernel_rfl) (fun _ _ _ h => h) (Or.inl ⟨by rfl, ?_⟩) (by assumption) ?_
                  rotate_left
                  · (intro w' hSw; (try dsimp only at hSw); go_simp; try with_reducible rfl)
                  (try simp only [Act.put, List.setIfInBounds_toArray, List.set_cons_zero, List.set_cons_succ])
                  refine wpAnyH_take (i := 11) (oi := _) (v := ?_) rfl (by kernel_rfl) (by kernel_rfl) (by kernel_rfl) (fun _ _ _ h => h) (Or.inl ⟨by rfl, ?_⟩) (by assumption) ?_
                  rotate_left
                  · (intro w' hSw; (try dsimp only at hSw); go_simp; try with_reducible rfl)
                  (try simp only [Act.put, List.setIfInBounds_toArray, List.set_cons_zero, List.set_cons_succ])
                  refine wpAnyH_ready (rs := [5]) (by kernel_rfl) (by simp) ?_
                  refine AllReadyH.cons (o := _) rfl (fun Kq hKq => ?_) AllReadyH.nil
                  go_simp
                  refine (rname_any _ _).mono ?_
                  rintro e V1 ⟨rfl, hq1⟩
                  have hc1 := HB0.out.then hq1
                  have hv1 : V1.heap[wr.heap.size]? = some (.cells #[.int .i64 3, .string ⟨#[91, 93]⟩, .int .i64 0] 62) := (hq1.block _ hszd).trans HK0.out
                  obtain ⟨tn, htn⟩ : ∃ tn, tn = tx (nameMade xs[out.length].s.data.toList) := ⟨_, rfl⟩
                  rw [← htn]
                  have htok : nameOk tn = true := by rw [htn]; exact nameMade_ok _
                  have htsz : tn.size ≤ 12 := by rw [htn, tx_size]; exact (nameMade_len _).2
                  clear htn
                  try dsimp only
                  refine hKq.out _ _ (HKS.out _ hc1) (fun _ => ?_)
                  clear hKq Kq
                  (try simp only [Act.put, List.setIfInBounds_toArray, List.set_cons_zero, List.set_cons_succ])
                  have e0 : V1.cell? ⟨wr.heap.size, 0, none⟩ = some (.int .i64 3) := by rw [Lib.cell_of_heap hv1]; rfl
                  have e1 : V1.cell? ⟨wr.heap.size, 1, none⟩ = some (.string ⟨#[91, 93]⟩) := by rw [Lib.cell_of_heap hv1]; rfl
                  have e2 : V1.cell? ⟨wr.heap.size, 2, none⟩ = some (.int .i64 0) := by rw [Lib.cell_of_heap hv1]; rfl
                  have f0 : ∀ i, V1.frozen? ⟨wr.heap.size, i, none⟩ = false := fun i => Lib.frozen_of_heap hv1 i
                  have hF0 := f0 0
                  have hF1 := f0 1
                  have hF2 := f0 2
                  have HV1 := mkHid hv1
                  have HC1 := mkHid hc1
                  clear f0 hv1 hq1 hszd
                  refine wpAnyH_take (i := 12) (oi := _) (v := ?_) rfl (by kernel_rfl) (by kernel_rfl) (by kernel_rfl) (fun _ _ _ h => h) (Or.inl ⟨by rfl, ?_⟩) (by assumption) ?_
                  rotate_left
                  · (intro w' hSw; (try dsimp only at hSw); go_simp; try with_reducible rfl)
                  (try simp only [Act.put, List.setIfInBounds_toArray, List.set_cons_zero, List.set_cons_succ])
                  refine wpAnyH_ready (rs := [13]) (by kernel_rfl) (by simp) ?_
                  refine AllReadyH.cons (o := _) rfl (fun Kq hKq => ?_) AllReadyH.nil
                  go_simp
                  have hc2 := ((HC1.out.setCell (p := ⟨wr.heap.size, 0, none⟩) (Nat.le_refl _) (.int .i64 3)).setCell (p := ⟨wr.heap.size, 1, none⟩) (Nat.le_refl _) (.string tn)).setCell (p := ⟨wr.heap.size, 2, none⟩) (Nat.le_refl _) (.int .i64 v3)
                  try dsimp only
                  refine hKq.out _ _ (HKS.out _ hc2) (fun _ => ?_)
                  clear hKq Kq
                  (try simp only [Act.put, List.setIfInBounds_toArray, List.set_cons_zero, List.set_cons_succ])
                  refine wpAnyH_done (by kernel_rfl) (NoPanic.normal ?_) _
                  have hv5 : (((V1.setCell ⟨wr.heap.size, 0, none⟩ (.int .i64 3)).setCell ⟨wr.heap.size, 1, none⟩ (.string tn)).setCell ⟨wr.heap.size, 2, none⟩ (.int .i64 v3)).heap[wr.heap.size]? = some (.cells #[.int .i64 3, .string tn, .int .i64 v3] 62) := by
                    simp only [World.setCell, Array.getElem?_modify, if_true, HV1.out, Option.map_some]
                    simp
                  generalize ((V1.setCell ⟨wr.heap.size, 0, none⟩ (.int .i64 3)).setCell ⟨wr.heap.size, 1, none⟩ (.string tn)).setCell ⟨wr.heap.size, 2, none⟩ (.int .i64 v3) = W5 at *
                  have z0 : W5.cell? ⟨wr.heap.size, 0, none⟩ = some (.int .i64 3) := by rw [Lib.cell_of_heap hv5]; rfl
                  have z1 : W5.cell? ⟨wr.heap.size, 1, none⟩ = some (.string tn) := by rw [Lib.cell_of_heap hv5]; rfl
                  have z2 : W5.cell? ⟨wr.heap.size, 2, none⟩ = some (.int .i64 v3) := by rw [Lib.cell_of_heap hv5]; rfl
                  have hl5 := cell_lt z0
                  have hb4 : Below w.heap.size w W5 := hbl.then hc2
                  have HLR5 : Hid (LR W5 w.heap.size (.slice (some ⟨g, 0, none⟩) out.length capo) out) := own_belowA HLR.out hc2
                  obtain ⟨q1, q2⟩ := fcel_ok tn htok htsz v3 ⟨n1, n2⟩
                  have HN := mkHid (HMI.out.snoc q1 q2 (by show out.length + (m + 1) + v3.toNat ≤ most; exact hro2))
                  clear hv5 q1 q2 htok hc2 e0 e1 e2 hF0 hF1 hF2
                  go_wp2_with (at_builtin; refine wpList_lay rfl _ _ rfl w.heap.size _ out (⟨3, tn, v3⟩ : Cel) HLR5.out rfl rfl hb4.size (by omega) ?_; intro v2 w2 h1 h2 h3; obtain ⟨g2, cap2, rfl⟩ := h3)
                  go_round
                  case rel => exact ⟨m + ar (⟨3, tn, v3⟩ : Cel), out ++ [(⟨3, tn, v3⟩ : Cel)], g2, cap2, (by show Value.int .i64 _ = Value.int .i64 ((m + v3.toNat : Nat) : Int); congr 1; omega), by simp, by simp, HN.out, by rw [Hid, List.length_append]; exact h1, hb4.trans h2, HN.out.room⟩
                  case measure => simp [intOf]; omega
                · have t81 : decide ((out.length : Int) + ((m : Int) + 1) + v3 ≤ (most : Int)) = false := by simp; omega
                  have HN := mkHid (HMI.out.snoc nilC_ok nilC_fit (by show out.length + (m + 1) + 0 ≤ most; omega))
                  clear hro
                  have hb4 := hbl.new (.cells #[.int .i64 3, .string ⟨#[91, 93]⟩, .int .i64 0] 62)
                  have HLR4 : Hid (LR (wr.alloc (.cells #[.int .i64 3, .string ⟨#[91, 93]⟩, .int .i64 0] 62)) w.heap.size (.slice (some ⟨g, 0, none⟩) out.length capo) out) := World.ownsRow.alloc HLR.out _
                  go_wp2_with (at_builtin; refine wpList_lay rfl _ _ rfl w.heap.size _ out nilC HLR4.out rfl (by simp only [World.size_alloc]; rfl) hb4.size (by omega) ?_; intro v2 w2 h1 h2 h3; obtain ⟨g2, cap2, rfl⟩ := h3)
                  go_round
                  case rel => exact ⟨m + ar nilC, out ++ [nilC], g2, cap2, by go_num, by simp, by simp, HN.out, by rw [Hid, List.length_append]; exact h1, hb4.trans h2, HN.out.room⟩
                  case measure => simp [intOf]; omega
          · have t27 : decide ((out.length : Int) < (xs.length : Int)) = false := by simp; omega
            have t27n : decide (out.length < xs.length) = false := by simp; omega
            have HN := mkHid (HMI.out.snoc nilC_ok nilC_fit (by show out.length + (m + 1) + 0 ≤ most; omega))
            clear hlt
            have hb3 := hbl.new (.cells #[.int .i64 3, .string ⟨#[91, 93]⟩, .int .i64 0] 62)
            have HLR3 : Hid (LR (wr.alloc (.cells #[.int .i64 3, .string ⟨#[91, 93]⟩, .int .i64 0] 62)) w.heap.size (.slice (some ⟨g, 0, none⟩) out.length capo) out) := World.ownsRow.alloc HLR.out _
            go_wp2_with (at_builtin; refine wpList_lay rfl _ _ rfl w.heap.size _ out nilC HLR3.out rfl (by simp only [World.size_alloc]; rfl) hb3.size (by omega) ?_; intro v2 w2 h1 h2 h3; obtain ⟨g2, cap2, rfl⟩ := h3)
            go_round
            case rel => exact ⟨m + ar nilC, out ++ [nilC], g2, cap2, by go_num, by simp, by simp, HN.out, by rw [Hid, List.length_append]; exact h1, hb3.trans h2, HN.out.room⟩
            case measure => simp [intOf]; omega
end Go.Proofs.YtabjghmfjoefpaaDoor
set_option linter.unusedVariables false
namespace Go.Proofs.YtabjghmfjoefpaaDoor
open Go.RowKit

set_option maxHeartbeats 1600000 in
theorem refparts_z (a : Option Addr) (cap : Nat) (w : World) (xs : List Cel) (hr : Row w a cap xs) (hR : rightB xs = true) :
    Calls Tryd.prog 38 #[.slice a xs.length cap] w fun e w' => ∃ a' cap' vs, e = .returned (.slice a' (partsL xs).length cap') ∧ w'.ownsRow w.heap.size 22 1 (.slice a' (partsL xs).length cap') (partsL xs).length vs ∧ (∀ z, Row z a cap xs → SlRows z vs (partsL xs)) ∧ Below w.heap.size w w' := by
  have hm := hr.max
  have hle := hr.le
  have h6 := ar_le6 hR
  obtain ⟨c, l, e0, hc, _, h200⟩ := right_sk hR
  have h0 : 0 < xs.length := by rw [e0]; simp
  have hc0 : xs[0] = c := by simp [e0]
  have har : ar0 xs = ar xs[0] := by rw [hc0, e0]; rfl
  have hm0 := World.ownsRow_made (base := w.heap.size) (e := 22) (size := 1) w #[] 0 (Nat.le_refl _) (by unfold maxLen; omega) rfl
  have hb0 := (Below.refl w.heap.size w).new (.cells #[] 22)
  have hl0 : ((xs.length : Int) == 0) = false := by simp; intro e; simp [e] at h0
  obtain ⟨b, off, rfl, hb, hat⟩ := hr.cases.resolve_left (fun e => by simp [e] at h0)
  obtain ⟨c0, c1, c2, hf⟩ := cel_at hat (Below.refl _ _) h0
  simp only [Nat.zero_mul, Nat.add_zero] at c0 c1 c2
  by_cases h3 : xs[0].k = 3
  · have t3 : (xs[0].k != 3) = false := by simp [h3]
    have hn : xs[0].n = ar0 xs := by
      have := arI_ar hc; rw [← hc0] at this; rw [har, ← this]; unfold arI; rw [if_pos h3]
    have HN := mkHid hn
    have HR := mkHid hR
    clear hR e0 hc hc0 har h3 hn
    go_enter Tryd.func38, Tryd.ntmps38
    go_wp2_with fail
    go_loopw [3, 4, 5] (fun v i j wr => ∃ (k : Nat) (vs : List Value), k ≤ ar0 xs ∧ j = .int .i64 k ∧ i = .int .i64 (aN xs k) ∧ wr.ownsRow w.heap.size 22 1 v k vs ∧ Below w.heap.size w wr ∧ Hid (∀ z, Row z (some ⟨b, off, none⟩) cap xs → SlRows z vs ((List.range k).map (partJ xs)))) (fun v i j wr => ar0 xs - (intOf j).toNat)
    case atStart => exact ⟨0, [], Nat.zero_le _, rfl, by unfold aN; rw [afterI_zero (by omega)]; rfl, hm0, hb0, mkHid fun _ _ => SlRows.nil _⟩
    case round =>
      obtain ⟨k, vs, hk, rfl, rfl, hown, hbl, HS⟩ := hrel
      have d2 : wr.cell? ⟨b, off + 2, none⟩ = some (.int .i64 (ar0 xs)) := by rw [← HN.out]; exact keep c2 hbl
      clear c0 c1 c2
      by_cases hlt : k < ar0 xs
      · have hra := (right_after HR.out hk).2
        have hrb := (right_after HR.out (show k + 1 ≤ ar0 xs from hlt)).2
        have hrn := (right_next HR.out hlt).1
        have HP := mkHid (right_next HR.out hlt).2
        obtain ⟨q1, q2, _⟩ := hra
        obtain ⟨q3, q4, _⟩ := hrb
        have hr1 := hr.below hbl
        have HS4 := mkHid (fun z (hz : Row z (some ⟨b, off, none⟩) cap xs) => (HS.out z hz).snoc (hz.slice (i := aN xs k) (j := aN xs (k + 1)) (by omega) q4))
        have HL := mkHid (take_drop_len HR.out hlt)
        go_wp2_with (first
          | (go_at_call 51; refine (refend_any _ cap (aN xs k) _ xs hr1 (by omega) (by omega)).mono ?_; rintro e w3 ⟨rfl, hb3⟩; rw [HP.out]; have hown3 := own_below hown hb3; have hbl3 := hbl.then hb3)
          | (at_builtin; refine wpList_app rfl _ _ 58 rfl w.heap.size 22 1 24 _ Tryd.underlying58 Tryd.infoSl rfl (by decide) (by decide) _ k _ rfl (hown3.alloc _) (some ⟨_, 0, none⟩) 1 1 [.slice (some ⟨b, off + aN xs k * 3, none⟩) (aN xs (k + 1) - aN xs k) (cap - aN xs k)] rfl (src_new _ #[.slice (some ⟨b, off + aN xs k * 3, none⟩) (aN xs (k + 1) - aN xs k) (cap - aN xs k)] _ 1 rfl (by simp [Value.oneCell'])) (by omega) (Nat.le_trans hbl3.size (by simp)) ?_; intro v' w5 hown5 _ hb5))
        go_round
        case rel => exact ⟨k + 1, vs ++ [.slice (some ⟨b, off + aN xs k * 3, none⟩) (aN xs (k + 1) - aN xs k) (cap - aN xs k)], by omega, by go_num, rfl, hown5, (hbl3.new _).trans hb5, mkHid fun z hz => by rw [parts_succ, HL.out]; exact HS4.out z hz⟩
        case measure => simp [intOf]; omega
      · obtain rfl : k = ar0 xs := by omega
        have hl : (partsL xs).length = ar0 xs := by simp [partsL]
        have HL := mkHid hl
        obtain ⟨a', cap', rfl⟩ : ∃ a' cap', u3 = .slice a' (partsL xs).length cap' := by
          rw [hl]
          rcases hown.2 with ⟨e1, e2⟩ | ⟨g, cap', cur, e1, _⟩
          · exact ⟨none, 0, by rw [e1, e2]⟩
          · exact ⟨_, _, e1⟩
        clear hl
        go_wp2
        go_ret
        exact ⟨a', cap', vs, rfl, by rw [HL.out] at hown ⊢; exact hown, HS.out, hbl⟩
  · have t3 : (xs[0].k != 3) = true := by simp [h3]
    have hp : partsL xs = [] := by unfold partsL; rw [har]; unfold ar; rw [if_neg h3]; rfl
    have HP := mkHid hp
    clear hR e0 hc hc0 har h3 hp
    go_enter Tryd.func38, Tryd.ntmps38
    go_wp2_with fail
    go_ret
    rw [HP.out]
    exact ⟨_, _, [], rfl, hm0, fun _ _ => SlRows.nil _, hb0⟩
end Go.Proofs.YtabjghmfjoefpaaDoor
set_option linter.unusedVariables false
namespace Go.Proofs.YtabjghmfjoefpaaDoor
open Go.RowKit

def lenV : Value → Nat
  | .slice _ n _ => n
  | _ => 0
/-- between two rounds: the items taken off, and the term that is left -/
structure Stand (t : Tm) (items : List Tm) (cur : Tm) : Prop where
  ok : cur.ok
  oks : oks items
  small : ∀ u ∈ items, u.flat.length < t.flat.length
  sum : items.length + cur.flat.length ≤ t.flat.length
  lit : (items = [] ∧ cur = t) ∨ LitTo t items cur
theorem flat_hd (t : Tm) (h : 0 < t.flat.length) : t.flat[0] = t.hd := by
  obtain ⟨c, ts⟩ := t; rfl
theorem isC_facts {c : Cel} {s : List UInt8} {n : Int} (h : isC c s n = true) : (c.k == 3) = true ∧ (c.s.toList == s) = true ∧ (c.n == n) = true := by
  simp only [isC, Bool.and_eq_true, decide_eq_true_eq] at h
  obtain ⟨⟨h1, h2⟩, h3⟩ := h
  refine ⟨by simp [h1], ?_, by simp [h3]⟩
  rw [ByteArray.toList_eq, h2]; simp
theorem isC_not {c : Cel} {s : List UInt8} {n : Int} (h : isC c s n = false) : (c.k == 3) = false ∨ ((c.k == 3) = true ∧ (c.s.toList == s) = false) ∨ ((c.k == 3) = true ∧ (c.s.toList == s) = true ∧ (c.n == n) = false) := by
  by_cases h1 : c.k = 3
  · by_cases h2 : c.s.data.toList = s
    · by_cases h3 : c.n = n
      · rw [isC] at h; simp [h1, h2, h3] at h
      · exact Or.inr (Or.inr ⟨by simp [h1], by rw [ByteArray.toList_eq, h2]; simp, by simp [h3]⟩)
    · exact Or.inr (Or.inl ⟨by simp [h1], by rw [ByteArray.toList_eq]; simp [h2]⟩)
  · exact Or.inl (by simp [h1])
theorem ok_two {c : Cel} {ts : List Tm} (h : (Tm.mk c ts).ok) (hd : isC c [46] 2 = true) : ∃ x y, ts = [x, y] ∧ x.ok ∧ y.ok := by
  obtain ⟨h1, h2, h3⟩ := h
  simp only [isC, Bool.and_eq_true, decide_eq_true_eq] at hd
  have : ts.length = 2 := by rw [h2, ar, if_pos hd.1.1, hd.2]; rfl
  match ts, this with
  | [x, y], _ => exact ⟨x, y, rfl, h3.1, h3.2.1⟩
theorem Stand.next {t : Tm} {items : List Tm} {c : Cel} {x y : Tm} (h : Stand t items (.mk c [x, y])) (hd : isC c [46] 2 = true) : Stand t (items ++ [x]) y := by
  have hx : x.flat.length < (Tm.mk c [x, y]).flat.length := flat_arg_lt (u := x) (by simp [Tm.args])
  have hlen : (Tm.mk c [x, y]).flat.length = 1 + (x.flat.length + y.flat.length) := by
    rw [flat_cons]; simp [flats, Tm.args]; omega
  have hxp := flat_pos x
  have hs := h.sum
  obtain ⟨-, -, hxy⟩ := h.ok
  refine ⟨hxy.2.1, oks_append.2 ⟨h.oks, hxy.1, trivial⟩, ?_, by simp; omega, Or.inr ?_⟩
  · intro u hu
    rcases List.mem_append.1 hu with hu | hu
    · exact h.small u hu
    · simp at hu; subst hu; omega
  · rcases h.lit with ⟨rfl, rfl⟩ | hl
    · have h3 : c.k = 3 ∧ c.s.data.toList = [46] ∧ c.n = 2 := by
        simp only [isC, Bool.and_eq_true, decide_eq_true_eq] at hd; exact ⟨hd.1.1, hd.1.2, hd.2⟩
      exact lit_start h3.1 (by simp [infixB, signs, h3.2.1]) (by simp [isC, h3.2.1]) (by simp [isC, h3.2.1]) hd
    · exact lit_step hl hd
end Go.Proofs.YtabjghmfjoefpaaDoor
namespace Go.Proofs.YtabjghmfjoefpaaDoor
open Go.RowKit

theorem Cls.up_at {w : World} {C u s m : Nat} {l : List Cel} {E : List Int} {us : List Nat} (h : Cls (veil us w) C u s m l E) :
    ∃ cap, l.length ≤ cap ∧ cap ≤ 9223372036854775807 ∧ w.cell? ⟨C, 3, none⟩ = some (.slice (some ⟨u, 0, none⟩) l.length cap) :=
  let ⟨cap, h1, h2, h3⟩ := h.up; ⟨cap, h1, h2, (veil_cell h3).2⟩

end Go.Proofs.YtabjghmfjoefpaaDoor
namespace Go.Proofs.YtabjghmfjoefpaaDoor
open Go.RowKit

theorem grown_trans {a b c : World} {r : Option Nat} (h : a.grownBy b r) (k : b.grownBy c r) : a.grownBy c r :=
  ⟨k.os.trans h.os, k.tape.trans h.tape, k.output.trans h.output, Nat.le_trans h.size k.size, fun i hi hn => (k.block i (Nat.lt_of_lt_of_le hi h.size) hn).trans (h.block i hi hn)⟩
theorem grown_set (w : World) (g o : Nat) (v : Value) : w.grownBy (w.setCell ⟨g, o, none⟩ v) (some g) :=
  ⟨rfl, rfl, rfl, by simp [World.setCell], fun k _ hn => Below.heap_setCell w ⟨g, o, none⟩ v k (fun e => hn (by rw [e]))⟩
theorem max_nat (a b : Nat) : ((max a b : Nat) : Int) = if (a : Int) < b then (b : Int) else a := by omega

theorem drop_arg {xs r : List Cel} {i : Nat} {t : Tm} (h : xs.drop i = t.flat ++ r) {k : Nat} (hk : k < t.args.length) : xs.drop (i + 1 + (flats (t.args.take k)).length) = t.args[k].flat ++ (flats (t.args.drop (k + 1)) ++ r) := by
  have hs : t.args = t.args.take k ++ (t.args[k] :: t.args.drop (k + 1)) := by
    rw [← List.drop_eq_getElem_cons hk, List.take_append_drop]
  have hf : flats t.args = flats (t.args.take k) ++ (t.args[k].flat ++ flats (t.args.drop (k + 1))) := by
    conv => lhs; rw [hs]
    rw [flats_append]; rfl
  rw [Nat.add_assoc, ← List.drop_drop, h, flat_cons t, hf, Nat.add_comm 1, List.cons_append, List.drop_succ_cons, List.append_assoc, List.drop_left, List.append_assoc]
theorem depths_take (t : Tm) {k : Nat} (hk : k < t.args.length) : depths (t.args.take (k + 1)) = max (depths (t.args.take k)) t.args[k].depth := by
  rw [List.take_succ_eq_append_getElem hk, depths_append]; simp [depths]
theorem flats_take (t : Tm) {k : Nat} (hk : k < t.args.length) : (flats (t.args.take (k + 1))).length = (flats (t.args.take k)).length + t.args[k].flat.length := by
  rw [List.take_succ_eq_append_getElem hk, flats_append]; simp [flats]
theorem depths_small (t : Tm) (k : Nat) (h : t.flat.length ≤ 1000) : depths (t.args.take k) ≤ 1000 := by
  have h1 := depths_le (t.args.take k)
  have hs : t.args = t.args.take k ++ t.args.drop k := (List.take_append_drop _ _).symm
  have := congrArg List.length (congrArg flats hs)
  rw [flats_append, List.length_append] at this
  rw [flat_cons t, List.length_cons] at h
  omega

theorem args_le6 {t : Tm} (h : t.ok) : t.args.length ≤ 6 := by
  have h := (ok_iff t).1 h
  rw [h.2.1]; exact ar_le _ h.1

end Go.Proofs.YtabjghmfjoefpaaDoor
namespace Go.Proofs.YtabjghmfjoefpaaDoor
open Go.RowKit

end Go.Proofs.YtabjghmfjoefpaaDoor
namespace Go.Proofs.YtabjghmfjoefpaaDoor
open Go.RowKit

/-- cells changed one by one: the first k of them -/
def upTo (f : Cel → Cel) (xs : List Cel) (k : Nat) : List Cel := (xs.take k).map f ++ xs.drop k
theorem upTo_length (f : Cel → Cel) (xs : List Cel) (k : Nat) : (upTo f xs k).length = xs.length := by
  simp [upTo]; omega
theorem upTo_zero (f : Cel → Cel) (xs : List Cel) : upTo f xs 0 = xs := by simp [upTo]
theorem upTo_all (f : Cel → Cel) (xs : List Cel) {k : Nat} (h : xs.length ≤ k) : upTo f xs k = xs.map f := by
  simp [upTo, List.take_of_length_le h, List.drop_eq_nil_of_le h]
theorem upTo_at (f : Cel → Cel) (xs : List Cel) {k : Nat} (h : k < xs.length) : (upTo f xs k)[k]? = some xs[k] := by
  unfold upTo
  rw [List.getElem?_append_right (by simp; omega), List.length_map, List.length_take, Nat.min_eq_left (Nat.le_of_lt h), Nat.sub_self, List.getElem?_drop]
  simp
theorem upTo_succ (f : Cel → Cel) (xs : List Cel) {k : Nat} (h : k < xs.length) : upTo f xs (k + 1) = (upTo f xs k).set k (f xs[k]) := by
  unfold upTo
  rw [List.take_succ_eq_append_getElem h, List.map_append, List.drop_eq_getElem_cons h, List.append_assoc]
  rw [List.set_append_right _ _ (by simp; omega), List.length_map, List.length_take, Nat.min_eq_left (Nat.le_of_lt h), Nat.sub_self]
  rfl
theorem upTo_same (f : Cel → Cel) (xs : List Cel) {k : Nat} (h : k < xs.length) (e : f xs[k] = xs[k]) : upTo f xs (k + 1) = upTo f xs k := by
  rw [upTo_succ f xs h, e]
  refine List.ext_getElem? fun i => ?_
  rw [List.getElem?_set]
  split
  · rename_i hi
    subst hi
    rw [if_pos (by rw [upTo_length]; exact h), upTo_at f xs h]
  · rfl
theorem flat_set (xs : List Cel) (i : Nat) (hi : i < xs.length) (m : Int) : (flat xs).set (i * 3 + 2) (.int .i64 m) = flat (xs.set i { xs[i] with n := m }) := by
  induction xs generalizing i with
  | nil => simp at hi
  | cons c xs ih =>
    cases i with
    | zero => simp [flat]
    | succ i =>
      have := ih i (by simpa using hi)
      have hf : flat (c :: xs) = .int .i64 c.k :: .string c.s :: .int .i64 c.n :: flat xs := rfl
      rw [hf, show (i + 1) * 3 + 2 = i * 3 + 2 + 1 + 1 + 1 by omega]
      simp only [List.set_cons_succ, List.getElem_cons_succ]
      rw [this]; rfl
theorem wrap64_range (n : Int) : -9223372036854775808 ≤ wrap64 n ∧ wrap64 n ≤ 9223372036854775807 := by
  unfold wrap64; omega
/-- one variable shifted -/
def shiftC (d : Int) (c : Cel) : Cel := if c.k = 1 then { c with n := wrap64 (c.n + d) } else c
def shiftL (xs : List Cel) (d : Int) : List Cel := if rightB (xs.map (shiftC d)) then xs.map (shiftC d) else []
theorem shiftC_fit {d : Int} {c : Cel} (h : c.fit) : (shiftC d c).fit := by
  unfold shiftC
  have hw := wrap64_range (c.n + d)
  split
  · exact ⟨h.k1, h.k2, hw.1, hw.2, h.s⟩
  · exact h
theorem upTo_fit {f : Cel → Cel} {xs : List Cel} {k : Nat} (hf : ∀ c ∈ xs, c.fit) (h : ∀ c : Cel, c.fit → (f c).fit) : ∀ c ∈ upTo f xs k, c.fit := by
  intro c hc
  unfold upTo at hc
  rcases List.mem_append.1 hc with h1 | h1
  · obtain ⟨d, hd, rfl⟩ := List.mem_map.1 h1
    exact h d (hf d (List.mem_of_mem_take hd))
  · exact hf c (List.mem_of_mem_drop h1)
/-- a row of the call's own that holds something -/
theorem own_form {w : World} {B e size : Nat} {v : Value} {n : Nat} {vs : List Value} (h : w.ownsRow B e size v n vs) (hn : 0 < n) :
    ∃ g cap, v = .slice (some ⟨g, 0, none⟩) n cap ∧ B ≤ g ∧ g < w.heap.size ∧ n ≤ cap ∧ cap ≤ 9223372036854775807 := by
  rcases h.2 with ⟨_, h0⟩ | ⟨g, cap, cur, rfl, hb, hg, hc, hm, _⟩
  · omega
  · exact ⟨g, cap, rfl, hb, (Array.getElem?_eq_some_iff.1 hg).1, hc, by unfold maxLen at hm; omega⟩
theorem own_cel {w : World} {B e g n cap : Nat} {ys : List Cel} (h : w.ownsRow B e 3 (.slice (some ⟨g, 0, none⟩) n cap) n (flat ys)) {k : Nat} {c : Cel} (hc : ys[k]? = some c) :
    w.cell? ⟨g, k * 3, none⟩ = some (.int .i64 c.k) ∧ w.cell? ⟨g, k * 3 + 1, none⟩ = some (.string c.s) ∧ w.cell? ⟨g, k * 3 + 2, none⟩ = some (.int .i64 c.n) := by
  have hl : k < ys.length := (List.getElem?_eq_some_iff.1 hc).1
  have he : ys[k] = c := by rw [List.getElem?_eq_getElem hl] at hc; exact Option.some.inj hc
  obtain ⟨f0, f1, f2⟩ := flat_at ys k hl
  rw [he] at f0 f1 f2
  exact ⟨own_cells h _ _ f0, own_cells h _ _ f1, own_cells h _ _ f2⟩
/-- one number stored into a row of cells -/
theorem own_store {w : World} {B e g n cap : Nat} {f : Cel → Cel} {xs : List Cel} {k : Nat} (h : w.ownsRow B e 3 (.slice (some ⟨g, 0, none⟩) n cap) n (flat (upTo f xs k))) (hk : k < xs.length) {m : Int} (hf : f xs[k] = ⟨xs[k].k, xs[k].s, m⟩) :
    (w.setCell ⟨g, k * 3 + 2, none⟩ (.int .i64 m)).ownsRow B e 3 (.slice (some ⟨g, 0, none⟩) n cap) n (flat (upTo f xs (k + 1))) := by
  have := (h.stored (k * 3 + 2) (.int .i64 m)).1
  have hl : k < (upTo f xs k).length := by rw [upTo_length]; exact hk
  have he : (upTo f xs k)[k] = xs[k] := by
    have := upTo_at f xs hk; rw [List.getElem?_eq_getElem hl] at this; exact Option.some.inj this
  rw [flat_set _ _ hl, he] at this
  have hf' : f xs[k] = { xs[k] with n := m } := hf
  rw [← hf', ← upTo_succ f xs hk] at this
  exact this
theorem own_free {w : World} {B e size g n cap : Nat} {vs : List Value} (h : w.ownsRow B e size (.slice (some ⟨g, 0, none⟩) n cap) n vs) (j : Nat) : w.frozen? ⟨g, j, none⟩ = false := h.frozenAt j
end Go.Proofs.YtabjghmfjoefpaaDoor
namespace Go.Proofs.YtabjghmfjoefpaaDoor
open Go.RowKit

end Go.Proofs.YtabjghmfjoefpaaDoor
namespace Go.Proofs.YtabjghmfjoefpaaDoor
open Go.RowKit

theorem varsGo_nodup (xs : List Cel) : ∀ acc : List Int, acc.Nodup → (varsGo acc xs).Nodup := by
  induction xs with
  | nil => intro acc h; exact h
  | cons c l ih =>
    intro acc h
    refine ih _ ?_
    split
    · rename_i hc
      rw [List.nodup_append]
      refine ⟨h, by simp, ?_⟩
      intro a ha b hb
      simp at hb
      subst hb
      intro e; subst e
      exact hc.2 ha
    · exact h
theorem varsGo_sub (xs : List Cel) : ∀ (acc : List Int) (n : Int), n ∈ acc → n ∈ varsGo acc xs := by
  induction xs with
  | nil => intro acc n h; exact h
  | cons c l ih =>
    intro acc n h
    refine ih _ _ ?_
    split
    · exact List.mem_append_left _ h
    · exact h
theorem mem_varsGo (xs : List Cel) : ∀ (acc : List Int), ∀ c ∈ xs, c.k = 1 → c.n ∈ varsGo acc xs := by
  induction xs with
  | nil => intro acc c h; simp at h
  | cons d l ih =>
    intro acc c h hc
    rcases List.mem_cons.1 h with rfl | h
    · simp only [varsGo]
      refine varsGo_sub _ _ _ ?_
      split
      · simp
      · rename_i h1
        by_cases h2 : c.n ∈ acc
        · exact h2
        · exact absurd ⟨hc, h2⟩ h1
    · exact ih _ c h hc
/-- one variable numbered -/
def numC (vs : List Int) (c : Cel) : Cel := if c.k = 1 then ⟨c.k, c.s, placeI vs c.n⟩ else c
def numL (xs : List Cel) : List Cel := xs.map (numC (varsL xs))
theorem placeI_range (vs : List Int) (n : Int) (h : vs.length ≤ 1000000) : -1 ≤ placeI vs n ∧ placeI vs n ≤ 1000000 := by
  unfold placeI
  split
  · have := List.idxOf_le_length (a := n) (l := vs); omega
  · omega
theorem numC_fit {vs : List Int} {c : Cel} (hv : vs.length ≤ 1000000) (h : c.fit) : (numC vs c).fit := by
  unfold numC
  have := placeI_range vs c.n hv
  split
  · exact ⟨h.k1, h.k2, by show -9223372036854775808 ≤ placeI vs c.n; omega, by show placeI vs c.n ≤ 9223372036854775807; omega, h.s⟩
  · exact h
/-- what a map of the first k places says -/
def placeF (vs : List Int) (k : Nat) : Int → Int := fun i => if i ∈ vs.take k then (vs.idxOf i : Int) else 0
theorem placeF_succ {vs : List Int} (hn : vs.Nodup) {k : Nat} (hk : k < vs.length) : (fun j => if j = vs[k] then ((k : Nat) : Int) else placeF vs k j) = placeF vs (k + 1) := by
  funext j
  have hiff : j ∈ vs.take (k + 1) ↔ j ∈ vs.take k ∨ j = vs[k] := by
    rw [List.take_succ_eq_append_getElem hk, List.mem_append, List.mem_singleton]
  unfold placeF
  by_cases e : j = vs[k]
  · have h1 : vs.idxOf vs[k] = k := hn.idxOf_getElem k hk
    rw [if_pos e, if_pos (hiff.2 (.inr e)), e, h1]
  · rw [if_neg e]
    by_cases h2 : j ∈ vs.take k
    · rw [if_pos h2, if_pos (hiff.2 (.inl h2))]
    · rw [if_neg h2, if_neg (fun h => (hiff.1 h).elim h2 e)]
theorem placeF_all {vs : List Int} {k : Nat} (hk : vs.length ≤ k) {i : Int} (hi : i ∈ vs) : placeF vs k i = placeI vs i := by
  unfold placeF placeI
  rw [List.take_of_length_le hk, if_pos hi, if_pos hi]
theorem Tryd.zeroInt (w : World) : (zeroValue 3).run Tryd.prog w = .ok (.int .i64 0) w := by kernel_rfl

theorem map_hide {w : World} {P : Program} {k e : TypeId} {b n : Nat} {f : Int → Int} (h : MapII P k e w b n f) : Keeps w (hide (some b) w) := by
  obtain ⟨D, ⟨es, clock, hb, _⟩, _⟩ := h
  intro b' o v hc
  refine hide_of_ne (fun e => ?_) hc
  subst e
  simp [World.cell?, hb] at hc

theorem own_mono {w : World} {B B' e size : Nat} {v : Value} {n : Nat} {vs : List Value} (h : w.ownsRow B e size v n vs) (hB : B' ≤ B) : w.ownsRow B' e size v n vs := by
  refine ⟨h.1, ?_⟩
  rcases h.2 with h | ⟨g, cap, cur, e, hb, rest⟩
  · exact .inl h
  · exact .inr ⟨g, cap, cur, e, Nat.le_trans hB hb, rest⟩

end Go.Proofs.YtabjghmfjoefpaaDoor
namespace Go.Proofs.YtabjghmfjoefpaaDoor
open Go.RowKit

/-- does a cell give way to another one? -/
def yieldsB (c t : Cel) : Bool := decide (c.k = 1) && (!decide (t.k = 1) || decide (t.n < c.n))
/-! ### rows of right terms: each place begins one -/
theorem sk_good : ∀ (l : List Cel) (m : Nat) (r : List Cel), sk m l = some r → ∀ i, i + r.length < l.length → ∃ q, sk 1 (l.drop i) = some q
  | [], m, r, _, i, hi => by simp at hi
  | c :: l, 0, r, h, i, hi => by
    simp [sk] at h; subst h; omega
  | c :: l, m + 1, r, h, i, hi => by
    simp only [sk] at h
    split at h
    · next hc =>
      cases i with
      | zero =>
        rw [Nat.add_comm, sk_add] at h
        cases h2 : sk (ar c) l with
        | none => rw [h2] at h; simp at h
        | some q => exact ⟨q, by simp [sk, hc, h2]⟩
      | succ i => exact sk_good l _ r h i (by simp at hi; omega)
    · cases h
end Go.Proofs.YtabjghmfjoefpaaDoor
namespace Go.Proofs.YtabjghmfjoefpaaDoor
open Go.RowKit

theorem made_ints (n : Nat) : madeCells (Value.int .i64 0).cells n = Array.replicate n (Value.int .i64 0) := by
  unfold madeCells
  simp only [Value.cells]
  apply Array.ext
  · simp
  · intro i h1 h2
    simp [Nat.mod_one]
/-- make of a slice of numbers -/
theorem wpList_make_ints {P : Program} (w : World) {ops : Array Oper} {rest : List Oper} {o : Oper} {a : Act} {Q : Exit → Act → World → Prop}
    (hg : o.guard = none) (l c : Operand) (t : TypeId) (hop : o.op = Op.makeSlice t l c)
    (e : TypeId) (h1 : P.underlying t = some (.slice e)) (h2 : (P.info? e).map (fun i => (i.zero, i.size, i.bytes)) = some (some (.int .i64 0), 1, 8))
    (n : Nat) (hl : a.eval l = .int .i64 n) (hc : a.eval c = .int .i64 n) (hn : n ≤ 1000000)
    (hK : wpList P ops Q rest (a.put o.dst (.slice (some ⟨w.heap.size, 0, none⟩) n n)) (w.alloc (.cells (Array.replicate n (Value.int .i64 0)) e))) :
    wpList P ops Q (o :: rest) a w := by
  obtain ⟨i, hi, hz0, hz1, hz2⟩ := info_parts h2
  refine wpList_plain hg fun K hK' => ?_
  have hrun := run_make (P := P) w t e i _ h1 hi hz0 .i64 .i64 n n (by omega) (Int.le_refl _) (by rw [hz2]; omega) (by omega)
  rw [hz1, Nat.mul_one, Int.toNat_natCast, made_ints] at hrun
  unfold Oper.wp
  simp [execOp, hop, hl, hc, hrun, Result.andThen]
  exact hK' _ _ hK
theorem RowU.made (w : World) (n : Nat) : RowU (w.alloc (.cells (Array.replicate n (Value.int .i64 0)) 3)) w.heap.size (List.replicate n 0) := by
  unfold RowU
  rw [heap_alloc_new]
  simp

def Good (l : List Cel) : Prop := ∀ i, i < l.length → ∃ q, sk 1 (l.drop i) = some q
def endsL (l : List Cel) : List Int := (List.range l.length).map (endI l)
theorem endsL_length (l : List Cel) : (endsL l).length = l.length := by simp [endsL]
theorem endsL_get {l : List Cel} {i : Nat} (h : i < (endsL l).length) : (endsL l)[i] = endI l i := by simp [endsL]
theorem end_range {l : List Cel} (hG : Good l) {i : Nat} (hi : i < l.length) : (i : Int) + 1 ≤ endI l i ∧ endI l i ≤ l.length := by
  obtain ⟨q, hq⟩ := hG i hi
  obtain ⟨h1, _⟩ := sk_at (Nat.le_of_lt hi) hq
  have h2 := sk_pos (m := 0) hq
  rw [List.length_drop] at h2
  unfold endI; rw [hq]
  show _ ≤ (l.length : Int) - (q.length : Int) ∧ (l.length : Int) - (q.length : Int) ≤ _
  omega
theorem good_cell {l : List Cel} (hG : Good l) {i : Nat} (hi : i < l.length) : cellOk l[i] = true ∧ ∃ q, sk (ar l[i]) (l.drop (i + 1)) = some q ∧ endI l i = (l.length : Int) - q.length := by
  obtain ⟨q, hq⟩ := hG i hi
  have h1 := sk_step 0 l i hi
  rw [Nat.zero_add] at h1
  rw [hq] at h1
  by_cases hc : cellOk l[i] = true
  · rw [if_pos hc, Nat.zero_add] at h1
    exact ⟨hc, q, h1.symm, by unfold endI; rw [hq]⟩
  · rw [if_neg hc] at h1; cases h1
/-- behind the first j arguments of the cell at i -/
theorem good_after {l : List Cel} (hG : Good l) {i : Nat} (hi : i < l.length) {j : Nat} (hj : j ≤ ar l[i]) : (i : Int) + 1 ≤ afterI l (i + 1) j ∧ afterI l (i + 1) j ≤ l.length ∧ (j < ar l[i] → afterI l (i + 1) j < l.length) := by
  obtain ⟨_, q, hq, _⟩ := good_cell hG hi
  rw [show ar l[i] = j + (ar l[i] - j) by omega, sk_add] at hq
  cases h : sk j (l.drop (i + 1)) with
  | none => rw [h] at hq; simp at hq
  | some r =>
    rw [h] at hq
    simp only [Option.bind_some] at hq
    obtain ⟨h1, _⟩ := sk_at (by omega) h
    unfold afterI
    rw [h]
    refine ⟨by show _ ≤ (l.length : Int) - (r.length : Int); omega, by show (l.length : Int) - (r.length : Int) ≤ _; omega, fun hlt => ?_⟩
    show (l.length : Int) - (r.length : Int) < _
    have hm : ar l[i] - j = (ar l[i] - j - 1) + 1 := by omega
    rw [hm] at hq
    have := sk_pos hq
    omega
theorem good_end {l : List Cel} (hG : Good l) {i : Nat} (hi : i < l.length) : endI l i = afterI l (i + 1) (ar l[i]) := by
  obtain ⟨_, q, hq, he⟩ := good_cell hG hi
  rw [he]; unfold afterI; rw [hq]
theorem good_next {l : List Cel} (hG : Good l) {i : Nat} (hi : i < l.length) {j : Nat} (hj : j < ar l[i]) : endI l (afterI l (i + 1) j).toNat = afterI l (i + 1) (j + 1) := by
  have h1 := afterI_succ (xs := l) (i := i + 1) (j := j) (by omega)
  have h2 := (good_after hG hi (Nat.le_of_lt hj)).1
  unfold passI at h1
  rw [if_pos (by omega)] at h1
  exact h1
/-- reckoned from the end down to i -/
def EU (l : List Cel) (i : Nat) : List Int := List.replicate i 0 ++ (endsL l).drop i
theorem EU_length {l : List Cel} {i : Nat} (h : i ≤ l.length) : (EU l i).length = l.length := by
  unfold EU; rw [List.length_append, List.length_replicate, List.length_drop, endsL_length]; omega
theorem EU_set {l : List Cel} {i : Nat} (h : i < l.length) : (EU l (i + 1)).set i (endI l i) = EU l i := by
  unfold EU
  have h1 : i < (endsL l).length := by rw [endsL_length]; exact h
  rw [List.drop_eq_getElem_cons h1, endsL_get h1, List.replicate_succ', List.append_assoc, List.set_append_right _ _ (by simp)]
  simp
theorem EU_get {l : List Cel} {i j : Nat} (hi : i ≤ j) (hj : j < l.length) (h : j < (EU l i).length) : (EU l i)[j] = endI l j := by
  unfold EU at h ⊢
  rw [List.getElem_append_right (by simpa using hi)]
  simp only [List.length_replicate, List.getElem_drop]
  rw [endsL_get]
  congr 1; omega
theorem EU_top (l : List Cel) : EU l l.length = List.replicate l.length 0 := by
  unfold EU; rw [List.drop_of_length_le (by rw [endsL_length]; exact Nat.le_refl _), List.append_nil]
theorem EU_zero (l : List Cel) : EU l 0 = endsL l := by unfold EU; simp

end Go.Proofs.YtabjghmfjoefpaaDoor
namespace Go.Proofs.YtabjghmfjoefpaaDoor
open Go.RowKit
attribute [local go_sem] Oper.semAt_some

/-! ### the iterators over the arguments' places -/
/-- the place behind the first j arguments of what stands at i -/
def argP (l : List Cel) (i j : Nat) : Nat := (afterI l (i + 1) j).toNat
def argsL (l : List Cel) (i : Nat) : List Nat := match l[i]? with
  | none => []
  | some c => (List.range (ar c)).map (argP l i)
end Go.Proofs.YtabjghmfjoefpaaDoor

namespace Go.Proofs.YtabjghmfjoefpaaDoor
open Go.RowKit
attribute [local go_sem] Oper.semAt_some

/-- what a round of a loop over places keeps -/
structure KpF (n₀ : Nat) (us : List Nat) (B1 B2 : Nat) (W W' : World) : Prop where
  os : W'.os = W.os
  tape : W'.tape = W.tape
  output : W'.output = W.output
  size : W.heap.size ≤ W'.heap.size
  block : ∀ k, k < n₀ → k ∉ us → W'.heap[k]? = W.heap[k]?
  b1 : W'.heap[B1]? = W.heap[B1]?
  b2 : W'.heap[B2]? = W.heap[B2]?
section
variable {n₀ B1 B2 : Nat} {us : List Nat} {A W W' : World}
theorem KpF.refl (n₀ : Nat) (us : List Nat) (B1 B2 : Nat) (W : World) : KpF n₀ us B1 B2 W W := ⟨rfl, rfl, rfl, Nat.le_refl _, fun _ _ _ => rfl, rfl, rfl⟩
theorem KpF.trans (h : KpF n₀ us B1 B2 A W) (k : KpF n₀ us B1 B2 W W') : KpF n₀ us B1 B2 A W' :=
  ⟨k.os.trans h.os, k.tape.trans h.tape, k.output.trans h.output, Nat.le_trans h.size k.size, fun i hi hn => (k.block i hi hn).trans (h.block i hi hn), k.b1.trans h.b1, k.b2.trans h.b2⟩
theorem KpF.of (h : Below W.heap.size W W') (hn : n₀ ≤ W.heap.size) (h1 : B1 < W.heap.size) (h2 : B2 < W.heap.size) : KpF n₀ us B1 B2 W W' :=
  ⟨h.os, h.tape, h.output, h.size, fun k hk _ => h.block k (by omega), h.block B1 h1, h.block B2 h2⟩
theorem KpF.fr {w : World} (h : Fr us w A) (k : KpF w.heap.size us B1 B2 A W) : Fr us w W :=
  ⟨k.os.trans h.os, k.tape.trans h.tape, k.output.trans h.output, Nat.le_trans h.size k.size, fun i hi hn => (k.block i hi hn).trans (h.block i hi hn)⟩
end
abbrev Place (n : Nat) := { x : Nat // x < n }
def valsP {n : Nat} (l : List (Place n)) : List Nat := l.map Subtype.val
theorem valsP_append {n : Nat} (a b : List (Place n)) : valsP (a ++ b) = valsP a ++ valsP b := by simp [valsP]

end Go.Proofs.YtabjghmfjoefpaaDoor

namespace Go.Proofs.YtabjghmfjoefpaaDoor
open Go.RowKit
attribute [local go_sem] Oper.semAt_some

/-! ### a range over an iterator that itself runs a loop over an iterator: the caller's word bears the turn of any block that is no cells and is new -/
section
variable {α : Type} {F : Fence} {n : Nat} {P : Program}
/-- borne: new blocks; the turn of block x; the turn of a block from B on that is no cells -/
def OwnX {β : Type} (B : Nat) (x : Option Nat) (I : β → World → Prop) : Prop :=
  ∀ s W W' row, I s W → W.grownBy W' row → (∀ r, row = some r → x = some r ∨ (B ≤ r ∧ ∃ o : Obj, W.heap[r]? = some o ∧ o.isCells = false)) → I s W'
theorem OwnX.own {β : Type} {B : Nat} {x : Option Nat} {I : β → World → Prop} (h : OwnX B x I) : OwnFrom B I := fun s A C row hs hg hr => h s A C row hs hg (fun r e => .inr (hr r e))
theorem OwnX.and {β : Type} {B : Nat} {x : Option Nat} {I J : β → World → Prop} (h : OwnX B x I) (k : OwnX B x J) : OwnX B x (fun s W => I s W ∧ J s W) := fun s A C row hs hg hr => ⟨h s A C row hs.1 hg hr, k s A C row hs.2 hg hr⟩
theorem OwnX.more {β : Type} {B B' : Nat} {x : Option Nat} {I : β → World → Prop} (h : OwnX B x I) (hB : B ≤ B') : OwnX B' x I := fun s A C row hs hg hr => h s A C row hs hg (fun r e => (hr r e).imp id (fun q => ⟨Nat.le_trans hB q.1, q.2⟩))
theorem OwnX.drop {β : Type} {B : Nat} {x : Option Nat} {I : β → World → Prop} (h : OwnX B x I) : OwnX B none I := fun s A C row hs hg hr => h s A C row hs hg (fun r e => .inr ((hr r e).resolve_left (fun q => by cases q)))
theorem OwnX.set {β : Type} {B x : Nat} {I : β → World → Prop} (h : OwnX B (some x) I) {s : β} {W : World} (hs : I s W) (v : Value) : I s (W.setCell ⟨x, 0, none⟩ v) :=
  h s W _ (some x) hs (grownBy_setCell' W x v) (fun r e => by cases e; exact .inl rfl)

/-- the iterator's promise to a caller whose word bears that; y: which block, from the call's heap on, the iterator turns; m: how deep its rounds are; T: at what it is called -/
def SeqOwn (F : Fence) (n m : Nat) (y : Option Nat) (P : Program) (g : Nat) (lb : Array Value) (encs : α → Array Value) (Kp : World → World → Prop) (T : List α → α → World → Prop) (S Sp : List α → Prop) (w : World) : Prop :=
  ∀ (l : Nat) (J Jx : List α → World → Prop) (W : World), Below w.heap.size w W → W.heap.size = w.heap.size + 2 → OwnX W.heap.size (y.map (W.heap.size + ·)) J → OwnX W.heap.size (y.map (W.heap.size + ·)) Jx →
    (∀ pre x W1, J pre W1 → T pre x W1 → YieldAt F m P l (encs x) W1 fun e W' =>
      (e = .returned (.bool true) ∧ J (pre ++ [x]) W' ∧ Kp W1 W') ∨ (e = .returned (.bool false) ∧ Jx (pre ++ [x]) W' ∧ Kp W1 W')) →
    J [] W →
    CallsIn F n P g (#[.func (.yield l) #[] #[]] ++ lb) W fun e W' => (∃ v, e = .returned v) ∧ ((∃ xs, S xs ∧ J xs W') ∨ (∃ pre, Sp pre ∧ Jx pre W'))

theorem abides_of_own {β : Type} {B : Nat} {J : β → World → Prop} (h : OwnFrom B J) : AbidesFrom B J := fun s A C row hs hg hr =>
  h s A C row hs hg (fun r e => by
    obtain ⟨h1, o, h2, h3⟩ := hr r e
    exact ⟨h1, o, h2, by cases o <;> simp_all [Obj.isWalk, Obj.isCells]⟩)

/-- the record of a loop -/
abbrev recAt (fn : FuncId) (tmps : Array Value) (ps : Array Tmp) (assign body : Code) (D : Nat) (st : LoopState) (pe : Option Code) : Loop :=
  { state := st, pending := pe, fn := fn, tmps := tmps, params := ps, assign := assign, body := body, defers := D }

variable {fn : FuncId} {tmps : Array Value} {ps : Array Tmp} {assign body : Code}
/-- between two rounds: the record in a state, the block for deferred calls beside it -/
structure Held (fn : FuncId) (tmps : Array Value) (ps : Array Tmp) (assign body : Code) (D : Nat) (st : LoopState) (pe : Option Code) (W : World) : Prop where
  lp : W.heap[D + 1]? = some (.loop (recAt fn tmps ps assign body D st pe))
  df : W.heap[D]? = some (.deferred (some []))
theorem Held.put {D : Nat} {st st' : LoopState} {pe pe' : Option Code} {W : World} (h : Held fn tmps ps assign body D st pe W) :
    Held fn tmps ps assign body D st' pe' (W.putObj (D + 1) (.loop (recAt fn tmps ps assign body D st' pe'))) :=
  ⟨World.putObj_heap_same (Array.getElem?_eq_some_iff.1 h.lp).1, (World.putObj_heap_other (by omega)).trans h.df⟩
/-- the loop's two blocks lie as they lay -/
def Two (D : Nat) (W W' : World) : Prop := W'.heap[D]? = W.heap[D]? ∧ W'.heap[D + 1]? = W.heap[D + 1]?
theorem Held.keeps {D : Nat} {st : LoopState} {pe : Option Code} {W W' : World} (h : Held fn tmps ps assign body D st pe W) (k : Two D W W') : Held fn tmps ps assign body D st pe W' :=
  ⟨k.2.trans h.lp, k.1.trans h.df⟩
/-- how the body of a round may be left -/
def postX (D : Nat) (Kp : World → World → Prop) (I : List α → World → Prop) (Ix : Code → List α → World → Prop) (xs : List α) (W : World) : Exit → Act → World → Prop
  | .normal, _, W' => Two D W W' ∧ Kp W W' ∧ I xs W'
  | .ret, _, W' => Two D W W' ∧ Kp W W' ∧ Ix .ret xs W'
  | .exit id, _, W' => Two D W W' ∧ Kp W W' ∧ Ix (.exit id) xs W'
  | .goto t, _, W' => Two D W W' ∧ Kp W W' ∧ Ix (.goto t) xs W'
  | .panic _, _, _ => False
  | .outgrown, _, _ => False
theorem Held.own {D B : Nat} (hB : D + 2 ≤ B) {x : Option Nat} (hx : ∀ r, x = some r → D + 2 ≤ r) {β : Type} (st : LoopState) (pe : β → Option Code) : OwnX B x (fun (s : β) W => Held fn tmps ps assign body D st (pe s) W) := fun s A C row hs hg hr => by
  have h1 : row ≠ some (D + 1) := fun e => (hr _ e).elim (fun h => by have := hx _ h; omega) (fun h => by have := h.1; omega)
  have h0 : row ≠ some D := fun e => (hr _ e).elim (fun h => by have := hx _ h; omega) (fun h => by have := h.1; omega)
  exact ⟨(hg.block _ (Array.getElem?_eq_some_iff.1 hs.lp).1 (fun e => h1 e.symm)).trans hs.lp, (hg.block _ (Array.getElem?_eq_some_iff.1 hs.df).1 (fun e => h0 e.symm)).trans hs.df⟩

variable {Kp : World → World → Prop} {I : List α → World → Prop} {Ix : Code → List α → World → Prop}
/-- a round's end, out of the body's word -/
theorem round_end {D : Nat} {xs : List α} {W0 W : World} (hI : OwnFrom D I) (hIx : ∀ c, OwnFrom D (Ix c))
    (hKt : ∀ {A B C : World}, Kp A B → Kp B C → Kp A C) (hKb : ∀ (W : World) (o o' : Loop), W.heap[D + 1]? = some (.loop o) → Kp W (W.putObj (D + 1) (.loop o')))
    (hW : Held fn tmps ps assign body D .busy none W) (hK0 : Kp W0 W) (e : Exit) (a : Act) (W3 : World) (hp : postX D Kp I Ix xs W e a W3) :
    roundPost P (D + 1) (fun e W' => (e = .returned (.bool true) ∧ (I xs W' ∧ Held fn tmps ps assign body D .ready none W') ∧ Kp W0 W') ∨
      (e = .returned (.bool false) ∧ (∃ c, Ix c xs W' ∧ Held fn tmps ps assign body D .done (some c) W') ∧ Kp W0 W')) e a W3 := by
  have no : ∀ c, Two D W W3 → Kp W W3 → Ix c xs W3 → ∃ v w', (Instr.endRound (D + 1) (some c)).run P W3 = .ok v w' ∧
      ((Ending.returned v = .returned (.bool true) ∧ (I xs w' ∧ Held fn tmps ps assign body D .ready none w') ∧ Kp W0 w') ∨
      (Ending.returned v = .returned (.bool false) ∧ (∃ c, Ix c xs w' ∧ Held fn tmps ps assign body D .done (some c) w') ∧ Kp W0 w')) := fun c hk hkp hi => by
    have hH := hW.keeps hk
    exact ⟨_, _, run_endRound (some c) hH.lp, .inr ⟨rfl, ⟨c, (hIx c).putObj _ hi (by omega) hH.lp rfl, hH.put⟩, hKt hK0 (hKt hkp (hKb _ _ _ hH.lp))⟩⟩
  cases e with
  | normal =>
    obtain ⟨hk, hkp, hi⟩ := hp
    have hH := hW.keeps hk
    exact ⟨_, _, run_endRound none hH.lp, .inl ⟨rfl, ⟨hI.putObj _ hi (by omega) hH.lp rfl, hH.put⟩, hKt hK0 (hKt hkp (hKb _ _ _ hH.lp))⟩⟩
  | ret => exact no _ hp.1 hp.2.1 hp.2.2
  | exit id => exact no _ hp.1 hp.2.1 hp.2.2
  | goto t => exact no _ hp.1 hp.2.1 hp.2.2
  | panic ch => exact hp.elim
  | outgrown => exact hp.elim

theorem range_own {g : Operand} {Q : Exit → Act → World → Prop} {a : Act} {w : World}
    (hro : F.round = none) (h1 : 1 ≤ n) {gf : Nat} {lb : Array Value} (hg : a.eval g = .func (.func gf) #[] lb) (hFg : F.fn gf) (eg : ∀ args w, (callFunc gf args).run P w = .ok (.enter gf args) w)
    {encs : α → Array Value} {S Sp : List α → Prop} {m : Nat} {y : Option Nat} {T : List α → α → World → Prop} (hseq : SeqOwn F (n - 1) m y P gf lb encs Kp T S Sp w)
    (hKt : ∀ {A B C : World}, Kp A B → Kp B C → Kp A C) (hKb : ∀ (W : World) (o o' : Loop), W.heap[w.heap.size + 1]? = some (.loop o) → Kp W (W.putObj (w.heap.size + 1) (.loop o'))) (hps : ∀ x, (encs x).size = ps.size)
    (hI : OwnX w.heap.size (y.map (w.heap.size + 2 + ·)) I) (hIx : ∀ c, OwnX w.heap.size (y.map (w.heap.size + 2 + ·)) (Ix c)) (h0 : I [] w) (a₁ : α → Act)
    (hassign : ∀ (l : Nat) (x : α) (W : World) (K : Act → World → Prop), K (a₁ x) W →
      assign.wpIn (F.inRound l) m P (Exit.then K (fun _ _ _ => False)) { tmps := (ps.zip (encs x)).foldl (fun t (p, v) => t.setIfInBounds p v) a.tmps, defers := [] } W)
    (hbody : ∀ (l : Nat) (pre : List α) (x : α) (W : World), w.heap.size + 2 ≤ W.heap.size → I pre W → (∃ W', T pre x W' ∧ W'.heap.size = W.heap.size) → body.wpIn (F.inRound l) m P (postX w.heap.size Kp I Ix (pre ++ [x]) W) (a₁ x) W)
    (hdone : ∀ (D : Nat) (xs : List α) (W : World), w.heap.size ≤ D → S xs → I xs W → W.heap[D]? = some (.deferred (some [])) → Q .normal { a with defers := { target := .collected D, args := #[] } :: a.defers } W)
    (hstop : ∀ (D : Nat) (c : Code) (pre : List α) (W : World), w.heap.size ≤ D → Sp pre → Ix c pre W → W.heap[D]? = some (.deferred (some [])) → c.wpIn F n P Q { a with defers := { target := .collected D, args := #[] } :: a.defers } W) :
    (Code.rangeFunc g ps assign body).wpIn F n P Q a w := by
  refine wpIn_rangeFunc (fun fn hfn => ?_)
  rw [hro]
  have hH1 : Held fn a.tmps ps assign body w.heap.size .ready none ((w.alloc (.deferred (some []))).alloc (.loop (recAt fn a.tmps ps assign body w.heap.size .ready none))) :=
    ⟨by have := World.alloc_heap_new (w.alloc (.deferred (some []))) (.loop (recAt fn a.tmps ps assign body w.heap.size .ready none)); rwa [World.size_alloc] at this,
     (Below.heap_alloc _ _ _ (by simp)).trans (World.alloc_heap_new w _)⟩
  have hI1 := hI.own.alloc (.loop (recAt fn a.tmps ps assign body w.heap.size .ready none)) (hI.own.alloc (.deferred (some [])) h0)
  have hb1 : Below w.heap.size w ((w.alloc (.deferred (some []))).alloc (.loop (recAt fn a.tmps ps assign body w.heap.size .ready none))) :=
    ((Below.refl _ w).alloc (Nat.le_refl _) _).alloc (by simp) _
  have hs1 : ((w.alloc (.deferred (some []))).alloc (.loop (recAt fn a.tmps ps assign body w.heap.size .ready none))).heap.size = w.heap.size + 2 := by simp
  refine ⟨w.heap.size + 1, [{ target := .collected w.heap.size, args := #[] }], (w.alloc (.deferred (some []))).alloc (.loop (recAt fn a.tmps ps assign body w.heap.size .ready none)), { target := .fn (.func gf) lb, args := #[.func (.yield (w.heap.size + 1)) #[] #[]] }, (w.alloc (.deferred (some []))).alloc (.loop (recAt fn a.tmps ps assign body w.heap.size .ready none)), gf, #[.func (.yield (w.heap.size + 1)) #[] #[]] ++ lb, (w.alloc (.deferred (some []))).alloc (.loop (recAt fn a.tmps ps assign body w.heap.size .ready none)), run_enterLoop_outer _ _ _ _ _, ?_, ?_, ?_, fun _ => h1, ?_⟩
  · simp only [resolve, hg]
    simp [go_sem]
  · intro f' hf'
    simp [Target.leads] at hf'
    subst hf'
    exact hFg
  · simp [invoke, go_sem, eg]
  · generalize (w.alloc (.deferred (some []))).alloc (.loop (recAt fn a.tmps ps assign body w.heap.size .ready none)) = W1 at hH1 hI1 hb1 hs1
    have lift : ∀ {β : Type} {J : β → World → Prop}, OwnX w.heap.size (y.map (w.heap.size + 2 + ·)) J → OwnX W1.heap.size (y.map (W1.heap.size + ·)) J := fun h => by rw [hs1]; exact h.more (by omega)
    have hy2 : ∀ r, y.map (W1.heap.size + ·) = some r → w.heap.size + 2 ≤ r := fun r e => by
      cases y with
      | none => cases e
      | some z => cases e; dsimp only; omega
    refine (hseq (w.heap.size + 1) (fun pre W => I pre W ∧ Held fn a.tmps ps assign body w.heap.size .ready none W)
      (fun pre W => ∃ c, Ix c pre W ∧ Held fn a.tmps ps assign body w.heap.size .done (some c) W) W1 hb1 hs1
      ((lift hI).and (Held.own (by omega) hy2 _ _)) (fun s A C row hs hg' hr => ?_) ?_ ⟨hI1, hH1⟩).mono ?_
    · obtain ⟨c, h2, h3⟩ := hs
      exact ⟨c, lift (hIx c) s A C row h2 hg' hr, Held.own (β := Unit) (B := W1.heap.size) (by omega) hy2 _ (fun _ => some c) () A C row h3 hg' hr⟩
    · rintro pre x W ⟨hi, hH⟩ hlen
      refine ⟨fn, _, assign, body, run_yield hH.lp (hps x), roundIn_of_wpIn hfn (hassign _ x W _ ⟨_, run_beginRound hH.lp rfl, ?_⟩)⟩
      exact wpIn_mono (hbody _ pre x _ (by have := (Array.getElem?_eq_some_iff.1 hH.lp).1; simp; omega) (hI.own.putObj _ hi (by omega) hH.lp rfl) ⟨_, hlen, by simp⟩) (round_end hI.own (fun c => (hIx c).own) hKt hKb hH.put (hKb _ _ _ hH.lp))
    · rintro e W2 ⟨⟨v, rfl⟩, (⟨xs, hS, hi, hH⟩ | ⟨pre, hSp, c, hi, hH⟩)⟩
      · exact ⟨none, _, run_endLoop hH.lp (by simp), hdone _ xs _ (Nat.le_refl _) hS (hI.own.putObj _ hi (by omega) hH.lp rfl) ((World.putObj_heap_other (by omega)).trans hH.df)⟩
      · exact ⟨some c, _, run_endLoop hH.lp (by simp), hstop _ c pre _ (Nat.le_refl _) hSp ((hIx c).own.putObj _ hi (by omega) hH.lp rfl) ((World.putObj_heap_other (by omega)).trans hH.df)⟩
end
end Go.Proofs.YtabjghmfjoefpaaDoor

namespace Go.Proofs.YtabjghmfjoefpaaDoor
open Go.RowKit
attribute [local go_sem] Oper.semAt_some

theorem OwnX.of {β : Type} {B : Nat} {I : β → World → Prop} (h : OwnFrom B I) : OwnX B none I := fun s A C row hs hg hr => h s A C row hs hg (fun r e => (hr r e).resolve_left (fun q => by cases q))
theorem ownX_fr {β : Type} {B : Nat} {us : List Nat} {w : World} (hB : w.heap.size ≤ B) : OwnX B none (fun (_ : β) W => Fr us w W) := OwnX.of (fun _ A C row hs hg hr =>
  ⟨hg.os.trans hs.os, hg.tape.trans hs.tape, hg.output.trans hs.output, Nat.le_trans hs.size hg.size, fun k hk hn =>
    (hg.block k (Nat.lt_of_lt_of_le hk hs.size) (fun e => by have := (hr k e.symm).1; omega)).trans (hs.block k hk hn)⟩)

/-- what a round keeps: the blocks below a place in the heap, but some -/
structure KpN (N : Nat) (us : List Nat) (W W' : World) : Prop where
  os : W'.os = W.os
  tape : W'.tape = W.tape
  output : W'.output = W.output
  size : W.heap.size ≤ W'.heap.size
  block : ∀ k, k < N → k ∉ us → W'.heap[k]? = W.heap[k]?
section
variable {N : Nat} {us : List Nat} {A W W' : World}
theorem KpN.refl (N : Nat) (us : List Nat) (W : World) : KpN N us W W := ⟨rfl, rfl, rfl, Nat.le_refl _, fun _ _ _ => rfl⟩
theorem KpN.trans (h : KpN N us A W) (k : KpN N us W W') : KpN N us A W' :=
  ⟨k.os.trans h.os, k.tape.trans h.tape, k.output.trans h.output, Nat.le_trans h.size k.size, fun i hi hn => (k.block i hi hn).trans (h.block i hi hn)⟩
theorem KpN.of (h : Below N W W') : KpN N us W W' := ⟨h.os, h.tape, h.output, h.size, fun k hk _ => h.block k hk⟩
theorem KpN.fr {w : World} (h : Fr us w W) (k : KpN N us W W') (hN : w.heap.size ≤ N) : Fr us w W' :=
  ⟨k.os.trans h.os, k.tape.trans h.tape, k.output.trans h.output, Nat.le_trans h.size k.size, fun i hi hn => (k.block i (by omega) hn).trans (h.block i hi hn)⟩
theorem KpN.le {M : Nat} (k : KpN N us W W') (h : M ≤ N) : KpN M us W W' := ⟨k.os, k.tape, k.output, k.size, fun i hi hu => k.block i (by omega) hu⟩
theorem KpN.cell {b o : Nat} {v : Value} (k : KpN N us W W') (h : b < N ∧ b ∉ us) (hc : W.cell? ⟨b, o, none⟩ = some v) : W'.cell? ⟨b, o, none⟩ = some v := (World.cell?_of_block (a := ⟨b, o, none⟩) (k.block _ h.1 h.2)).trans hc
theorem ownX_kpn {β : Type} {B : Nat} (hN : N ≤ W.heap.size) (hB : N ≤ B) : OwnX B none (fun (_ : β) W' => KpN N us W W') := OwnX.of (fun _ A C row hs hg hr =>
  ⟨hg.os.trans hs.os, hg.tape.trans hs.tape, hg.output.trans hs.output, Nat.le_trans hs.size hg.size, fun k hk hn =>
    (hg.block k (by have := hs.size; omega) (fun e => by have := (hr k e.symm).1; omega)).trans (hs.block k hk hn)⟩)
theorem KpN.two {D : Nat} (k : KpN N us W W') (h : D + 2 ≤ N) (hu : D ∉ us ∧ D + 1 ∉ us) : Two D W W' := ⟨k.block _ (by omega) hu.1, k.block _ (by omega) hu.2⟩
theorem KpN.kpf {n₀ B1 B2 : Nat} (k : KpN N us W W') (hn : n₀ ≤ N) (h1 : B1 < N ∧ B1 ∉ us) (h2 : B2 < N ∧ B2 ∉ us) : KpF n₀ us B1 B2 W W' :=
  ⟨k.os, k.tape, k.output, k.size, fun i hi hu => k.block i (by omega) hu, k.block _ h1.1 h1.2, k.block _ h2.1 h2.2⟩
theorem KpN.boxed {B : Nat} {t : TypeId} {v : Value} (k : KpN N us W W') (h : B < N ∧ B ∉ us) (hb : Boxed W B t v) : Boxed W' B t v := (k.block _ h.1 h.2).trans hb
end

end Go.Proofs.YtabjghmfjoefpaaDoor
set_option linter.unusedVariables false
namespace Go.Proofs.YtabjghmfjoefpaaDoor
open Go.RowKit
attribute [local go_sem] Oper.semAt_some

/-! ### the texts of terms, one by one, each by a writer of its own -/
/-- the program's writing of terms of so many cells -/
def TermW (B N : Nat) : Prop := ∀ (t : Tm) (b : Nat) (g : Option Nat) (l : List UInt8) (a : Option Addr) (cap : Nat) (w : World), t.ok → t.flat.length ≤ N → (l ++ textT t).length ≤ 1000000000 → Wr b g l w → B ≤ b → (∀ k, g = some k → B ≤ k) → PowAt B w → Row (veil (wus b g) w) a cap t.flat →
  Calls Tryd.prog 57 #[.pointer (some ⟨b, 0, none⟩), .slice a t.flat.length cap] w fun e w' => e = .returned (.tuple #[]) ∧ Wrote b g (l ++ textT t) w w'

theorem veil_new {us : List Nat} {w : World} {b : Nat} (h : w.heap.size ≤ b) (o : Obj) : Keeps (veil us w) (veil (wus b none) (w.alloc o)) := by
  intro c o' v hc
  obtain ⟨h1, h2⟩ := veil_cell hc
  refine veil_of (fun e => ?_) (((Below.refl w.heap.size w).new o).cell (p := ⟨c, o', none⟩) (cell_lt h2) ▸ h2)
  have hl := cell_lt h2
  simp [wus] at e
  omega
theorem takeT_next {ts : List Tm} {k : Nat} (h : k < ts.length) : (textsT ts).take (k + 1) = (textsT ts).take k ++ [textT ts[k]] := by
  have hk : k < (textsT ts).length := by simpa [textsT] using h
  rw [List.take_succ_eq_append_getElem hk]
  simp [textsT]
theorem fr_of_kpn {N : Nat} {us : List Nat} {w W W' : World} (h : Fr us w W) (k : KpN N us W W') (hN : w.heap.size ≤ N) : Fr us w W' := KpN.fr h k hN

set_option maxRecDepth 100000 in
set_option maxHeartbeats 8000000 in
theorem texts1_own {B N : Nat} (HT : TermW B N) (n : Nat) (hn : 2 ≤ n) (Bl Bw M : Nat) (us : List Nat) (w : World) {ts : List Tm} {al : Option Addr} {cl : Nat} (hR : Row (veil us w) al cl (ts.map Tm.flat)) (hok : ∀ t ∈ ts, t.ok) (hN : ∀ t ∈ ts, t.flat.length ≤ N) (hx : ∀ t ∈ ts, (textT t).length ≤ 1000000000)
    (hp : PowAt B w) (hus : ∀ k ∈ us, B ≤ k) (w1 : World) (hw1 : Fr us w w1) (hl0 : w1.cell? ⟨Bl, 0, none⟩ = some (.slice al ts.length cl)) (hf0 : w1.cell? ⟨Bw, 0, none⟩ = some (.func (.func 57) #[] #[])) (hBw : Bw < M ∧ Bw ∉ us) (hM : w.heap.size ≤ M) (hM1 : M ≤ w1.heap.size) :
    SeqOwn Fence.wide n (n - 1) none Tryd.prog 105 #[.pointer (some ⟨Bl, 0, none⟩), .pointer (some ⟨Bw, 0, none⟩)] (fun s : List UInt8 => #[.string (tx s)]) (KpN M us)
      (fun pre x _ => pre ++ [x] <+: textsT ts) (fun zs => zs = textsT ts) (fun _ => True) w1 := by
  intro l0 J Jx W hW hsz hJ hJx hY h0
  have h1n : 1 ≤ n := by omega
  have c1 := (hW.cell (p := ⟨Bl, 0, none⟩) (cell_lt hl0)).trans hl0
  have c2 := (hW.cell (p := ⟨Bw, 0, none⟩) (cell_lt hf0)).trans hf0
  have hFW : Fr us w W := hw1.trans (Fr.of hW)
  have hwW := hW.size
  have hm := hR.max
  have hle := hR.le
  rw [List.length_map] at hle
  have HR := mkHid hR
  have HTM := mkHid HT
  have HOK := mkHid hok
  have HN := mkHid hN
  have HX := mkHid hx
  have HP := mkHid hp
  have HFW := mkHid hFW
  have HJ := mkHid hJ
  have HY := mkHid hY
  clear hR HT hok hN hx hp hFW hJ hY hl0 hf0 hsz
  refine callsIn_of_wp Tryd.func105 rfl trivial ?_ rfl
  simp only [Tryd.ntmps105, List.size_toArray, List.length_cons, List.length_nil, Nat.reduceAdd, Nat.reduceSub, Array.replicate_succ, Array.replicate_zero, List.push_toArray, List.append_toArray, List.nil_append, List.cons_append]
  gi_wp2
  gi_loopw [9] (fun i wr => ∃ (k : Nat) (pre : List (List UInt8)), k ≤ ts.length ∧ i = .int .i64 k ∧ Hid (pre = (textsT ts).take k) ∧ J pre wr ∧ KpN M us W wr) (fun i _ => ts.length - (intOf i).toNat)
  case atStart => exact ⟨0, [], Nat.zero_le _, rfl, rfl, h0, KpN.refl _ _ _⟩
  case round =>
    obtain ⟨k, pre, hk, rfl, HPR, hJs, hkp⟩ := hrel
    by_cases hlt : k < ts.length
    · have hRW := HR.out.keeps (fr_of_kpn HFW.out (hkp.le (Nat.le_refl _)) (by omega)).keeps
      obtain ⟨b, off, rfl, hb, hat⟩ := hRW.cases.resolve_left (fun e => by
        have h : (ts.map Tm.flat).length = 0 := by rw [e]; rfl
        rw [List.length_map] at h; omega)
      have hlt' : k < (ts.map Tm.flat).length := by simpa using hlt
      obtain ⟨a1, cap1, d0, hr1⟩ := list_at hat (Below.refl _ _) hlt'
      have e1 : (ts.map Tm.flat)[k] = ts[k].flat := by simp
      rw [e1] at d0 hr1
      have d0' := (veil_cell d0).2
      have hmem := List.getElem_mem hlt
      have g2 := keep (hkp.cell hBw c2) ((Below.refl wr.heap.size wr).new (.cells #[.pointer none, .slice none 0 0] 70))
      have hps := HP.out.fr (fr_of_kpn HFW.out (hkp.le (Nat.le_refl _)) (by omega)) hus
      have hpB := hps.pow
      have HNX : Hid (pre ++ [textT ts[k]] = (textsT ts).take (k + 1)) := by rw [Hid, takeT_next hlt, HPR.out]
      have HPF : Hid (pre ++ [textT ts[k]] <+: textsT ts) := by rw [Hid, HNX.out]; exact List.take_prefix _ _
      have hcall := HTM.out ts[k] wr.heap.size none [] a1 cap1 (w0 wr) (HOK.out _ hmem) (HN.out _ hmem) (by rw [List.nil_append]; exact HX.out _ hmem) (Wr.new wr)
        (by obtain ⟨w0', _, _, h3, _⟩ := hps; exact h3) (fun k e => by cases e) (hps.below ((Below.refl _ _).new _)) (hr1.keeps (veil_new (Nat.le_refl _) _))
      rw [List.nil_append] at hcall
      have HC := mkHid hcall
      have HJS := mkHid hJs
      clear hcall hRW hat hb hr1 d0 e1 hlt' hmem hps hpB hJs
      gi_wp2_with fail
      refine ⟨trivial, ((callsIn_wide (n := n - 1)).2 HC.out).mono ?_⟩
      rintro e w3 ⟨rfl, hwr⟩
      obtain ⟨g, hg1, hg2, hb3⟩ := new_own rfl hwr
      have hst : Calls Tryd.prog 35 #[.pointer (some ⟨wr.heap.size, 0, none⟩)] w3 fun e w' => e = .returned (.string (tx (textT ts[k]))) ∧ Below wr.heap.size w3 w' := str_w wr.heap.size wr.heap.size g (textT ts[k]) w3 hg1 (Nat.le_refl _) hg2 hb3.size
      have HST := mkHid hst
      have HB3 := mkHid hb3
      clear hst hb3 hg1 hg2 hwr
      gi_wp2_with fail
      refine ⟨trivial, ((callsIn_wide (n := n - 1)).2 HST.out).mono ?_⟩
      rintro e w4 ⟨rfl, hb4⟩
      have hb34 := HB3.out.trans hb4
      have hJ4 := HJ.out pre wr w4 none HJS.out (below_grown hb34 none) (fun r e => by cases e)
      obtain ⟨fn, tmps, assign, body, hy, hR⟩ := HY.out pre (textT ts[k]) w4 hJ4 HPF.out
      try dsimp only at hy
      have HB34 := mkHid hb34
      have HKP := mkHid hkp
      have hsr := hkp.size
      clear hb4 hb34 hJ4 hkp
      gi_wp2
      refine hR.mono ?_
      rintro e W3 (⟨rfl, hJ5, hk5⟩ | ⟨rfl, hJx5, hk5⟩)
      · have hkw := (HKP.out.trans (KpN.of (HB34.out.mono (by omega)))).trans hk5
        gi_wp2
        go_roundw
        case rel => exact ⟨k + 1, _, by omega, by go_num, HNX, hJ5, hkw⟩
        case measure => simp [intOf]; omega
      · gi_wp2
        refine bodyPost_ret (results_none rfl _ _ _) rfl ?_
        exact ⟨⟨_, rfl⟩, .inr ⟨_, trivial, hJx5⟩⟩
    · have HE : Hid (pre = textsT ts) := by rw [Hid, HPR.out, List.take_of_length_le (by simp [textsT]; omega)]
      gi_wp2
      go_end0
      exact ⟨⟨_, rfl⟩, .inl ⟨_, HE.out, hJs⟩⟩
end Go.Proofs.YtabjghmfjoefpaaDoor
set_option linter.unusedVariables false
namespace Go.Proofs.YtabjghmfjoefpaaDoor
open Go.RowKit
attribute [local go_sem] Oper.semAt_some

/-! ### the texts with a sign between any two -/
def interS (s : List UInt8) : List (List UInt8) → List (List UInt8)
  | [] => []
  | x :: r => x :: r.flatMap fun y => [s, y]
theorem interS_one (s x : List UInt8) : interS s [x] = [x] := rfl
theorem interS_snoc (s : List UInt8) {l : List (List UInt8)} (h : l ≠ []) (x : List UInt8) : interS s (l ++ [x]) = (interS s l ++ [s]) ++ [x] := by
  cases l with
  | nil => exact absurd rfl h
  | cons y l => simp [interS]
theorem interS_flat (s : List UInt8) (l : List (List UInt8)) : (interS s l).flatten = sepL s l := by
  cases l with
  | nil => rfl
  | cons x l =>
    simp only [interS, sepL, List.flatten_cons]
    congr 1
    induction l with
    | nil => rfl
    | cons y l ih => simp [ih]
theorem interS_pre (s : List UInt8) {p q : List (List UInt8)} (h : p <+: q) : interS s p <+: interS s q := by
  obtain ⟨r, rfl⟩ := h
  cases p with
  | nil => exact List.nil_prefix
  | cons x p =>
    simp only [interS, List.cons_append, List.flatMap_append]
    exact ⟨r.flatMap fun y => [s, y], by simp⟩
theorem interS_mid (s : List UInt8) {p q : List (List UInt8)} {x : List UInt8} (h : p ++ [x] <+: q) (hp : p ≠ []) : interS s p ++ [s] <+: interS s q := by
  have h1 := interS_pre s h
  rw [interS_snoc s hp x] at h1
  exact (List.prefix_append _ _).trans h1
theorem interS_end (s : List UInt8) {p q : List (List UInt8)} {x : List UInt8} (h : p ++ [x] <+: q) (hp : p ≠ []) : (interS s p ++ [s]) ++ [x] <+: interS s q := by
  have h1 := interS_pre s h
  rwa [interS_snoc s hp x] at h1

theorem kpn_sub {M : Nat} {us us0 : List Nat} {W W' : World} (hsub : ∀ k ∈ us, k ∈ us0 ∨ M ≤ k) (h : KpN M us W W') : KpN M us0 W W' :=
  ⟨h.os, h.tape, h.output, h.size, fun k hk hn => h.block k hk (fun e => (hsub k e).elim hn (fun q => by omega))⟩

set_option maxRecDepth 100000 in
set_option maxHeartbeats 8000000 in
theorem between1_own (n : Nat) (hn : 6 ≤ n) (Bi Bs M : Nat) (us us0 : List Nat) (hsub : ∀ k ∈ us, k ∈ us0 ∨ M ≤ k) (w1 : World) (sign : List UInt8) (xs : List (List UInt8)) (gf : Nat) (lb : Array Value) (eg : ∀ args w, (callFunc gf args).run Tryd.prog w = .ok (.enter gf args) w)
    (hseq : ∀ W : World, Below w1.heap.size w1 W → SeqOwn Fence.wide (n - 1) (n - 1 - 1) none Tryd.prog gf lb (fun s : List UInt8 => #[.string (tx s)]) (KpN M us0) (fun pre x _ => pre ++ [x] <+: xs) (fun zs => zs = xs) (fun _ => True) W)
    (ci : w1.cell? ⟨Bi, 0, none⟩ = some (.func (.func gf) #[] lb)) (cs : w1.cell? ⟨Bs, 0, none⟩ = some (.string (tx sign))) (hM : M ≤ w1.heap.size) (hBs : Bs ∉ us) (hus : ∀ k ∈ us, k < w1.heap.size + 2) :
    SeqOwn Fence.wide n (n - 1 - 1 - 1) (some 1) Tryd.prog 91 #[.pointer (some ⟨Bi, 0, none⟩), .pointer (some ⟨Bs, 0, none⟩)] (fun s : List UInt8 => #[.string (tx s)]) (KpN (w1.heap.size + 6) us)
      (fun pre x W => pre ++ [x] <+: interS sign xs ∧ w1.heap.size + 6 ≤ W.heap.size) (fun zs => zs = interS sign xs) (fun _ => True) w1 := by
  intro l0 J Jx W hW hsz hJ hJx hY h0
  have h1n : 1 ≤ n := by omega
  have c1 := (hW.cell (p := ⟨Bi, 0, none⟩) (cell_lt ci)).trans ci
  have c2 := (hW.cell (p := ⟨Bs, 0, none⟩) (cell_lt cs)).trans cs
  have b2 := cell_lt cs
  have HS := mkHid hsz
  have HSEQ := mkHid hseq
  have HY := mkHid hY
  have HJ := mkHid hJ
  have HJX := mkHid hJx
  have HW := mkHid hW
  have HE := mkHid eg
  clear hsz hseq hY ci cs
  refine callsIn_of_wp_marks Tryd.func91 rfl trivial ?_ rfl
  simp only [Tryd.ntmps91, List.size_toArray, List.length_cons, List.length_nil, Nat.reduceAdd, Nat.reduceSub, Array.replicate_succ, Array.replicate_zero, List.push_toArray, List.append_toArray, List.nil_append, List.cons_append]
  have bY := (Boxed.new W 103 (.func (.yield l0) #[] #[])).alloc (.cells #[.bool false] 4)
  have bG := Boxed.new (W.alloc (.cells #[.func (.yield l0) #[] #[]] 103)) 4 (.bool false)
  have hJs := hJ.own.alloc (.cells #[.bool false] 4) (hJ.own.alloc (.cells #[.func (.yield l0) #[] #[]] 103) h0)
  have hBs2 := ((Below.refl W.heap.size W).new (.cells #[.func (.yield l0) #[] #[]] 103)).new (.cells #[.bool false] 4)
  have hss : ((W.alloc (.cells #[.func (.yield l0) #[] #[]] 103)).alloc (.cells #[.bool false] 4)).heap.size = W.heap.size + 2 := by simp
  have c3 := keep c1 hBs2
  simp only [World.size_alloc] at bG
  clear hJ hJx
  gi_wp2
  generalize (W.alloc (.cells #[.func (.yield l0) #[] #[]] 103)).alloc (.cells #[.bool false] 4) = Ws at bY bG hJs hBs2 hss c3 ⊢
  have hsz1 := Nat.le_of_eq HS.out
  have hsz2 := Nat.le_of_eq HS.out.symm
  have hss1 := Nat.le_of_eq hss
  have hss2 := Nat.le_of_eq hss.symm
  have hwW := HW.out.size
  clear hss
  have hus2 : ∀ k, w1.heap.size + 2 ≤ k → k ∉ us := fun k hk hm => by have := hus k hm; omega
  refine range_own (F := Fence.wide) rfl h1n (gf := gf) (lb := lb) rfl trivial HE.out (HSEQ.out Ws (HW.out.then hBs2))
    KpN.trans (fun A o o' _ => ⟨rfl, rfl, rfl, by simp, fun k hk _ => World.putObj_heap_other (by omega)⟩) (fun _ => rfl)
    (I := fun pre W' => J (interS sign pre) W' ∧ (Boxed W' (W.heap.size + 1) 4 (.bool (!pre.isEmpty)) ∧ (Boxed W' W.heap.size 103 (.func (.yield l0) #[] #[]) ∧ KpN W.heap.size us W W')))
    (Ix := fun c pre W' => c = .ret ∧ ∃ ps, Jx ps W')
    ?hI ?hIx ?h0 ?a1 ?assign ?body ?done ?stop
  case hI =>
    refine OwnX.and (fun s A C' row hs hg hr => HJ.out.drop.more (by omega) _ A C' row hs hg hr) (OwnX.and (OwnX.of (Own.from (boxed_own _ _ _) _)) (OwnX.and (OwnX.of (Own.from (boxed_own _ _ _) _)) (ownX_kpn (Nat.le_refl _) (by omega))))
  case hIx =>
    rintro c s A C' row ⟨e1, ps, e3⟩ hg hr
    exact ⟨e1, ps, HJX.out.drop.more (by omega) ps A C' row e3 hg hr⟩
  case h0 => exact ⟨hJs, bG, bY, KpN.of hBs2⟩
  case assign =>
    intro l2 x W' K hK
    gi_wp2
    exact hK
  case body =>
    rintro l2 pre x W' hsz3 ⟨hJ', bG', bY', hK'⟩ ⟨Wt, hT, hst⟩
    have hT6 : w1.heap.size + 6 ≤ W'.heap.size := by omega
    have h1' : 1 ≤ n - 1 - 1 := by omega
    have nG : W.heap.size + 1 < w1.heap.size + 6 ∧ W.heap.size + 1 ∉ us := ⟨by omega, hus2 _ (by omega)⟩
    have nY : W.heap.size < w1.heap.size + 6 ∧ W.heap.size ∉ us := ⟨by omega, hus2 _ (by omega)⟩
    have cY := bY'.cell
    have cG := bG'.cell
    have cS := hK'.cell ⟨by omega, hBs⟩ c2
    have HK' := mkHid hK'
    -- the end of a round whose last text was taken
    have last : ∀ (W2 W3 : World), KpN (w1.heap.size + 6) us W' W2 → KpN (w1.heap.size + 6) us W2 W3 → J (interS sign (pre ++ [x])) W3 → Boxed W3 (W.heap.size + 1) 4 (.bool (!pre.isEmpty)) → Boxed W3 W.heap.size 103 (.func (.yield l0) #[] #[]) →
        Two Ws.heap.size W' (W3.setCell ⟨W.heap.size + 1, 0, none⟩ (.bool true)) ∧ KpN M us0 W' (W3.setCell ⟨W.heap.size + 1, 0, none⟩ (.bool true)) ∧ (J (interS sign (pre ++ [x])) (W3.setCell ⟨W.heap.size + 1, 0, none⟩ (.bool true)) ∧ (Boxed (W3.setCell ⟨W.heap.size + 1, 0, none⟩ (.bool true)) (W.heap.size + 1) 4 (.bool (!(pre ++ [x]).isEmpty)) ∧ (Boxed (W3.setCell ⟨W.heap.size + 1, 0, none⟩ (.bool true)) W.heap.size 103 (.func (.yield l0) #[] #[]) ∧ KpN W.heap.size us W (W3.setCell ⟨W.heap.size + 1, 0, none⟩ (.bool true))))) := by
      intro W2 W3 k2 k3 hJ3 bG3 bY3
      have k := k2.trans k3
      have hoth : ∀ q, q ≠ W.heap.size + 1 → (W3.setCell ⟨W.heap.size + 1, 0, none⟩ (.bool true)).heap[q]? = W3.heap[q]? := fun q hq => Below.heap_setCell W3 ⟨W.heap.size + 1, 0, none⟩ _ q hq
      have hT3 := k.two (D := Ws.heap.size) (by omega) ⟨hus2 _ (by omega), hus2 _ (by omega)⟩
      have hset : ∀ N, N ≤ W.heap.size + 1 → KpN N us W3 (W3.setCell ⟨W.heap.size + 1, 0, none⟩ (.bool true)) := fun N hN => ⟨rfl, rfl, rfl, by simp [World.setCell], fun q hq _ => hoth q (by omega)⟩
      refine ⟨⟨(hoth _ (by omega)).trans hT3.1, (hoth _ (by omega)).trans hT3.2⟩, kpn_sub hsub ((k.le (by omega)).trans (hset _ (by omega))), ?_, ?_, (hoth _ (by omega)).trans bY3, ((HK'.out.trans (k.le (by omega))).trans (hset _ (by omega)))⟩
      · exact HJ.out _ W3 _ (some (W.heap.size + 1)) hJ3 ⟨rfl, rfl, rfl, by simp [World.setCell], fun q _ hne => hoth q (fun e => hne (by rw [e]))⟩ (fun r e => by cases e; exact .inl rfl)
      · have := bG3.set (.bool true)
        have e : (pre ++ [x]).isEmpty = false := by cases pre <;> rfl
        rw [e]; exact this
    have LAST := mkHid last
    clear last hK'
    cases pre with
    | nil =>
      replace cG : W'.cell? ⟨W.heap.size + 1, 0, none⟩ = some (.bool false) := cG
      obtain ⟨fn, tmps, assign, body, hy, hR⟩ := HY.out (interS sign []) x W' hJ' ⟨by have := interS_pre sign hT; exact this, hT6⟩
      try dsimp only at hy
      clear hJ' hT hst c3
      gi_wp2
      refine ⟨fun f e => (by cases e), ?_⟩
      gi_wp2
      refine hR.mono ?_
      rintro e W3 (⟨rfl, hJ3, hk3⟩ | ⟨rfl, hJx3, hk3⟩)
      · have bG3 := hk3.boxed nG bG'
        have bY3 := hk3.boxed nY bY'
        have cG3 := bG3.cell
        have fG3 := bG3.frozen
        have HL := mkHid (LAST.out W' W3 (KpN.refl _ _ _) hk3 hJ3 bG3 bY3)
        clear hJ3 hk3
        gi_wp2
        exact HL.out
      · gi_wp2
        exact ⟨hk3.two (D := Ws.heap.size) (by omega) ⟨hus2 _ (by omega), hus2 _ (by omega)⟩, kpn_sub hsub (hk3.le (by omega)), rfl, _, hJx3⟩
    | cons p pr =>
      replace cG : W'.cell? ⟨W.heap.size + 1, 0, none⟩ = some (.bool true) := cG
      have hne : p :: pr ≠ [] := by simp
      have HTE := mkHid (interS_end sign hT hne)
      obtain ⟨fn, tmps, assign, body, hy, hR⟩ := HY.out (interS sign (p :: pr)) sign W' hJ' ⟨interS_mid sign hT hne, hT6⟩
      try dsimp only at hy
      clear hJ' hT hst c3
      gi_wp2
      refine hR.mono ?_
      rintro e W3 (⟨rfl, hJ3, hk3⟩ | ⟨rfl, hJx3, hk3⟩)
      · have bG3 := hk3.boxed nG bG'
        have bY3 := hk3.boxed nY bY'
        have cY3 := bY3.cell
        have hT3 : w1.heap.size + 6 ≤ W3.heap.size := by have := hk3.size; omega
        obtain ⟨fn2, tmps2, assign2, body2, hy2, hR2⟩ := HY.out _ x W3 hJ3 ⟨HTE.out, hT3⟩
        try dsimp only at hy2
        have HK3 := mkHid hk3
        clear hJ3 hk3 hy hR cY cS
        gi_wp2
        refine hR2.mono ?_
        rintro e W4 (⟨rfl, hJ4, hk4⟩ | ⟨rfl, hJx4, hk4⟩)
        · have bG4 := hk4.boxed nG bG3
          have bY4 := hk4.boxed nY bY3
          have cG4 := bG4.cell
          have fG4 := bG4.frozen
          rw [← interS_snoc sign hne x] at hJ4
          have HL := mkHid (LAST.out W3 W4 HK3.out hk4 hJ4 bG4 bY4)
          clear hJ4 hk4
          gi_wp2
          exact HL.out
        · have k := HK3.out.trans hk4
          gi_wp2
          exact ⟨k.two (D := Ws.heap.size) (by omega) ⟨hus2 _ (by omega), hus2 _ (by omega)⟩, kpn_sub hsub (k.le (by omega)), rfl, _, hJx4⟩
      · gi_wp2
        refine ⟨fun f e => (by cases e), ?_⟩
        gi_wp2
        exact ⟨hk3.two (D := Ws.heap.size) (by omega) ⟨hus2 _ (by omega), hus2 _ (by omega)⟩, kpn_sub hsub (hk3.le (by omega)), rfl, _, hJx3⟩
  case done =>
    rintro D zs W' hD hS ⟨hJ', _, _, _⟩ hK
    subst hS
    have hJ2 : J (interS sign zs) (W'.putObj D (.deferred none)) := HJ.out.own.putObj _ hJ' (by omega) hK rfl
    gi_wp2
    refine ⟨by simp, .inl ⟨_, _, rfl, run_takeDeferred hK, ?_⟩⟩
    exact ⟨_, results_none rfl _ _ _, ⟨_, rfl⟩, .inl ⟨_, rfl, hJ2⟩⟩
  case stop =>
    rintro D c pre W' hD _ ⟨rfl, ps, hJ'⟩ hK
    have hJ2 : Jx ps (W'.putObj D (.deferred none)) := HJX.out.own.putObj _ hJ' (by omega) hK rfl
    gi_wp2
    refine ⟨by simp, .inl ⟨_, _, rfl, run_takeDeferred hK, ?_⟩⟩
    exact ⟨_, results_none rfl _ _ _, ⟨_, rfl⟩, .inr ⟨ps, trivial, hJ2⟩⟩
end Go.Proofs.YtabjghmfjoefpaaDoor
set_option linter.unusedVariables false
namespace Go.Proofs.YtabjghmfjoefpaaDoor
open Go.RowKit
attribute [local go_sem] Oper.semAt_some

/-! ### texts joined by a writer -/
theorem Wr.cells {b : Nat} {g : Option Nat} {l : List UInt8} {w : World} (h : Wr b g l w) : ∀ k ∈ wus b g, ∃ o : Obj, w.heap[k]? = some o ∧ o.isCells = true := by
  obtain ⟨⟨p, v, _, hbk, hown, hv⟩, _⟩ := h
  intro k hk
  rcases mem_wus.1 hk with rfl | e
  · exact ⟨_, hbk, rfl⟩
  · rw [← hv] at e
    rcases hown.2 with ⟨rfl, _⟩ | ⟨q, cap, cur, rfl, _, hq, _⟩
    · simp [Value.ownBlock] at e
    · simp [Value.ownBlock] at e
      subst e
      exact ⟨_, hq, rfl⟩
theorem fr_row {w w' : World} {r : Option Nat} (h : w.grownBy w' r) : Fr r.toList w w' :=
  ⟨h.os, h.tape, h.output, h.size, fun k hk hn => h.block k hk fun e => hn (by rw [← e]; simp)⟩
/-- what stands while texts are joined: what came so far is written -/
structure JoinI (b : Nat) (g : Option Nat) (l : List UInt8) (w1 : World) (pre : List (List UInt8)) (W : World) : Prop where
  ex : ∃ g', Wr b g' (l ++ pre.flatten) W ∧ ∀ k, g' = some k → g = some k ∨ w1.heap.size + 6 ≤ k
  kp : KpN w1.heap.size (wus b g) w1 W
theorem JoinI.own {b : Nat} {g : Option Nat} {l : List UInt8} {w1 : World} (hb : b < w1.heap.size) (hg : ∀ k, g = some k → k < w1.heap.size) : OwnX w1.heap.size (some (w1.heap.size + 2 + 1)) (JoinI b g l w1) := by
  intro s W W' row h hg2 hr
  obtain ⟨⟨g', hw, hn⟩, hk⟩ := h
  refine ⟨⟨g', hw.fr (fr_row hg2) (fun k hk2 hm => ?_), hn⟩, ?_⟩
  · have hrow : row = some k := by cases row <;> simp_all
    rcases hr k hrow with e | ⟨e1, o, e2, e3⟩
    · injection e with e
      rcases mem_wus.1 hk2 with rfl | e4
      · omega
      · rcases hn k e4 with e5 | e5
        · have := hg k e5; omega
        · omega
    · obtain ⟨o', h1, h2⟩ := hw.cells k hk2
      rw [e2] at h1
      injection h1 with h1
      rw [h1, h2] at e3
      cases e3
  · refine ⟨hg2.os.trans hk.os, hg2.tape.trans hk.tape, hg2.output.trans hk.output, Nat.le_trans hk.size hg2.size, fun k h1 h2 => (hg2.block k (by have := hk.size; omega) (fun e => ?_)).trans (hk.block k h1 h2)⟩
    rcases hr k e.symm with e4 | ⟨e1, _⟩
    · injection e4 with e4; omega
    · omega
theorem Two.of {D : Nat} {W W' : World} {N : Nat} {us : List Nat} (k : KpN N us W W') (h : D + 2 ≤ N) (h1 : D ∉ us) (h2 : D + 1 ∉ us) : Two D W W' := k.two h ⟨h1, h2⟩

theorem between_any (s : ByteArray) (gf : Nat) (lb : Array Value) (w : World) :
    Calls Tryd.prog 73 #[.string s, .func (.func gf) #[] lb] w fun e w' => e = .returned (.func (.func 91) #[] #[.pointer (some ⟨w.heap.size + 1, 0, none⟩), .pointer (some ⟨w.heap.size, 0, none⟩)]) ∧ w' = (w.alloc (.cells #[.string s] 9)).alloc (.cells #[.func (.func gf) #[] lb] 98) := by
  go_enter Tryd.func73, Tryd.ntmps73
  go_wp2
  go_ret
  exact ⟨rfl, rfl⟩

set_option maxRecDepth 100000 in
set_option maxHeartbeats 8000000 in
theorem join_w (b : Nat) (g : Option Nat) (l : List UInt8) (w : World) (h : Wr b g l w) (sign : List UInt8) (xs : List (List UInt8)) (gf : Nat) (lb : Array Value) (eg : ∀ args w, (callFunc gf args).run Tryd.prog w = .ok (.enter gf args) w)
    (hseq : ∀ W : World, Below w.heap.size w W → SeqOwn Fence.wide 14 13 none Tryd.prog gf lb (fun s : List UInt8 => #[.string (tx s)]) (KpN w.heap.size (wus b g)) (fun pre x _ => pre ++ [x] <+: xs) (fun zs => zs = xs) (fun _ => True) W)
    (hlen : (l ++ sepL sign xs).length ≤ 140737488355328) :
    Calls Tryd.prog 53 #[.pointer (some ⟨b, 0, none⟩), .string (tx sign), .func (.func gf) #[] lb] w fun e w' => e = .returned (.tuple #[]) ∧ Wrote b g (l ++ sepL sign xs) w w' := by
  have hbl := h.lt
  have hgl := h.ltg
  have HW := mkHid h
  have HSEQ := mkHid hseq
  have HE := mkHid eg
  have HL := mkHid hlen
  clear h hseq eg hlen
  refine (callsIn_wide (n := 16)).1 ?_
  refine callsIn_of_wp_marks Tryd.func53 rfl trivial ?_ rfl
  simp only [Tryd.ntmps53, List.size_toArray, List.length_cons, List.length_nil, Nat.reduceAdd, Nat.reduceSub, Array.replicate_succ, Array.replicate_zero, List.push_toArray, List.append_toArray, List.nil_append, List.cons_append]
  gi_wp2
  refine ⟨trivial, ((callsIn_wide (n := 15)).2 (between_any (tx sign) gf lb _)).mono ?_⟩
  rintro e w' ⟨rfl, rfl⟩
  have hb1 : Below w.heap.size w (((w.alloc (.cells #[.pointer (some ⟨b, 0, none⟩)] 93)).alloc (.cells #[.string (tx sign)] 9)).alloc (.cells #[.func (.func gf) #[] lb] 98)) := (((Below.refl w.heap.size w).new _).new _).new _
  have hs1 : (((w.alloc (.cells #[.pointer (some ⟨b, 0, none⟩)] 93)).alloc (.cells #[.string (tx sign)] 9)).alloc (.cells #[.func (.func gf) #[] lb] 98)).heap.size = w.heap.size + 3 := by simp
  have k0 : (((w.alloc (.cells #[.pointer (some ⟨b, 0, none⟩)] 93)).alloc (.cells #[.string (tx sign)] 9)).alloc (.cells #[.func (.func gf) #[] lb] 98)).cell? ⟨w.heap.size, 0, none⟩ = some (.pointer (some ⟨b, 0, none⟩)) := by go_simp
  have k1 : (((w.alloc (.cells #[.pointer (some ⟨b, 0, none⟩)] 93)).alloc (.cells #[.string (tx sign)] 9)).alloc (.cells #[.func (.func gf) #[] lb] 98)).cell? ⟨w.heap.size + 1, 0, none⟩ = some (.string (tx sign)) := by go_simp
  have k2 : (((w.alloc (.cells #[.pointer (some ⟨b, 0, none⟩)] 93)).alloc (.cells #[.string (tx sign)] 9)).alloc (.cells #[.func (.func gf) #[] lb] 98)).cell? ⟨w.heap.size + 2, 0, none⟩ = some (.func (.func gf) #[] lb) := by go_simp
  have hw1 := HW.out.below hb1
  have hsw : (w.alloc (.cells #[.pointer (some ⟨b, 0, none⟩)] 93)).heap.size = w.heap.size + 1 := by simp
  rw [hsw]
  have HW1 := mkHid hw1
  have HB1 := mkHid hb1
  clear hw1 hb1 hsw
  gi_wp2
  generalize ((w.alloc (.cells #[.pointer (some ⟨b, 0, none⟩)] 93)).alloc (.cells #[.string (tx sign)] 9)).alloc (.cells #[.func (.func gf) #[] lb] 98) = w1 at hs1 k0 k1 k2 HW1 HB1 ⊢
  have hs2 := Nat.le_of_eq hs1
  have hs3 := Nat.le_of_eq hs1.symm
  clear hs1
  have hus : ∀ k ∈ wus b g, k < w.heap.size := fun k hk => by
    rcases mem_wus.1 hk with rfl | e
    · exact hbl
    · exact hgl k e
  refine range_own (F := Fence.wide) rfl (by omega) (gf := 91) (lb := #[.pointer (some ⟨w.heap.size + 1 + 1, 0, none⟩), .pointer (some ⟨w.heap.size + 1, 0, none⟩)]) rfl trivial (enters_of Tryd.func91 (by kernel_rfl) rfl)
    (between1_own 15 (by omega) (w.heap.size + 1 + 1) (w.heap.size + 1) w.heap.size ((w1.heap.size + 1) :: wus b g) (wus b g) (fun k hk => (List.mem_cons.1 hk).elim (fun e => .inr (by omega)) .inl) w1 sign xs gf lb HE.out (fun W hW => HSEQ.out W (HB1.out.then hW)) k2 k1 (by omega) (fun hm => (List.mem_cons.1 hm).elim (fun e => by omega) (fun e => by have := hus _ e; omega)) (fun k hk => (List.mem_cons.1 hk).elim (fun e => by omega) (fun e => by have := hus _ e; omega)))
    KpN.trans (fun A o o' _ => ⟨rfl, rfl, rfl, by simp, fun k hk hn => World.putObj_heap_other (fun e => hn (by rw [e]; exact List.mem_cons_self))⟩) (fun _ => rfl)
    (I := JoinI b g l w1) (Ix := fun c pre W' => False) ?hI ?hIx ?h0 ?a1 ?assign ?body ?done ?stop
  case hI => exact JoinI.own (by omega) (fun k e => by have := hgl k e; omega)
  case hIx => exact fun c s A C' row hs hg hr => hs.elim
  case h0 => exact ⟨⟨g, by simpa using HW1.out, fun k e => .inl e⟩, KpN.refl _ _ _⟩
  case assign =>
    intro l2 x W' K hK
    gi_wp2
    exact hK
  case body =>
    rintro l2 pre x W' hsz3 ⟨⟨g', hwr, hn⟩, hkp⟩ ⟨Wt, ⟨hT, hT6⟩, hst⟩
    have h6 : w1.heap.size + 6 ≤ W'.heap.size := by omega
    have c0 := hkp.cell ⟨by omega, fun hm => by have := hus _ hm; omega⟩ k0
    have hfl : pre.flatten.length + x.length ≤ (sepL sign xs).length := by
      rw [← interS_flat]
      obtain ⟨r, hr⟩ := hT
      rw [← hr, List.flatten_append, List.flatten_append]
      simp
    have hlen2 : (l ++ pre.flatten).length + (tx x).size ≤ 140737488355328 := by
      have := HL.out
      rw [List.length_append] at this ⊢
      rw [tx_size]; omega
    have hno : ∀ k ∈ wus b g', k < w.heap.size ∨ w1.heap.size + 6 ≤ k := fun k hk => by
      rcases mem_wus.1 hk with rfl | e
      · exact .inl hbl
      · rcases hn k e with e2 | e2
        · exact .inl (hgl k e2)
        · exact .inr e2
    have hno2 : ∀ k ∈ wus b g', k ∈ wus b g ∨ w1.heap.size + 6 ≤ k := fun k hk => by
      rcases mem_wus.1 hk with rfl | e
      · exact .inl (mem_wus.2 (.inl rfl))
      · rcases hn k e with e2 | e2
        · exact .inl (mem_wus.2 (.inr e2))
        · exact .inr e2
    have HC := mkHid (string_w b g' (l ++ pre.flatten) (tx x) W' hwr hlen2)
    have HN := mkHid hn
    have HKP := mkHid hkp
    have HNO := mkHid hno
    have HNO2 := mkHid hno2
    clear hwr hlen2 hfl hno hno2 hn hkp hT hst hT6
    gi_wp2_with fail
    refine ⟨trivial, (CallsIn.inRound l2 ((callsIn_wide (n := 11)).2 HC.out)).mono ?_⟩
    rintro e W3 ⟨rfl, g2, hw2, hf2, hn2⟩
    have hsz := hf2.size
    have HF2 := mkHid hf2
    have HW2 := mkHid hw2
    have HN2 := mkHid hn2
    clear hw2 hf2 hn2
    gi_wp2
    refine ⟨⟨HF2.out.block _ (by omega) (fun hm => (HNO.out _ hm).elim (fun q => by omega) (fun q => by omega)), HF2.out.block _ (by omega) (fun hm => (HNO.out _ hm).elim (fun q => by omega) (fun q => by omega))⟩,
      ⟨HF2.out.os, HF2.out.tape, HF2.out.output, hsz, fun k hk hnk => HF2.out.block k (by omega) (fun hm => (HNO2.out k hm).elim (fun q => hnk (List.mem_cons_of_mem _ q)) (fun q => by omega))⟩, ⟨⟨g2, ?_, fun k e => ?_⟩, ?_⟩⟩
    · have h1 := HW2.out
      rw [List.append_assoc] at h1
      rw [List.flatten_append]
      simpa [tx] using h1
    · rcases HN2.out k e with e2 | e2
      · exact HN.out k e2
      · exact .inr (by omega)
    · exact HKP.out.trans ⟨HF2.out.os, HF2.out.tape, HF2.out.output, hsz, fun k hk hnk => HF2.out.block k (by omega) (fun hm => (HNO2.out k hm).elim hnk (fun q => by omega))⟩
  case done =>
    rintro D zs W' hD hS ⟨⟨g', hwr, hn⟩, hkp⟩ hK
    subst hS
    rw [interS_flat] at hwr
    have hnD : ∀ k ∈ wus b g', k ∉ [D] := fun k hk hm => by
      obtain rfl := List.mem_singleton.1 hm
      obtain ⟨o, h1, h2⟩ := hwr.cells k hk
      rw [hK] at h1
      injection h1 with h1
      rw [← h1] at h2
      cases h2
    have hfD : Fr [D] W' (W'.putObj D (.deferred none)) := ⟨rfl, rfl, rfl, by simp, fun k hk hn => World.putObj_heap_other (fun e => hn (by rw [e]; exact List.mem_singleton.2 rfl))⟩
    have hw2 := hwr.fr hfD hnD
    have hfin : Wrote b g (l ++ sepL sign xs) w (W'.putObj D (.deferred none)) := by
      refine ⟨g', hw2, ⟨hkp.os.trans HB1.out.os, hkp.tape.trans HB1.out.tape, hkp.output.trans HB1.out.output, Nat.le_trans HB1.out.size (Nat.le_trans hkp.size (by simp)), fun k hk hnk => ?_⟩, fun k e => ?_⟩
      · exact (World.putObj_heap_other (by omega)).trans ((hkp.block k (by omega) hnk).trans (HB1.out.block k hk))
      · exact (hn k e).imp id (fun q => by omega)
    have HFIN := mkHid hfin
    clear hw2 hfin hfD hnD hwr hn hkp
    gi_wp2
    refine ⟨by simp, .inl ⟨_, _, rfl, run_takeDeferred hK, ?_⟩⟩
    exact ⟨_, results_none rfl _ _ _, rfl, HFIN.out⟩
  case stop => exact fun D c pre W' hD _ h hK => h.elim
end Go.Proofs.YtabjghmfjoefpaaDoor
set_option linter.unusedVariables false
namespace Go.Proofs.YtabjghmfjoefpaaDoor
open Go.RowKit
attribute [local go_sem] Oper.semAt_some

theorem veil_to {us vs : List Nat} {w W : World} (hf : Fr us w W) (h : ∀ k ∈ vs, k ∈ us ∨ w.heap.size ≤ k) : Keeps (veil us w) (veil vs W) := by
  intro b o v hc
  obtain ⟨h1, h2⟩ := veil_cell hc
  have hl := cell_lt h2
  refine veil_of (fun e => (h b e).elim h1 (fun q => by omega)) ((World.cell?_of_block (w := w) (a := ⟨b, o, none⟩) (hf.block b hl h1)).trans h2)
theorem flat_mem_len {L : List (List UInt8)} {x : List UInt8} (h : x ∈ L) : x.length ≤ L.flatten.length := by
  induction L with
  | nil => cases h
  | cons y L ih =>
    rw [List.flatten_cons, List.length_append]
    rcases List.mem_cons.1 h with rfl | h
    · omega
    · have := ih h; omega
theorem sepL_mem {s : List UInt8} {xs : List (List UInt8)} {x : List UInt8} (h : x ∈ xs) : x.length ≤ (sepL s xs).length := by
  cases xs with
  | nil => cases h
  | cons y r =>
    simp only [sepL, List.length_append]
    rcases List.mem_cons.1 h with rfl | h
    · omega
    · have : (s ++ x).length ≤ ((r.map fun y => s ++ y).flatten).length := by
        have hm : s ++ x ∈ r.map fun y => s ++ y := List.mem_map.2 ⟨x, h, rfl⟩
        exact flat_mem_len hm
      rw [List.length_append] at this
      omega
theorem texts_any (al : Option Addr) (n cl gf : Nat) (w : World) :
    Calls Tryd.prog 95 #[.slice al n cl, .func (.func gf) #[] #[]] w fun e w' => e = .returned (.func (.func 105) #[] #[.pointer (some ⟨w.heap.size, 0, none⟩), .pointer (some ⟨w.heap.size + 1, 0, none⟩)]) ∧ w' = (w.alloc (.cells #[.slice al n cl] 58)).alloc (.cells #[.func (.func gf) #[] #[]] 122) := by
  go_enter Tryd.func95, Tryd.ntmps95
  go_wp2
  go_ret
  exact ⟨rfl, rfl⟩

set_option maxRecDepth 100000 in
set_option maxHeartbeats 8000000 in
theorem enclosed_w {B N : Nat} (HT : TermW B N) (b : Nat) (g : Option Nat) (l : List UInt8) (w : World) (h : Wr b g l w) (hB : B ≤ b) (hgB : ∀ k, g = some k → B ≤ k) (hp : PowAt B w) (ts : List Tm) (al : Option Addr) (cl : Nat) (hR : Row (veil (wus b g) w) al cl (ts.map Tm.flat)) (hok : ∀ t ∈ ts, t.ok) (hN : ∀ t ∈ ts, t.flat.length ≤ N)
    (ahead sign behind : List UInt8) (hlen : (l ++ (ahead ++ (sepL sign (textsT ts) ++ behind))).length ≤ 1000000000) :
    Calls Tryd.prog 77 #[.pointer (some ⟨b, 0, none⟩), .string (tx ahead), .slice al ts.length cl, .string (tx sign), .string (tx behind)] w fun e w' => e = .returned (.tuple #[]) ∧ Wrote b g (l ++ (ahead ++ (sepL sign (textsT ts) ++ behind))) w w' := by
  have hl1 : l.length + (ahead.length + ((sepL sign (textsT ts)).length + behind.length)) ≤ 1000000000 := by simpa [List.length_append] using hlen
  have hx : ∀ t ∈ ts, (textT t).length ≤ 1000000000 := fun t ht => by
    have := sepL_mem (s := sign) (show textT t ∈ textsT ts from List.mem_map.2 ⟨t, ht, rfl⟩)
    omega
  have hBw : B ≤ w.heap.size := by obtain ⟨w0', _, _, h3, _⟩ := hp; exact h3
  have HT' := mkHid HT
  have HW := mkHid h
  have HR := mkHid hR
  have HOK := mkHid hok
  have HN := mkHid hN
  have HX := mkHid hx
  have HP := mkHid hp
  have hgl := h.ltg
  clear HT h hR hok hN hx hp hlen
  go_enter Tryd.func77, Tryd.ntmps77
  go_wp2_with fail
  refine (string_w b g l (tx ahead) w HW.out (by rw [tx_size]; omega)).mono ?_
  rintro e w1 ⟨rfl, g1, hw1, hf1, hn1⟩
  go_wp2_with fail
  refine (texts_any al ts.length cl 57 w1).mono ?_
  rintro e w2 ⟨rfl, hw2⟩
  have hb2 : Below w1.heap.size w1 w2 := by rw [hw2]; exact ((Below.refl w1.heap.size w1).new _).new _
  have hs2 : w2.heap.size = w1.heap.size + 2 := by rw [hw2]; simp
  have c0 : w2.cell? ⟨w1.heap.size, 0, none⟩ = some (.slice al ts.length cl) := by rw [hw2]; go_simp
  have c1 : w2.cell? ⟨w1.heap.size + 1, 0, none⟩ = some (.func (.func 57) #[] #[]) := by rw [hw2]; go_simp
  clear hw2
  have hww := hf1.size
  have hf2 : Fr (wus b g) w w2 := hf1.trans (Fr.of hb2)
  have hus1 : ∀ k ∈ wus b g1, k ∈ wus b g ∨ w.heap.size ≤ k := fun k hk => by
    rcases mem_wus.1 hk with rfl | e
    · exact .inl (mem_wus.2 (.inl rfl))
    · exact (hn1 k e).imp (fun q => mem_wus.2 (.inr q)) id
  have husB : ∀ k ∈ wus b g, B ≤ k := fun k hk => (mem_wus.1 hk).elim (fun e => by omega) (hgB k)
  have hus1B : ∀ k ∈ wus b g1, B ≤ k := fun k hk => (hus1 k hk).elim (husB k) (fun q => by omega)
  have hus1l : ∀ k ∈ wus b g1, k < w1.heap.size := fun k hk => (mem_wus.1 hk).elim (fun e => by rw [e]; exact hw1.lt) (hw1.ltg k)
  have hR2 := HR.out.keeps (veil_to hf2 hus1)
  have hP2 := HP.out.fr hf2 husB
  have hj := join_w b g1 (l ++ (tx ahead).data.toList) w2 (hw1.below hb2) sign (textsT ts) 105 #[.pointer (some ⟨w1.heap.size, 0, none⟩), .pointer (some ⟨w1.heap.size + 1, 0, none⟩)] (enters_of Tryd.func105 (by kernel_rfl) rfl)
    (fun W hW => texts1_own HT'.out 14 (by omega) w1.heap.size (w1.heap.size + 1) w2.heap.size (wus b g1) w2 hR2 HOK.out HN.out HX.out hP2 hus1B W (Fr.of hW) (keep c0 hW) (keep c1 hW) ⟨by omega, fun hm => by have := hus1l _ hm; omega⟩ (Nat.le_refl _) hW.size)
    (by simp [tx]; omega)
  have HJ := mkHid hj
  have HF2 := mkHid hf2
  have HN1 := mkHid hn1
  clear hj hf2 hn1 hw1 hf1 hR2 hP2 hus1 husB hus1B hus1l c0 c1
  go_wp2_with fail
  refine HJ.out.mono ?_
  rintro e w3 ⟨rfl, g3, hw3, hf3, hn3⟩
  go_wp2_with fail
  refine (string_w b g3 _ (tx behind) w3 hw3 (by rw [tx_size]; simp [tx]; omega)).mono ?_
  rintro e w4 ⟨rfl, hw4⟩
  have hfin : Wrote b g (l ++ (ahead ++ (sepL sign (textsT ts) ++ behind))) w w4 := by
    have h1 := Wrote.on hf3 hn3 hw4
    have h2 := Wrote.on HF2.out (fun k e => HN1.out k e) h1
    exact h2.as (by simp [tx])
  have HFIN := mkHid hfin
  clear hfin hw4 hw3 hf3 hn3
  go_wp2_with fail
  go_end0
  exact ⟨rfl, HFIN.out⟩
end Go.Proofs.YtabjghmfjoefpaaDoor
set_option linter.unusedVariables false
namespace Go.Proofs.YtabjghmfjoefpaaDoor
open Go.RowKit

theorem own_base {w : World} {B B' e size : Nat} {v : Value} {n : Nat} {xs : List Value} (h : w.ownsRow B' e size v n xs) (hB : B ≤ B') : w.ownsRow B e size v n xs :=
  ⟨h.1, h.2.imp id (fun ⟨g, cap, cur, e1, hb, rest⟩ => ⟨g, cap, cur, e1, Nat.le_trans hB hb, rest⟩)⟩
theorem under_keepsK {B : Nat} {w w' : World} (h : Keeps w w') : Keeps (under B w) (under B w') := fun b o v hc => let ⟨h1, h2⟩ := under_cell hc; under_of h1 (h _ _ _ h2)
set_option maxHeartbeats 1600000 in
theorem parts_newZ (a : Option Addr) (cap : Nat) (w : World) (xs : List Cel) (hr : Row w a cap xs) (hR : rightB xs = true) :
    Calls Tryd.prog 78 #[.slice a xs.length cap] w fun e w' => ∃ a' cap', e = .returned (.slice a' (partsL xs).length cap') ∧ NewRow w.heap.size w' a' cap' (partsL xs) ∧ Below w.heap.size w w' := by
  have hm := hr.max
  have hle := hr.le
  have h6 := ar_le6 hR
  obtain ⟨c, l, e0, hc, _, h200⟩ := right_sk hR
  have h0 : 0 < xs.length := by rw [e0]; simp
  have hc0 : xs[0] = c := by simp [e0]
  have har : ar0 xs = ar xs[0] := by rw [hc0, e0]; rfl
  have HA : Hid (arI xs[0] = ar0 xs) := by rw [Hid, har, hc0]; exact arI_ar hc
  have HR := mkHid hR
  clear hR e0 hc hc0 har
  obtain ⟨b, off, rfl, hb, hat⟩ := hr.cases.resolve_left (fun e => by simp [e] at h0)
  go_enter Tryd.func78, Tryd.ntmps78
  go_wp2_with (first
    | (go_at_call 56; refine (right_any _ cap _ xs hr).mono ?_; rintro e w1 ⟨rfl, hb1⟩; rw [HR.out]; obtain ⟨c0, c1, c2, hf⟩ := cel_at hat hb1 h0; simp only [Nat.zero_mul, Nat.add_zero] at c0 c1 c2)
    | (go_at_call 94; refine (arguments_any xs[0] _).mono ?_; rintro e w2 ⟨rfl, hb2⟩; rw [HA.out]))
  have hb12 := hb1.then hb2
  clear c0 c1 c2
  go_loopw [3, 4, 13] (fun v i j wr => ∃ (k : Nat) (vs : List Value), k ≤ ar0 xs ∧ j = .int .i64 k ∧ i = .int .i64 (aN xs k) ∧ wr.ownsRow w.heap.size 22 1 v k vs ∧ Below w.heap.size w wr ∧ Hid (SlRows (under w.heap.size (hide v.ownBlock wr)) vs ((List.range k).map (partJ xs)))) (fun v i j wr => ar0 xs - (intOf j).toNat)
  case atStart => exact ⟨0, [], Nat.zero_le _, rfl, by unfold aN; rw [afterI_zero (by omega)]; rfl, World.ownsRow_nil _ _ _ _, hb12, SlRows.nil _⟩
  case round =>
    obtain ⟨k, vs, hk, rfl, rfl, hown, hbl, HS⟩ := hrel
    by_cases hlt : k < ar0 xs
    · have hra := (right_after HR.out hk).2
      have hrb := (right_after HR.out (show k + 1 ≤ ar0 xs from hlt)).2
      have hrn := (right_next HR.out hlt).1
      have HP := mkHid (passI_at HR.out hlt)
      obtain ⟨q1, q2, _⟩ := hra
      obtain ⟨q3, q4, _⟩ := hrb
      have hr1 := hr.below hbl
      go_wp2_with (go_at_call 75; refine (behind_any _ cap (aN xs k) _ xs hr1 (by omega) (by omega) (by omega)).mono ?_; rintro e w3 ⟨rfl, hb3⟩; rw [HP.out])
      have hrow3 := (hr1.below hb3).slice (i := aN xs k) (j := aN xs (k + 1)) (by omega) q4
      have hfit : ∀ c ∈ partJ xs k, c.fit := hrow3.fit
      refine (clone_any' _ _ _ _ (partJ xs k) (take_drop_len HR.out hlt) hrow3 (by have := partJ_length HR.out hlt; omega)).mono ?_
      rintro e w4 ⟨v1, rfl, hown4, hb4⟩
      have hown1 := own_below (own_below hown hb3) hb4
      have hlt4 := hown4.lt
      have hsz3 := (hbl.then hb3).size
      obtain ⟨a1, cap1, rfl, hrow4⟩ := own_row (under_own (own_base (own_hide (r := u3.ownBlock) hown4 (fun g hg => (own_below hown hb3).lt g hg |>.2)) hsz3)) hfit
      have hbl4 := (hbl.then hb3).then hb4
      have HS4 := mkHid (((HS.out.keeps (under_keepsK (below_hide hb3 _))).keeps (under_keepsK (below_hide hb4 _))).snoc hrow4)
      go_wp2_with (at_builtin; refine wpList_app2 rfl _ _ 58 rfl w.heap.size 22 1 24 _ Tryd.underlying58 Tryd.infoSl rfl (by decide) (by decide) _ k _ rfl (hown1.alloc _) ⟨_, 0, none⟩ 1 1 [.slice a1 (partJ xs k).length cap1] rfl (src_new _ #[.slice a1 (partJ xs k).length cap1] _ 1 rfl (by simp [Value.oneCell'])) (by omega) (Nat.le_trans hbl4.size (by simp)) ?_; intro v' w5 hown5 _ hb5 hk5)
      go_round
      case rel => exact ⟨k + 1, vs ++ [.slice a1 (partJ xs k).length cap1], by omega, by go_num, rfl, hown5, (hbl4.new _).trans hb5, by rw [parts_succ]; exact (HS4.out.keeps (under_keepsK (alloc_hide _ _ _))).keeps (under_keepsK hk5)⟩
      case measure => simp [intOf]; omega
    · obtain rfl : k = ar0 xs := by omega
      have hS := HS.out.keeps (under_keepsK (hide_keeps _ _))
      have hl : (partsL xs).length = ar0 xs := by simp [partsL]
      obtain ⟨a', cap', rfl, hrow'⟩ := own_rowL (e := 22) (B := w.heap.size) (v := u3) (ps := partsL xs) (by rw [hl]; exact under_own hown) hS
      have HL := mkHid hl
      clear hl
      go_wp2
      go_ret
      exact ⟨a', cap', rfl, hrow', hbl⟩
end Go.Proofs.YtabjghmfjoefpaaDoor
set_option linter.unusedVariables false
namespace Go.Proofs.YtabjghmfjoefpaaDoor
open Go.RowKit

def plainT (t : Tm) : List UInt8 := nameL t.hd.s.data.toList ++ (if 0 < t.hd.n then 40 :: (sepL [44] (textsT t.args) ++ [41]) else [])
theorem under_veil {B : Nat} {us : List Nat} {w : World} (h : ∀ k ∈ us, k < B) : Keeps (under B w) (veil us w) := fun b o v hc => by
  obtain ⟨h1, h2⟩ := under_cell hc
  exact veil_of (fun e => by have := h b e; omega) h2
theorem name_len {c : Cel} (h : c.fit) : c.s.size ≤ 9223372036854775807 := h.s
/-- what a writer's step leaves: the row is read still, beside the writer's blocks -/
structure WStep (B b : Nat) (g g1 : Option Nat) (w w1 : World) : Prop where
  fr : Fr (wus b g) w w1
  new : ∀ k, g1 = some k → g = some k ∨ w.heap.size ≤ k
theorem WStep.us {B b : Nat} {g g1 : Option Nat} {w w1 : World} (h : WStep B b g g1 w w1) : ∀ k ∈ wus b g1, k ∈ wus b g ∨ w.heap.size ≤ k := fun k hk => by
  rcases mem_wus.1 hk with rfl | e
  · exact .inl (mem_wus.2 (.inl rfl))
  · exact (h.new k e).imp (fun q => mem_wus.2 (.inr q)) id
theorem WStep.bound {B b : Nat} {g g1 : Option Nat} {w w1 : World} (h : WStep B b g g1 w w1) (hg : ∀ k, g = some k → B ≤ k) (hBw : B ≤ w.heap.size) : ∀ k, g1 = some k → B ≤ k := fun k e => (h.new k e).elim (hg k) (fun q => by omega)
theorem WStep.row {α : Type} [Rep α] {B b : Nat} {g g1 : Option Nat} {w w1 : World} (h : WStep B b g g1 w w1) {a : Option Addr} {cap : Nat} {xs : List α} (hr : Row (veil (wus b g) w) a cap xs) : Row (veil (wus b g1) w1) a cap xs := hr.keeps (veil_to h.fr h.us)
theorem WStep.pow {B b : Nat} {g g1 : Option Nat} {w w1 : World} (h : WStep B b g g1 w w1) (hb : B ≤ b) (hg : ∀ k, g = some k → B ≤ k) (hp : PowAt B w) : PowAt B w1 := hp.fr h.fr (fun k hk => (mem_wus.1 hk).elim (fun e => by omega) (hg k))
theorem WStep.calm {B b : Nat} {g : Option Nat} {w w1 : World} (h : Below w.heap.size w w1) : WStep B b g g w w1 := ⟨Fr.of h, fun k e => .inl e⟩
theorem PowAt.le {B : Nat} {w : World} (h : PowAt B w) : B ≤ w.heap.size := by obtain ⟨_, _, _, h3, _⟩ := h; exact h3

set_option maxHeartbeats 8000000 in
theorem plain_w {B N : Nat} (HT : TermW B N) (t : Tm) (ht : t.ok) (h200 : t.flat.length ≤ 200) (hN : t.flat.length ≤ N + 1) (b : Nat) (g : Option Nat) (l : List UInt8) (w : World) (h : Wr b g l w) (hB : B ≤ b) (hgB : ∀ k, g = some k → B ≤ k) (hp : PowAt B w) (a : Option Addr) (cap : Nat) (hr : Row (veil (wus b g) w) a cap t.flat) (hs : t.hd.s.size ≤ 1000) (hlen : (l ++ plainT t).length ≤ 1000000000) :
    Calls Tryd.prog 81 #[.pointer (some ⟨b, 0, none⟩), .slice a t.flat.length cap] w fun e w' => e = .returned (.tuple #[]) ∧ Wrote b g (l ++ plainT t) w w' := by
  have h0 := flat_pos t
  have hle := hr.le
  have hmx := hr.max
  have hR := right_flat ht h200
  have hpf := parts_flat ht
  have hsm : ∀ u ∈ t.args, u.flat.length ≤ N := fun u hu => by have := flat_arg_lt hu; omega
  have hoks : ∀ u ∈ t.args, u.ok := oks_mem ((ok_iff t).1 ht).2.2
  have hl1 : l.length + (plainT t).length ≤ 1000000000 := by simpa using hlen
  have hl2 : l.length ≤ 1000000000 := by omega
  obtain ⟨b', off, rfl, hbv, hat⟩ := hr.cases.resolve_left (fun e => by simp [e] at h0)
  obtain ⟨c0, c1, c2, hf⟩ := cel_at hat (Below.refl _ _) h0
  rw [flat_hd t h0] at c0 c1 c2 hf
  simp only [Nat.zero_mul, Nat.add_zero] at c0 c1 c2
  have d1 := (veil_cell c1).2
  have HW := mkHid h
  have HR := mkHid hr
  have HRI := mkHid hR
  have HPF := mkHid hpf
  have HSM := mkHid hsm
  have HOK := mkHid hoks
  have HP := mkHid hp
  have HT' := mkHid HT
  have hBw := hp.le
  clear h hr hR hpf hsm hoks hp HT hat hbv c0 c1 hlen
  have C2 := mkHid c2
  clear c2
  go_enter Tryd.func81, Tryd.ntmps81
  go_wp2_with fail
  refine (name_w b g l t.hd.s w HW.out (by omega) (by omega)).mono ?_
  rintro e w1 ⟨rfl, g1, hw1, hf1, hn1⟩
  have hst : WStep B b g g1 w w1 := ⟨hf1, hn1⟩
  have hr1 := hst.row HR.out
  have d2 := (veil_cell (veil_to hst.fr hst.us _ _ _ C2.out)).2
  have hww := hf1.size
  have HST := mkHid hst
  have HR1 := mkHid hr1
  have HW1 := mkHid hw1
  have hg1l := hw1.ltg
  have hb1l := hw1.lt
  clear hst hr1 hw1 hf1 hn1
  by_cases h3 : 0 < t.hd.n
  · have e1 : plainT t = nameL t.hd.s.data.toList ++ (40 :: (sepL [44] (textsT t.args) ++ [41])) := by unfold plainT; rw [if_pos h3]
    have y1 : decide (0 < t.hd.n) = true := decide_eq_true h3
    have hl3 : l.length + ((nameL t.hd.s.data.toList).length + ((sepL [44] (textsT t.args)).length + 2)) ≤ 1000000000 := by
      rw [e1] at hl1; simp at hl1; omega
    have HE := mkHid e1
    clear e1 hl1
    go_wp2_with fail
    refine (parts_newZ (some ⟨b', off, none⟩) cap w1 t.flat (HR1.out.keeps (veil_keeps _ _)) HRI.out).mono ?_
    rintro e w2 ⟨a', cap', rfl, hnr, hb2⟩
    rw [HPF.out] at hnr ⊢
    rw [List.length_map]
    have hs2 : WStep B b g1 g1 w1 w2 := WStep.calm hb2
    have hus1 : ∀ k ∈ wus b g1, k < w1.heap.size := fun k hk => (mem_wus.1 hk).elim (fun e => by rw [e]; exact hb1l) (hg1l k)
    have hr2 := Row.keeps hnr (under_veil hus1)
    have hg1B := HST.out.bound hgB hBw
    have hp1 := HST.out.pow hB hgB HP.out
    have hp2 := hs2.pow hB hg1B hp1
    have henc := enclosed_w HT'.out b g1 (l ++ nameL t.hd.s.data.toList) w2 (HW1.out.below hb2) hB hg1B hp2 t.args a' cap' hr2 HOK.out HSM.out [40] [44] [41] (by simp; omega)
    have HEN := mkHid henc
    have HB2 := mkHid hb2
    clear henc hr2 hp1 hp2 hs2 hnr hus1 hb2
    go_wp2_with fail
    refine HEN.out.mono ?_
    rintro e w3 ⟨rfl, hw3⟩
    have hfin : Wrote b g (l ++ plainT t) w w3 := by
      have h1 := Wrote.after HB2.out hw3 hg1l
      have h2 := Wrote.on HST.out.fr HST.out.new h1
      exact h2.as (by rw [HE.out]; simp)
    have HF := mkHid hfin
    clear hfin hw3
    go_wp2_with fail
    go_end0
    exact ⟨rfl, HF.out⟩
  · have e1 : plainT t = nameL t.hd.s.data.toList := by unfold plainT; rw [if_neg h3, List.append_nil]
    have y1 : decide (0 < t.hd.n) = false := decide_eq_false h3
    have HE := mkHid e1
    clear e1 hl1
    go_wp2_with fail
    go_end0
    exact ⟨rfl, by rw [HE.out]; exact ⟨g1, HW1.out, HST.out.fr, HST.out.new⟩⟩
end Go.Proofs.YtabjghmfjoefpaaDoor
set_option linter.unusedVariables false
namespace Go.Proofs.YtabjghmfjoefpaaDoor
open Go.RowKit

theorem two_rows {w : World} {vs : List Value} {p q : List Cel} (h : SlRows w vs [p, q]) : ∃ a0 cap0 a1 cap1, vs = [.slice a0 p.length cap0, .slice a1 q.length cap1] ∧ Row w a0 cap0 p ∧ Row w a1 cap1 q := by
  have hl := h.len
  match vs, hl with
  | [u, v], _ =>
    obtain ⟨a0, cap0, e0, r0⟩ := h.row 0 u p rfl rfl
    obtain ⟨a1, cap1, e1, r1⟩ := h.row 1 v q rfl rfl
    exact ⟨a0, cap0, a1, cap1, by rw [e0, e1], r0, r1⟩
theorem cell_grown {w w' : World} {r : Option Nat} {b o : Nat} {v : Value} (h : w.grownBy w' r) (hc : w.cell? ⟨b, o, none⟩ = some v) (hne : ∀ k, r = some k → k ≠ b) : w'.cell? ⟨b, o, none⟩ = some v :=
  (World.cell?_of_block (w := w) (a := ⟨b, o, none⟩) (h.block b (cell_lt hc) (fun e => hne b e.symm rfl))).trans hc
theorem own_two {w : World} {B e : Nat} {a : Option Addr} {cap : Nat} {u v : Value} (h : w.ownsRow B e 1 (.slice a 2 cap) 2 [u, v]) : ∃ g, a = some ⟨g, 0, none⟩ ∧ B ≤ g ∧ w.cell? ⟨g, 0, none⟩ = some u ∧ w.cell? ⟨g, 1, none⟩ = some v := by
  rcases h.2 with ⟨_, e2⟩ | ⟨g, cap', cur, e1, hb, _⟩
  · cases e2
  · injection e1 with e1 _ e3
    subst e1; subst e3
    exact ⟨g, rfl, hb, own_cells h 0 u rfl, own_cells h 1 v rfl⟩

theorem fin_nil {t : Tm} {items : List Tm} {cur : Tm} (h : Stand t items cur) (hk : isC t.hd [46] 2 = true ∨ isC t.hd [91, 93] 0 = true) (hn : isC cur.hd [91, 93] 0 = true) : textT t = 91 :: (sepL [44] (textsT items) ++ [93]) := by
  obtain ⟨c, ts⟩ := cur
  have h3 : c.k = 3 ∧ c.s.data.toList = [91, 93] ∧ c.n = 0 := by
    have hn' : isC c [91, 93] 0 = true := hn
    simp only [isC, Bool.and_eq_true, decide_eq_true_eq] at hn'; exact ⟨hn'.1.1, hn'.1.2, hn'.2⟩
  have hd : isC c [46] 2 = false := by simp [isC, h3.2.1]
  rcases h.lit with ⟨rfl, rfl⟩ | ⟨_, hl⟩
  · rw [text_nil h3.1 (by simp [infixB, signs, h3.2.1]) (by simp [isC, h3.2.1]) hn]; rfl
  · rw [hl, beh_nil hd hn]
theorem fin_bar {t : Tm} {items : List Tm} {cur : Tm} (h : Stand t items cur) (hk : isC t.hd [46] 2 = true ∨ isC t.hd [91, 93] 0 = true) (hd : isC cur.hd [46] 2 = false) (hn : isC cur.hd [91, 93] 0 = false) :
    textT t = 91 :: (sepL [44] (textsT items) ++ 124 :: (textT cur ++ [93])) ∧ cur.flat.length + 1 ≤ t.flat.length := by
  rcases h.lit with ⟨rfl, rfl⟩ | ⟨h1, hl⟩
  · rcases hk with hk | hk
    · rw [hd] at hk; cases hk
    · rw [hn] at hk; cases hk
  · obtain ⟨c, ts⟩ := cur
    refine ⟨by rw [hl, beh_bar (c := c) hd hn], ?_⟩
    have := h.sum
    have : 0 < items.length := List.length_pos_iff.2 h1
    omega
end Go.Proofs.YtabjghmfjoefpaaDoor
