import Derived.Test.YtmmnfkggfnokjaaZt2
import Derived.OrdersHeld
import Derived.Deep.RegionHeld3
import Derived.OneCell
import Derived.ArgAppend
import Derived.Deep.LoopGhost
set_option linter.unusedVariables false
namespace Go.Proofs.Ytmmnfkggfnokjaa
open Go.RowKit
set_option maxRecDepth 100000 in
set_option maxHeartbeats 3200000 in
theorem lay_any (w : World) (B L g : Nat) (vc : Value) (m : MkS) (k j : Nat) (i : Ins) (hM : MkM w B L g vc m (k + 1) j) (hf : i.fit) (hl : m.code.length ≤ 1000000) :
    Calls Try.prog 65 #[.pointer (some ⟨L, 0, none⟩), i.v] w (KPost w B L g vc (m.lay i) k j (.tuple #[])) := by
  have hb1 := (Below.refl w.heap.size w).new (.cells #[.int .i64 i.op, .int .i64 i.x, .int .i64 i.a, .string i.s, .int .i64 i.n, .bool i.neg] 90)
  have e0 : (w.alloc (.cells #[.int .i64 i.op, .int .i64 i.x, .int .i64 i.a, .string i.s, .int .i64 i.n, .bool i.neg] 90)).cell? ⟨w.heap.size, 0, none⟩ = some (.int .i64 i.op) := World.cell?_alloc_at _ _ _ 0 rfl
  have e1 : (w.alloc (.cells #[.int .i64 i.op, .int .i64 i.x, .int .i64 i.a, .string i.s, .int .i64 i.n, .bool i.neg] 90)).cell? ⟨w.heap.size, 1, none⟩ = some (.int .i64 i.x) := World.cell?_alloc_at _ _ _ 1 rfl
  have e2 : (w.alloc (.cells #[.int .i64 i.op, .int .i64 i.x, .int .i64 i.a, .string i.s, .int .i64 i.n, .bool i.neg] 90)).cell? ⟨w.heap.size, 2, none⟩ = some (.int .i64 i.a) := World.cell?_alloc_at _ _ _ 2 rfl
  have e3 : (w.alloc (.cells #[.int .i64 i.op, .int .i64 i.x, .int .i64 i.a, .string i.s, .int .i64 i.n, .bool i.neg] 90)).cell? ⟨w.heap.size, 3, none⟩ = some (.string i.s) := World.cell?_alloc_at _ _ _ 3 rfl
  have e4 : (w.alloc (.cells #[.int .i64 i.op, .int .i64 i.x, .int .i64 i.a, .string i.s, .int .i64 i.n, .bool i.neg] 90)).cell? ⟨w.heap.size, 4, none⟩ = some (.int .i64 i.n) := World.cell?_alloc_at _ _ _ 4 rfl
  have e5 : (w.alloc (.cells #[.int .i64 i.op, .int .i64 i.x, .int .i64 i.a, .string i.s, .int .i64 i.n, .bool i.neg] 90)).cell? ⟨w.heap.size, 5, none⟩ = some (.bool i.neg) := World.cell?_alloc_at _ _ _ 5 rfl
  have hsz : (w.alloc (.cells #[.int .i64 i.op, .int .i64 i.x, .int .i64 i.a, .string i.s, .int .i64 i.n, .bool i.neg] 90)).heap.size = w.heap.size + 1 := by simp
  have hM1 := hM.below hb1
  obtain ⟨ca, cc, rfl, hcr⟩ := hM.code.row
  have hcm := hcr.max
  have hcl := hcr.le
  have hBw := hM.BW
  have HB1 := mkHid hb1
  have hLw := hM.lt
  have HVL : Hid (∀ b, (Value.slice ca m.code.length cc).ownBlock = some b → b < w.heap.size) := fun b hb => (hM.code.lt b hb).2
  clear hM hb1 hcr
  go_enter Try.func65, Try.ntmps65
  dsimp only [Ins.v]
  go_wp2_with fail
  obtain ⟨W, hW⟩ : ∃ W, w.alloc (.cells #[.int .i64 i.op, .int .i64 i.x, .int .i64 i.a, .string i.s, .int .i64 i.n, .bool i.neg] 90) = W := ⟨_, rfl⟩
  rw [hW] at e0 e1 e2 e3 e4 e5 hM1 HB1 hsz ⊢
  clear hW
  have HSZ := mkHid hsz
  have HWN : Hid (∀ {x : Value}, NewAtN W.drew (.slice ca m.code.length cc) x → NewAtN w (.slice ca m.code.length cc) x) := fun {x} h => by
    rcases h with h | ⟨b, h, hb⟩
    · exact .inl h
    · exact .inr ⟨b, h, by have : W.drew.heap.size = W.heap.size := rfl; have := HSZ.out; omega⟩
  have hMd : MkM W.drew B L g (.slice ca m.code.length cc) m (k + 1) j := hM1.below (Below.refl _ _).drew
  have HMd := mkHid hMd
  have c0 := hM1.c0
  obtain ⟨v', w3, hrun, ha3, hg3, hw3⟩ := AccInv.run_pushN (P := Try.prog) (w := W.drew) 26 26 B 90 56 (.agg #[.int .i64 0, .int .i64 0, .int .i64 0, .string ⟨#[]⟩, .int .i64 0, .bool false]) Try.underlying26 Try.infoInstr rfl (by decide) _ m.code hMd.code 90 #[.int .i64 i.op, .int .i64 i.x, .int .i64 i.a, .string i.s, .int .i64 i.n, .bool i.neg] i ⟨rfl, hf⟩ (by omega) hMd.BW
  obtain ⟨a3, c3, rfl, _⟩ := ha3.row
  obtain ⟨hM4, hB4, hN4, k0, k3⟩ := hMd.push ha3 hg3 hw3
  have hc4 := hM4.c0
  rw [show (m.code ++ [i]).length = m.code.length + 1 by simp] at hM4 hrun hB4 hc4 hN4
  have hrun2 : (Builtin.append_ #[26, 26] 26 #[.slice ca m.code.length cc, .slice (some ⟨W.heap.size, 0, none⟩) 1 1]).run Try.prog (W.drew.alloc (.cells #[.int .i64 i.op, .int .i64 i.x, .int .i64 i.a, .string i.s, .int .i64 i.n, .bool i.neg] 90)) = .ok (.slice a3 (m.code.length + 1) c3) w3 := hrun
  have hrun := hrun2
  have hrunB : (Builtin.append_ #[26, 26] 26 #[.slice ca m.code.length cc, .slice (some ⟨W.heap.size, 0, none⟩) 1 1]).run Try.prog (W.alloc (.cells #[.int .i64 i.op, .int .i64 i.x, .int .i64 i.a, .string i.s, .int .i64 i.n, .bool i.neg] 90)).drew = .ok (.slice a3 (m.code.length + 1) c3) w3 := hrun2
  have HM4 := mkHid hM4
  have HB4 := mkHid hB4
  have HN4 := mkHid hN4
  have hwb : ∀ k, k = w.heap.size → w3.heap[k]? = W.drew.heap[k]? := fun k hk => by
    have hkl : k < W.drew.heap.size := by show k < W.heap.size; have := HSZ.out; omega
    refine (hg3.block k (by simp; show k < W.heap.size + 1; have := HSZ.out; omega) (fun e => ?_)).trans (heap_alloc_old W.drew _ hkl)
    have := HVL.out k e.symm
    omega
  clear hM4 hB4 hN4 hM1 hMd ha3 hg3 hw3 hrun2 hsz
  have HS1 : Hid ((fun w' : World => w'.cell? ⟨w.heap.size, 0, none⟩ = some (.int .i64 i.op) ∧ w'.cell? ⟨w.heap.size, 1, none⟩ = some (.int .i64 i.x) ∧ w'.cell? ⟨w.heap.size, 2, none⟩ = some (.int .i64 i.a) ∧ w'.cell? ⟨w.heap.size, 3, none⟩ = some (.string i.s) ∧ w'.cell? ⟨w.heap.size, 4, none⟩ = some (.int .i64 i.n) ∧ w'.cell? ⟨w.heap.size, 5, none⟩ = some (.bool i.neg)) W.drew) := ⟨e0, e1, e2, e3, e4, e5⟩
  have c0c : (W.alloc (.cells #[.int .i64 i.op, .int .i64 i.x, .int .i64 i.a, .string i.s, .int .i64 i.n, .bool i.neg] 90)).cell? ⟨L, 0, none⟩ = some (.slice ca m.code.length cc) := keep c0 ((Below.refl _ _).new _)
  have c0b : (W.drew.alloc (.cells #[.int .i64 i.op, .int .i64 i.x, .int .i64 i.a, .string i.s, .int .i64 i.n, .bool i.neg] 90)).cell? ⟨L, 0, none⟩ = some (.slice ca m.code.length cc) := keep (w := W.drew) c0 ((Below.refl _ _).new _)
  have HS2 : Hid ((fun w' : World => w'.cell? ⟨w.heap.size, 0, none⟩ = some (.int .i64 i.op) ∧ w'.cell? ⟨w.heap.size, 1, none⟩ = some (.int .i64 i.x) ∧ w'.cell? ⟨w.heap.size, 2, none⟩ = some (.int .i64 i.a) ∧ w'.cell? ⟨w.heap.size, 3, none⟩ = some (.string i.s) ∧ w'.cell? ⟨w.heap.size, 4, none⟩ = some (.int .i64 i.n) ∧ w'.cell? ⟨w.heap.size, 5, none⟩ = some (.bool i.neg)) (W.drew.alloc (.cells #[.int .i64 i.op, .int .i64 i.x, .int .i64 i.a, .string i.s, .int .i64 i.n, .bool i.neg] 90))) := ⟨keep (w := W.drew) e0 ((Below.refl _ _).new _), keep (w := W.drew) e1 ((Below.refl _ _).new _), keep (w := W.drew) e2 ((Below.refl _ _).new _), keep (w := W.drew) e3 ((Below.refl _ _).new _), keep (w := W.drew) e4 ((Below.refl _ _).new _), keep (w := W.drew) e5 ((Below.refl _ _).new _)⟩
  have HS3 : Hid ((fun w' : World => w'.cell? ⟨w.heap.size, 0, none⟩ = some (.int .i64 i.op) ∧ w'.cell? ⟨w.heap.size, 1, none⟩ = some (.int .i64 i.x) ∧ w'.cell? ⟨w.heap.size, 2, none⟩ = some (.int .i64 i.a) ∧ w'.cell? ⟨w.heap.size, 3, none⟩ = some (.string i.s) ∧ w'.cell? ⟨w.heap.size, 4, none⟩ = some (.int .i64 i.n) ∧ w'.cell? ⟨w.heap.size, 5, none⟩ = some (.bool i.neg)) w3) := ⟨(World.cell?_of_block (w := W.drew) (a := ⟨w.heap.size, 0, none⟩) (hwb _ rfl)).trans e0, (World.cell?_of_block (w := W.drew) (a := ⟨w.heap.size, 1, none⟩) (hwb _ rfl)).trans e1, (World.cell?_of_block (w := W.drew) (a := ⟨w.heap.size, 2, none⟩) (hwb _ rfl)).trans e2, (World.cell?_of_block (w := W.drew) (a := ⟨w.heap.size, 3, none⟩) (hwb _ rfl)).trans e3, (World.cell?_of_block (w := W.drew) (a := ⟨w.heap.size, 4, none⟩) (hwb _ rfl)).trans e4, (World.cell?_of_block (w := W.drew) (a := ⟨w.heap.size, 5, none⟩) (hwb _ rfl)).trans e5⟩
  have HS4 : Hid ((fun w' : World => w'.cell? ⟨w.heap.size, 0, none⟩ = some (.int .i64 i.op) ∧ w'.cell? ⟨w.heap.size, 1, none⟩ = some (.int .i64 i.x) ∧ w'.cell? ⟨w.heap.size, 2, none⟩ = some (.int .i64 i.a) ∧ w'.cell? ⟨w.heap.size, 3, none⟩ = some (.string i.s) ∧ w'.cell? ⟨w.heap.size, 4, none⟩ = some (.int .i64 i.n) ∧ w'.cell? ⟨w.heap.size, 5, none⟩ = some (.bool i.neg)) (w3.setCell ⟨L, 0, none⟩ (.slice a3 (m.code.length + 1) c3))) := by
    have hn : w.heap.size ≠ L := by omega
    obtain ⟨x0, x1, x2, x3, x4, x5⟩ := HS3.out
    exact ⟨(World.cell?_of_block (a := ⟨w.heap.size, 0, none⟩) (Below.heap_setCell w3 ⟨L, 0, none⟩ _ _ hn)).trans x0, (World.cell?_of_block (a := ⟨w.heap.size, 1, none⟩) (Below.heap_setCell w3 ⟨L, 0, none⟩ _ _ hn)).trans x1, (World.cell?_of_block (a := ⟨w.heap.size, 2, none⟩) (Below.heap_setCell w3 ⟨L, 0, none⟩ _ _ hn)).trans x2, (World.cell?_of_block (a := ⟨w.heap.size, 3, none⟩) (Below.heap_setCell w3 ⟨L, 0, none⟩ _ _ hn)).trans x3, (World.cell?_of_block (a := ⟨w.heap.size, 4, none⟩) (Below.heap_setCell w3 ⟨L, 0, none⟩ _ _ hn)).trans x4, (World.cell?_of_block (a := ⟨w.heap.size, 5, none⟩) (Below.heap_setCell w3 ⟨L, 0, none⟩ _ _ hn)).trans x5⟩
  have hs1h := HS1.out
  clear hwb
  refine wp_region_noPanic ?_
  refine wp_region_held_drew (S := (fun w' : World => w'.cell? ⟨w.heap.size, 0, none⟩ = some (.int .i64 i.op) ∧ w'.cell? ⟨w.heap.size, 1, none⟩ = some (.int .i64 i.x) ∧ w'.cell? ⟨w.heap.size, 2, none⟩ = some (.int .i64 i.a) ∧ w'.cell? ⟨w.heap.size, 3, none⟩ = some (.string i.s) ∧ w'.cell? ⟨w.heap.size, 4, none⟩ = some (.int .i64 i.n) ∧ w'.cell? ⟨w.heap.size, 5, none⟩ = some (.bool i.neg))) (by kernel_rfl) (hs1h) (fun hSd => ?_)
  clear hs1h
  refine wpAnyH_take (i := 0) (oi := _) (v := ?_) rfl (by kernel_rfl) (by kernel_rfl) (by kernel_rfl) (fun _ _ _ h => h) (Or.inl ⟨by rfl, ?_⟩) (by assumption) ?_
  rotate_left
  · (intro w' hSw; (try dsimp only at hSw); go_simp; try with_reducible rfl)
  (try simp only [Act.put, List.setIfInBounds_toArray, List.set_cons_zero, List.set_cons_succ])
  refine wpAnyH_take (i := 1) (oi := _) (v := ?_) rfl (by kernel_rfl) (by kernel_rfl) (by kernel_rfl) (fun _ _ _ h => h) (Or.inl ⟨by rfl, ?_⟩) (by assumption) ?_
  rotate_left
  · (intro w' hSw; (try dsimp only at hSw); go_simp; try with_reducible rfl)
  (try simp only [Act.put, List.setIfInBounds_toArray, List.set_cons_zero, List.set_cons_succ])
  refine wpAnyH_take (i := 2) (oi := _) (v := ?_) rfl (by kernel_rfl) (by kernel_rfl) (by kernel_rfl) (fun _ _ _ h => h) (Or.inl ⟨by rfl, ?_⟩) (by assumption) ?_
  rotate_left
  · (intro w' hSw; (try dsimp only at hSw); go_simp; try with_reducible rfl)
  (try simp only [Act.put, List.setIfInBounds_toArray, List.set_cons_zero, List.set_cons_succ])
  refine wpAnyH_take (i := 3) (oi := _) (v := ?_) rfl (by kernel_rfl) (by kernel_rfl) (by kernel_rfl) (fun _ _ _ h => h) (Or.inl ⟨by rfl, ?_⟩) (by assumption) ?_
  rotate_left
  · (intro w' hSw; (try dsimp only at hSw); go_simp; try with_reducible rfl)
  (try simp only [Act.put, List.setIfInBounds_toArray, List.set_cons_zero, List.set_cons_succ])
  refine wpAnyH_take (i := 5) (oi := _) (v := ?_) rfl (by kernel_rfl) (by kernel_rfl) (by kernel_rfl) (fun _ _ _ h => h) (Or.inl ⟨by rfl, ?_⟩) (by assumption) ?_
  rotate_left
  · (intro w' hSw; (try dsimp only at hSw); go_simp; try with_reducible rfl)
  (try simp only [Act.put, List.setIfInBounds_toArray, List.set_cons_zero, List.set_cons_succ])
  refine wpAnyH_ready (rs := [4, 6]) (by kernel_rfl) (by simp) ?_
  refine AllReadyH.cons (o := _) rfl (fun K hK => ?_) ?_
  · skip
    go_simp
    refine hK.out _ _ HS1.out (fun hS3 => ?_)
    clear hK K
    (try simp only [Act.put, List.setIfInBounds_toArray, List.set_cons_zero, List.set_cons_succ])
    refine wpAnyH_ready (rs := [6]) (by kernel_rfl) (by simp) ?_
    refine AllReadyH.cons (o := _) rfl (fun K hK => ?_) AllReadyH.nil
    go_simp
    refine hK.out _ _ HS2.out (fun hS3 => ?_)
    clear hK K
    (try simp only [Act.put, List.setIfInBounds_toArray, List.set_cons_zero, List.set_cons_succ])
    refine wpAnyH_ready (rs := [7]) (by kernel_rfl) (by simp) ?_
    refine AllReadyH.cons (o := _) rfl (fun K hK => ?_) AllReadyH.nil
    (rw [if_pos (by rfl)]; simp [Oper.wp, execOp, resolve, invoke, builtin, Oper.upon, Act.eval, hrun, hrunB, Result.andThen, Sem.run_bind])
    refine hK.out _ _ HS3.out (fun hS3 => ?_)
    clear hK K
    (try simp only [Act.put, List.setIfInBounds_toArray, List.set_cons_zero, List.set_cons_succ])
    refine wpAnyH_ready (rs := [8]) (by kernel_rfl) (by simp) ?_
    refine AllReadyH.cons (o := _) rfl (fun K hK => ?_) AllReadyH.nil
    go_simp
    refine hK.out _ _ HS3.out (fun hS3 => ?_)
    clear hK K
    (try simp only [Act.put, List.setIfInBounds_toArray, List.set_cons_zero, List.set_cons_succ])
    refine wpAnyH_ready (rs := [9]) (by kernel_rfl) (by simp) ?_
    refine AllReadyH.cons (o := _) rfl (fun K hK => ?_) AllReadyH.nil
    go_simp
    refine hK.out _ _ HS3.out (fun hS3 => ?_)
    clear hK K
    (try simp only [Act.put, List.setIfInBounds_toArray, List.set_cons_zero, List.set_cons_succ])
    refine wpAnyH_ready (rs := [10]) (by kernel_rfl) (by simp) ?_
    refine AllReadyH.cons (o := _) rfl (fun K hK => ?_) AllReadyH.nil
    go_simp
    refine hK.out _ _ HS4.out (fun hS3 => ?_)
    clear hK K
    (try simp only [Act.put, List.setIfInBounds_toArray, List.set_cons_zero, List.set_cons_succ])
    refine wpAnyH_done (by kernel_rfl) (NoPanic.normal ?_) _
    clear c0 c0b c0c hrun hrunB HS1 HS2 HS3 HS4
    generalize hW5 : (w3.setCell ⟨L, 0, none⟩ (.slice a3 (m.code.length + 1) c3)) = W5 at *
    clear hW5
    go_wp2_with fail
    refine bodyPost_ret (results_none rfl _ _ _) rfl ⟨rfl, _, HM4.out, (Fr.of HB1.out).trans ((Fr.of (Below.refl _ W).drew).trans HB4.out), HWN.out HN4.out⟩
  · skip
    refine AllReadyH.cons (o := _) rfl (fun K hK => ?_) AllReadyH.nil
    go_simp
    refine hK.out _ _ HS2.out (fun hS3 => ?_)
    clear hK K
    (try simp only [Act.put, List.setIfInBounds_toArray, List.set_cons_zero, List.set_cons_succ])
    refine wpAnyH_ready (rs := [4]) (by kernel_rfl) (by simp) ?_
    refine AllReadyH.cons (o := _) rfl (fun K hK => ?_) AllReadyH.nil
    go_simp
    refine hK.out _ _ HS2.out (fun hS3 => ?_)
    clear hK K
    (try simp only [Act.put, List.setIfInBounds_toArray, List.set_cons_zero, List.set_cons_succ])
    refine wpAnyH_ready (rs := [7]) (by kernel_rfl) (by simp) ?_
    refine AllReadyH.cons (o := _) rfl (fun K hK => ?_) AllReadyH.nil
    (rw [if_pos (by rfl)]; simp [Oper.wp, execOp, resolve, invoke, builtin, Oper.upon, Act.eval, hrun, hrunB, Result.andThen, Sem.run_bind])
    refine hK.out _ _ HS3.out (fun hS3 => ?_)
    clear hK K
    (try simp only [Act.put, List.setIfInBounds_toArray, List.set_cons_zero, List.set_cons_succ])
    refine wpAnyH_ready (rs := [8]) (by kernel_rfl) (by simp) ?_
    refine AllReadyH.cons (o := _) rfl (fun K hK => ?_) AllReadyH.nil
    go_simp
    refine hK.out _ _ HS3.out (fun hS3 => ?_)
    clear hK K
    (try simp only [Act.put, List.setIfInBounds_toArray, List.set_cons_zero, List.set_cons_succ])
    refine wpAnyH_ready (rs := [9]) (by kernel_rfl) (by simp) ?_
    refine AllReadyH.cons (o := _) rfl (fun K hK => ?_) AllReadyH.nil
    go_simp
    refine hK.out _ _ HS3.out (fun hS3 => ?_)
    clear hK K
    (try simp only [Act.put, List.setIfInBounds_toArray, List.set_cons_zero, List.set_cons_succ])
    refine wpAnyH_ready (rs := [10]) (by kernel_rfl) (by simp) ?_
    refine AllReadyH.cons (o := _) rfl (fun K hK => ?_) AllReadyH.nil
    go_simp
    refine hK.out _ _ HS4.out (fun hS3 => ?_)
    clear hK K
    (try simp only [Act.put, List.setIfInBounds_toArray, List.set_cons_zero, List.set_cons_succ])
    refine wpAnyH_done (by kernel_rfl) (NoPanic.normal ?_) _
    clear c0 c0b c0c hrun hrunB HS1 HS2 HS3 HS4
    generalize hW5 : (w3.setCell ⟨L, 0, none⟩ (.slice a3 (m.code.length + 1) c3)) = W5 at *
    clear hW5
    go_wp2_with fail
    refine bodyPost_ret (results_none rfl _ _ _) rfl ⟨rfl, _, HM4.out, (Fr.of HB1.out).trans ((Fr.of (Below.refl _ W).drew).trans HB4.out), HWN.out HN4.out⟩
end Go.Proofs.Ytmmnfkggfnokjaa
namespace Go.Proofs.Ytmmnfkggfnokjaa
open Go.RowKit
def compR : List Cel → List Cel → Int
  | x :: xs, y :: ys => if x = y then compR xs ys else cellCmp x y
  | _, _ => 0
end Go.Proofs.Ytmmnfkggfnokjaa
namespace Go.Proofs.Ytmmnfkggfnokjaa
open Go.RowKit
theorem Try.infoSl : (Try.prog.info? 22).map (fun i => (i.zero, i.size, i.bytes)) = some (some (.slice none 0 0), 1, 24) := by kernel_rfl
theorem passI_at {xs : List Cel} {j : Nat} (h : rightB xs = true) (hj : j < ar0 xs) : passI xs (aN xs j) = aN xs (j + 1) := by
  unfold passI; rw [if_pos (by omega), Int.toNat_natCast, (right_next h hj).2]
theorem take_drop_len {xs : List Cel} {j : Nat} (h : rightB xs = true) (hj : j < ar0 xs) : aN xs (j + 1) - aN xs j = (partJ xs j).length := (partJ_length h hj).symm
end Go.Proofs.Ytmmnfkggfnokjaa
namespace Go.Proofs.Ytmmnfkggfnokjaa
open Go.RowKit
end Go.Proofs.Ytmmnfkggfnokjaa
namespace Go.Proofs.Ytmmnfkggfnokjaa
open Go.RowKit
end Go.Proofs.Ytmmnfkggfnokjaa
namespace Go.Proofs.Ytmmnfkggfnokjaa
open Go.RowKit
end Go.Proofs.Ytmmnfkggfnokjaa
namespace Go.Proofs.Ytmmnfkggfnokjaa
open Go.RowKit
/-- cells changed one by one: the first k of them -/
def upTo (f : Cel → Cel) (xs : List Cel) (k : Nat) : List Cel := (xs.take k).map f ++ xs.drop k
/-- one variable shifted -/
def shiftC (d : Int) (c : Cel) : Cel := if c.k = 1 then { c with n := wrap64 (c.n + d) } else c
def shiftL (xs : List Cel) (d : Int) : List Cel := if rightB (xs.map (shiftC d)) then xs.map (shiftC d) else []
end Go.Proofs.Ytmmnfkggfnokjaa
namespace Go.Proofs.Ytmmnfkggfnokjaa
open Go.RowKit
end Go.Proofs.Ytmmnfkggfnokjaa
namespace Go.Proofs.Ytmmnfkggfnokjaa
open Go.RowKit
/-- one variable numbered -/
def numC (vs : List Int) (c : Cel) : Cel := if c.k = 1 then ⟨c.k, c.s, placeI vs c.n⟩ else c
def numL (xs : List Cel) : List Cel := xs.map (numC (varsL xs))
/-- what a map of the first k places says -/
def placeF (vs : List Int) (k : Nat) : Int → Int := fun i => if i ∈ vs.take k then (vs.idxOf i : Int) else 0
theorem Try.zeroInt (w : World) : (zeroValue 3).run Try.prog w = .ok (.int .i64 0) w := by kernel_rfl
end Go.Proofs.Ytmmnfkggfnokjaa
set_option linter.unusedVariables false
namespace Go.Proofs.Ytmmnfkggfnokjaa
open Go.RowKit
set_option maxHeartbeats 1600000 in
theorem fresh_any (w : World) (B L g : Nat) (vc : Value) (m : MkS) (k j : Nat) (hM : MkM w B L g vc m k j) (hl : m.next ≤ 1000000) :
    Calls Try.prog 148 #[.pointer (some ⟨L, 0, none⟩)] w (KPost w B L g vc m.fresh (k + 1) (j + 1) (.int .i64 m.next)) := by
  have c1 := hM.c1
  have f1 := hM.froz 1
  have hn := hM.next.1
  have HM := mkHid hM.step
  have hfr : Fr (kB L g vc) w (w.setCell ⟨L, 1, none⟩ (.int .i64 (m.next + 1))) := (Fr.refl _ _).set (by simp [kB]) _
  have HF := mkHid hfr
  clear hM hfr
  generalize m.next = n at *
  go_enter Try.func148, Try.ntmps148
  go_wp2_with fail
  go_ret
  exact ⟨ret_int (by omega), _, HM.out, HF.out, .inl rfl⟩
theorem Ins.fit_of {a b c e : Int} {s : ByteArray} {x : Bool} (h1 : -9223372036854775808 ≤ a ∧ a ≤ 9223372036854775807) (h2 : -9223372036854775808 ≤ b ∧ b ≤ 9223372036854775807) (h3 : -9223372036854775808 ≤ c ∧ c ≤ 9223372036854775807) (h4 : -9223372036854775808 ≤ e ∧ e ≤ 9223372036854775807) (h5 : s.size ≤ 9223372036854775807) : (Ins.mk a b c s e x).fit :=
  ⟨h1.1, h1.2, h2.1, h2.2, h3.1, h3.2, h5, h4.1, h4.2⟩
theorem var_some {m : MkS} {n r : Int} (h : m.at_ n = some r) (f ag a : Int) : m.var n f ag a = m.lay ⟨ag, r, a, ⟨#[]⟩, 0, false⟩ := by
  unfold MkS.var; rw [h]
theorem var_none {m : MkS} {n : Int} (h : m.at_ n = none) (f ag a : Int) : m.var n f ag a = (m.fresh.met n m.next).lay ⟨f, m.next, a, ⟨#[]⟩, 0, false⟩ := by
  unfold MkS.var; rw [h]; rfl
set_option maxRecDepth 100000 in
set_option maxHeartbeats 3200000 in
theorem variable_any (w : World) (B L g : Nat) (vc : Value) (m : MkS) (k j : Nat) (n f ag a : Int) (hM : MkM w B L g vc m k j) (hl : m.code.length ≤ 900000) (hk : k ≤ 1000) (hn1 : -9223372036854775808 ≤ n) (hn2 : n ≤ 9223372036854775807) (hf : 0 ≤ f ∧ f ≤ 100) (hag : 0 ≤ ag ∧ ag ≤ 100) (ha : -9223372036854775808 ≤ a ∧ a ≤ 9223372036854775807) :
    Calls Try.prog 191 #[.pointer (some ⟨L, 0, none⟩), .int .i64 n, .int .i64 f, .int .i64 ag, .int .i64 a] w (KPost w B L g vc (m.var n f ag a) k j (.tuple #[])) := by
  have hwf := wf64 hn1 hn2
  have hnx := hM.next
  have c2 := hM.c2
  have hlk : (Instr.lookup 93 (.map (some g)) (.int .i64 n) true).run Try.prog w = .ok (.tuple #[((m.at_ n).map (Value.int .i64)).getD (.int .i64 0), .bool ((m.at_ n).map (Value.int .i64)).isSome]) w := by
    obtain ⟨q, _, hq⟩ := hM.map
    exact hq.run_ok (t := 93) (e := 3) Try.underlying3 Try.underlying93 (Try.zeroInt _) hwf
  have HM := mkHid hM
  have HREG := mkHid hM.reg
  clear hM
  cases hat : m.at_ n with
  | some r =>
    have HV := mkHid (var_some hat f ag a)
    have hr := HREG.out n r hat
    rw [hat] at hlk
    simp only [Option.map_some, Option.getD_some, Option.isSome_some] at hlk
    clear hat
    go_enter Try.func191, Try.ntmps191
    go_wp2_with fail
    refine (lay_any w B L g vc m k j ⟨ag, r, a, ⟨#[]⟩, 0, false⟩ (HM.out.slack (by omega) (Nat.le_refl _)) (Ins.fit_of (by omega) (by omega) ha (by omega) (by decide)) (by omega)).mono ?_
    rintro e w2 ⟨rfl, vc2, hM2, hF2, hN2⟩
    have HP : Hid (∃ vc', MkM w2 B L g vc' (m.lay ⟨ag, r, a, ⟨#[]⟩, 0, false⟩) k j ∧ Fr (kB L g vc) w w2 ∧ NewAtN w vc vc') := ⟨vc2, hM2, hF2, hN2⟩
    clear hM2 hF2 hN2
    go_wp2_with fail
    refine bodyPost_ret (results_none rfl _ _ _) rfl ⟨rfl, ?_⟩
    rw [HV.out]
    exact HP.out
  | none =>
    have HV := mkHid (var_none hat f ag a)
    rw [hat] at hlk
    simp only [Option.map_none, Option.getD_none, Option.isSome_none] at hlk
    clear hat
    go_enter Try.func191, Try.ntmps191
    go_wp2_with fail
    refine (fresh_any w B L g vc m k j HM.out (by omega)).mono ?_
    rintro e w2 ⟨rfl, vc2, hM2, hF2, hN2⟩
    have d2 := hM2.c2
    obtain ⟨q, hq, hmap⟩ := hM2.map
    have HM2 := mkHid hM2
    have HF2 := mkHid hF2
    have HN2 := mkHid hN2
    have hcl : m.fresh.code.length = m.code.length := rfl
    have hfx : m.fresh.next = m.next + 1 := rfl
    have hqq : (q : Int) ≤ 1000000 := by omega
    have HCL := mkHid hcl
    have HFX := mkHid hfx
    have HQ := mkHid hq
    clear c2 hM2 hF2 hN2 hcl hfx hq hlk
    go_wp2_with (at_mapUpdate; refine hmap.wpl_update rfl _ _ _ rfl Try.underlying3 Try.underlying93 (by rfl) (by omega) n (by rfl) hwf (.int .i64 m.next) (by rfl) ?_; intro w3 hmap3 hg3; have HM3 := mkHid (HM2.out.meet hmap3 (by have := HQ.out; omega) hg3 (by have := HFX.out; omega)); have HF3 : Hid (Fr (kB L g vc) w w3) := HF2.out.trans ((grown_frN hg3).sub (by simp [kB])); have HS3 := mkHid hg3.size)
    refine (lay_any w3 B L g vc2 (m.fresh.met n m.next) k j ⟨f, m.next, a, ⟨#[]⟩, 0, false⟩ HM3.out (Ins.fit_of (by omega) (by omega) ha (by omega) (by decide)) (by show m.code.length ≤ _; omega)).mono ?_
    rintro e w4 ⟨rfl, vc4, hM4, hF4, hN4⟩
    have HP : Hid (∃ vc', MkM w4 B L g vc' ((m.fresh.met n m.next).lay ⟨f, m.next, a, ⟨#[]⟩, 0, false⟩) k j ∧ Fr (kB L g vc) w w4 ∧ NewAtN w vc vc') := ⟨vc4, hM4, frK_trans HF3.out HN2.out hF4, newAtN_trans HN2.out HF3.out.size hN4⟩
    clear hM4 hF4 hN4
    go_wp2_with fail
    refine bodyPost_ret (results_none rfl _ _ _) rfl ⟨rfl, ?_⟩
    rw [HV.out]
    exact HP.out
set_option maxRecDepth 100000 in
set_option maxHeartbeats 3200000 in
theorem set_any (w : World) (B L g : Nat) (vc : Value) (m : MkS) (c : Cel) (r : Int) (hM : MkM w B L g vc m 0 0) (hl : m.code.length ≤ 900000) (hc : c.fit) (hr : -9223372036854775808 ≤ r ∧ r ≤ 9223372036854775807) :
    Calls Try.prog 149 #[.pointer (some ⟨L, 0, none⟩), c.v, .int .i64 r] w (KPost w B L g vc (setS c r m) 0 0 (.tuple #[])) := by
  obtain ⟨ck, cs, cn⟩ := c
  have hn1 := hc.n1
  have hn2 := hc.n2
  have hb1 := (Below.refl w.heap.size w).new (.cells #[.int .i64 ck, .string cs, .int .i64 cn] 79)
  have HM1 := mkHid (hM.below hb1)
  have HF1 : Hid (Fr (kB L g vc) w (w.alloc (.cells #[.int .i64 ck, .string cs, .int .i64 cn] 79))) := Fr.of hb1
  have HSZ : Hid (w.heap.size ≤ (w.alloc (.cells #[.int .i64 ck, .string cs, .int .i64 cn] 79)).heap.size) := hb1.size
  clear hM hb1
  dsimp only at hn1 hn2
  have fin : ∀ (m' : MkS) (e : Ending) (W' : World), KPost (w.alloc (.cells #[.int .i64 ck, .string cs, .int .i64 cn] 79)) B L g vc m' 0 0 (.tuple #[]) e W' → KPost w B L g vc m' 0 0 (.tuple #[]) e W' := fun m' e W' h => by
    obtain ⟨h1, v, h2, h3, h4⟩ := h
    exact ⟨h1, v, h2, HF1.out.trans h3, newAtN_trans (.inl rfl) HSZ.out h4⟩
  have FIN := mkHid fin
  clear fin
  by_cases h1 : ck = 1
  · subst h1
    have HS : Hid (setS ⟨1, cs, cn⟩ r m = m.var cn 9 10 0) := by rw [Hid, setS, if_pos rfl]
    go_enter Try.func149, Try.ntmps149
    dsimp only [Cel.v]
    go_wp2_with fail
    refine (variable_any _ B L g vc m 0 0 cn 9 10 0 HM1.out hl (by omega) hn1 hn2 (by omega) (by omega) (by omega)).mono ?_
    rintro e w2 ⟨rfl, h⟩
    have HP := mkHid h
    clear h
    go_wp2_with fail
    refine bodyPost_ret (results_none rfl _ _ _) rfl ?_
    rw [HS.out]
    exact FIN.out _ _ _ ⟨rfl, HP.out⟩
  · by_cases h2 : ck = 2
    · subst h2
      have HS : Hid (setS ⟨2, cs, cn⟩ r m = m.lay ⟨11, 0, 0, ⟨#[]⟩, cn, false⟩) := by rw [Hid, setS, if_neg (by simp), if_pos rfl]
      clear h1
      go_enter Try.func149, Try.ntmps149
      dsimp only [Cel.v]
      go_wp2_with fail
      refine (lay_any _ B L g vc m 0 0 ⟨11, 0, 0, ⟨#[]⟩, cn, false⟩ (HM1.out.slack (by omega) (Nat.le_refl _)) (Ins.fit_of (by omega) (by omega) (by omega) (by omega) (by decide)) (by omega)).mono ?_
      rintro e w2 ⟨rfl, h⟩
      have HP := mkHid h
      clear h
      go_wp2_with fail
      refine bodyPost_ret (results_none rfl _ _ _) rfl ?_
      rw [HS.out]
      exact FIN.out _ _ _ ⟨rfl, HP.out⟩
    · by_cases h3 : ck = 3
      · subst h3
        have HS : Hid (setS ⟨3, cs, cn⟩ r m = m.lay ⟨10, r, 0, ⟨#[]⟩, 0, false⟩) := by rw [Hid, setS, if_neg (by simp), if_neg (by simp), if_pos rfl]
        clear h1 h2
        go_enter Try.func149, Try.ntmps149
        dsimp only [Cel.v]
        go_wp2_with fail
        refine (lay_any _ B L g vc m 0 0 ⟨10, r, 0, ⟨#[]⟩, 0, false⟩ (HM1.out.slack (by omega) (Nat.le_refl _)) (Ins.fit_of (by omega) hr (by omega) (by omega) (by decide)) (by omega)).mono ?_
        rintro e w2 ⟨rfl, h⟩
        have HP := mkHid h
        clear h
        go_wp2_with fail
        refine bodyPost_ret (results_none rfl _ _ _) rfl ?_
        rw [HS.out]
        exact FIN.out _ _ _ ⟨rfl, HP.out⟩
      · have HS : Hid (setS ⟨ck, cs, cn⟩ r m = m) := by rw [Hid, setS, if_neg h1, if_neg h2, if_neg h3]
        have t1 : (ck == 1) = false := by simp [h1]
        have t2 : (ck == 2) = false := by simp [h2]
        have t3 : (ck == 3) = false := by simp [h3]
        clear h1 h2 h3
        go_enter Try.func149, Try.ntmps149
        dsimp only [Cel.v]
        go_wp2_with fail
        refine bodyPost_ret (results_none rfl _ _ _) rfl ?_
        rw [HS.out]
        exact FIN.out _ _ _ ⟨rfl, _, HM1.out, Fr.refl _ _, .inl rfl⟩
end Go.Proofs.Ytmmnfkggfnokjaa
set_option linter.unusedVariables false
namespace Go.Proofs.Ytmmnfkggfnokjaa
open Go.RowKit
/-! ### code does not tell how variables are numbered -/
def InjP (F : Int → Int) (P : Int → Prop) : Prop := ∀ a b, P a → P b → F a = F b → a = b
structure MR (F : Int → Int) (P : Int → Prop) (m m' : MkS) : Prop where
  code : m'.code = m.code
  next : m'.next = m.next
  at_ : ∀ n, P n → m'.at_ (F n) = m.at_ n
section
variable {F : Int → Int} {P : Int → Prop} {m m' : MkS}
theorem MR.lay (h : MR F P m m') (i : Ins) : MR F P (m.lay i) (m'.lay i) := ⟨by simp [MkS.lay, h.code], h.next, h.at_⟩
theorem MR.fresh (h : MR F P m m') : MR F P m.fresh m'.fresh := ⟨h.code, by simp [MkS.fresh, h.next], h.at_⟩
theorem MR.var (h : MR F P m m') (hF : InjP F P) {n : Int} (hn : P n) (f g a : Int) : MR F P (m.var n f g a) (m'.var (F n) f g a) := by
  unfold MkS.var
  rw [h.at_ n hn]
  cases m.at_ n with
  | some r => exact h.lay _
  | none =>
    refine ⟨by simp [MkS.lay, MkS.fresh, h.code, h.next], by simp [MkS.lay, MkS.fresh, h.next], fun k hk => ?_⟩
    show (if F k = F n then some m'.next else m'.at_ (F k)) = if k = n then some m.next else m.at_ k
    by_cases e : k = n
    · subst e; rw [if_pos rfl, if_pos rfl, h.next]
    · rw [if_neg e, if_neg (fun e2 => e (hF k n hk hn e2)), h.at_ k hk]
end
mutual
def VarsT (P : Int → Prop) : Tm → Prop
  | .mk c ts => (c.k = 1 → P c.n) ∧ VarsTs P ts
def VarsTs (P : Int → Prop) : List Tm → Prop
  | [] => True
  | t :: ts => VarsT P t ∧ VarsTs P ts
end
theorem ren_hd (F : Int → Int) (t : Tm) (hk : kindOk t.hd) : (renT F t).hd.k = t.hd.k ∧ (t.hd.k = 1 → (renT F t).hd.n = F t.hd.n) ∧ (t.hd.k ≠ 1 → (renT F t).hd.n = t.hd.n) ∧ (t.hd.k = 3 → (renT F t).hd.s = t.hd.s ∧ (renT F t).args = renTs F t.args) := by
  obtain ⟨c, ts⟩ := t
  have hk' : c.k = 1 ∨ c.k = 2 ∨ c.k = 3 := hk
  simp only [Tm.hd, Tm.args] at *
  unfold renT
  rcases hk' with h | h | h
  · rw [if_pos h]
    exact ⟨h.symm, fun _ => rfl, fun e => absurd h e, fun e => by omega⟩
  · rw [if_neg (by omega), if_pos h]
    exact ⟨h.symm, fun e => by omega, fun _ => rfl, fun e => by omega⟩
  · rw [if_neg (by omega), if_neg (by omega)]
    exact ⟨h.symm, fun e => by omega, fun _ => rfl, fun _ => ⟨rfl, rfl⟩⟩
def renP (F : Int → Int) (p : Tm × Int) : Tm × Int := (renT F p.1, p.2)
section
variable {F : Int → Int} {P : Int → Prop}
theorem unifyS_ren (hF : InjP F P) : ∀ (ts : List Tm) (m m' : MkS), KindsL ts → VarsTs P ts → MR F P m m' → MR F P (unifyS ts m).1 (unifyS (renTs F ts) m').1 ∧ (unifyS (renTs F ts) m').2 = (unifyS ts m).2.map (renP F)
  | [], m, m', _, _, h => by unfold renTs unifyS; exact ⟨h, rfl⟩
  | t :: ts, m, m', hk, hv, h => by
    have hkt : kindOk t.hd := KindsL.mem hk t List.mem_cons_self
    obtain ⟨r1, r2, r3, r4⟩ := ren_hd F t hkt
    have hvt : t.hd.k = 1 → P t.hd.n := fun e => by obtain ⟨c, az⟩ := t; exact hv.1.1 e
    unfold renTs unifyS
    rw [r1]
    by_cases h1 : t.hd.k = 1
    · rw [if_pos h1, if_pos h1, r2 h1]
      exact unifyS_ren hF ts _ _ hk.2 hv.2 (h.var hF (hvt h1) _ _ _)
    · rw [if_neg h1, if_neg h1]
      by_cases h2 : t.hd.k = 2
      · rw [if_pos h2, if_pos h2, r3 h1]
        exact unifyS_ren hF ts _ _ hk.2 hv.2 (h.lay _)
      · rw [if_neg h2, if_neg h2]
        by_cases h3 : t.hd.k = 3
        · rw [if_pos h3, if_pos h3, h.next]
          obtain ⟨a, b⟩ := unifyS_ren hF ts _ _ hk.2 hv.2 (h.fresh.lay ⟨5, m.next, 0, ⟨#[]⟩, 0, false⟩)
          exact ⟨a, by rw [b]; rfl⟩
        · rw [if_neg h3, if_neg h3]
          exact unifyS_ren hF ts _ _ hk.2 hv.2 h
theorem getS_ren (hF : InjP F P) (p : Tm × Int) (m m' : MkS) (hk : Kinds p.1) (hv : VarsT P p.1) (h : MR F P m m') : MR F P (getS p m).1 (getS (renP F p) m').1 ∧ (getS (renP F p) m').2 = (getS p m).2.map (renP F) := by
  obtain ⟨t, r⟩ := p
  obtain ⟨c, az⟩ := t
  have hk' : c.k = 1 ∨ c.k = 2 ∨ c.k = 3 := hk.1
  rcases hk' with h1 | h1 | h1
  · have e : renP F (.mk c az, r) = (vT (F c.n), r) := by unfold renP renT; rw [if_pos h1]
    have e1 : getS (.mk c az, r) m = (m.var c.n 1 2 r, []) := by unfold getS; simp [Tm.hd, h1]
    have e2 : getS (vT (F c.n), r) m' = (m'.var (F c.n) 1 2 r, []) := by unfold getS vT; simp [Tm.hd]
    rw [e, e1, e2]
    exact ⟨h.var hF (hv.1 h1) _ _ _, rfl⟩
  · have e : renP F (.mk c az, r) = (.mk ⟨2, ⟨#[]⟩, c.n⟩ [], r) := by unfold renP renT; rw [if_neg (by omega), if_pos h1]
    have e1 : getS (.mk c az, r) m = (m.lay ⟨3, 0, r, ⟨#[]⟩, c.n, false⟩, []) := by unfold getS; simp [Tm.hd, h1]
    have e2 : getS (.mk ⟨2, ⟨#[]⟩, c.n⟩ [], r) m' = (m'.lay ⟨3, 0, r, ⟨#[]⟩, c.n, false⟩, []) := by unfold getS; simp [Tm.hd]
    rw [e, e1, e2]
    exact ⟨h.lay _, rfl⟩
  · have e : renP F (.mk c az, r) = (.mk ⟨3, c.s, c.n⟩ (renTs F az), r) := by unfold renP renT; rw [if_neg (by omega), if_neg (by omega)]
    have e1 : getS (.mk c az, r) m = unifyS az (m.lay ⟨4, 0, r, c.s, c.n, false⟩) := by unfold getS; simp [Tm.hd, Tm.args, h1]
    have e2 : getS (.mk ⟨3, c.s, c.n⟩ (renTs F az), r) m' = unifyS (renTs F az) (m'.lay ⟨4, 0, r, c.s, c.n, false⟩) := by unfold getS; simp [Tm.hd, Tm.args]
    rw [e, e1, e2]
    exact unifyS_ren hF az _ _ hk.2.2 hv.2 (h.lay _)
theorem unifyS_mem : ∀ (ts : List Tm) (m : MkS), ∀ p ∈ (unifyS ts m).2, p.1 ∈ ts
  | [], m, p, h => by simp [unifyS] at h
  | t :: ts, m, p, h => by
    unfold unifyS at h
    split at h
    · exact List.mem_cons_of_mem _ (unifyS_mem ts _ p h)
    · split at h
      · exact List.mem_cons_of_mem _ (unifyS_mem ts _ p h)
      · split at h
        · rcases List.mem_cons.1 h with rfl | h
          · exact List.mem_cons_self
          · exact List.mem_cons_of_mem _ (unifyS_mem ts _ p h)
        · exact List.mem_cons_of_mem _ (unifyS_mem ts _ p h)
theorem kindsL_mem : ∀ {ts : List Tm}, KindsL ts → ∀ t ∈ ts, Kinds t
  | [], _, t, h => by cases h
  | u :: ts, hk, t, hm => by
    rcases List.mem_cons.1 hm with rfl | hm
    · exact hk.1
    · exact kindsL_mem hk.2 t hm
theorem varsTs_mem : ∀ {ts : List Tm}, VarsTs P ts → ∀ t ∈ ts, VarsT P t
  | [], _, t, h => by cases h
  | u :: ts, hk, t, hm => by
    rcases List.mem_cons.1 hm with rfl | hm
    · exact hk.1
    · exact varsTs_mem hk.2 t hm
theorem getS_mem (p : Tm × Int) (m : MkS) : ∀ q ∈ (getS p m).2, q.1 ∈ p.1.args := by
  intro q hq
  unfold getS at hq
  split at hq
  · cases hq
  · split at hq
    · cases hq
    · split at hq
      · exact unifyS_mem _ _ q hq
      · cases hq
theorem rowS_ren (hF : InjP F P) : ∀ (f : Nat) (ps : List (Tm × Int)) (m m' : MkS), (∀ p ∈ ps, Kinds p.1 ∧ VarsT P p.1) → MR F P m m' → MR F P (rowS f ps m) (rowS f (ps.map (renP F)) m')
  | 0, _, _, _, _, h => h
  | _ + 1, [], _, _, _, h => h
  | f + 1, p :: ps, m, m', hp, h => by
    obtain ⟨hk, hv⟩ := hp p List.mem_cons_self
    obtain ⟨a, b⟩ := getS_ren hF p m m' hk hv h
    rw [List.map_cons]
    unfold rowS
    rw [b, ← List.map_append]
    refine rowS_ren hF f _ _ _ (fun q hq => ?_) a
    rcases List.mem_append.1 hq with hq | hq
    · exact hp q (List.mem_cons_of_mem _ hq)
    · have hm := getS_mem p m q hq
      obtain ⟨t, r⟩ := p
      obtain ⟨c, az⟩ := t
      exact ⟨kindsL_mem hk.2.2 _ hm, varsTs_mem hv.2 _ hm⟩
theorem setS_ren (hF : InjP F P) (t : Tm) (r : Int) (m m' : MkS) (hk : kindOk t.hd) (hv : t.hd.k = 1 → P t.hd.n) (h : MR F P m m') : MR F P (setS t.hd r m) (setS (renT F t).hd r m') := by
  obtain ⟨r1, r2, r3, r4⟩ := ren_hd F t hk
  unfold setS
  rw [r1]
  by_cases h1 : t.hd.k = 1
  · rw [if_pos h1, if_pos h1, r2 h1]; exact h.var hF (hv h1) _ _ _
  · rw [if_neg h1, if_neg h1]
    by_cases h2 : t.hd.k = 2
    · rw [if_pos h2, if_pos h2, r3 h1]; exact h.lay _
    · rw [if_neg h2, if_neg h2]
      by_cases h3 : t.hd.k = 3
      · rw [if_pos h3, if_pos h3]; exact h.lay _
      · rw [if_neg h3, if_neg h3]; exact h
theorem setsS_ren (hF : InjP F P) : ∀ (ts : List Tm) (rs : List Int) (m m' : MkS), KindsL ts → VarsTs P ts → MR F P m m' → MR F P (setsS ts rs m) (setsS (renTs F ts) rs m')
  | [], rs, m, m', _, _, h => by unfold renTs setsS; exact h
  | t :: ts, [], m, m', _, _, h => by unfold renTs setsS; exact h
  | t :: ts, r :: rs, m, m', hk, hv, h => by
    unfold renTs setsS
    refine setsS_ren hF ts rs _ _ hk.2 hv.2 (setS_ren hF t r m m' (KindsL.mem hk t List.mem_cons_self) (fun e => ?_) h)
    obtain ⟨c, az⟩ := t
    exact hv.1.1 e
end
end Go.Proofs.Ytmmnfkggfnokjaa
set_option linter.unusedVariables false
namespace Go.Proofs.Ytmmnfkggfnokjaa
open Go.RowKit
section
variable {F : Int → Int} {P : Int → Prop}
mutual
theorem structS_ren (hF : InjP F P) : ∀ (t : Tm) (m m' : MkS), Kinds t → t.hd.k = 3 → VarsT P t → MR F P m m' → MR F P (structS t m).1 (structS (renT F t) m').1 ∧ (structS (renT F t) m').2 = (structS t m).2
  | .mk c ts, m, m', hk, h3, hv, h => by
    have h3' : c.k = 3 := h3
    have e : renT F (.mk c ts) = .mk ⟨3, c.s, c.n⟩ (renTs F ts) := by unfold renT; rw [if_neg (by omega), if_neg (by omega)]
    rw [e]
    unfold structS
    obtain ⟨a, b⟩ := innerS_ren hF ts m m' hk.2.2 hv.2 h
    dsimp only
    rw [b, a.next]
    exact ⟨setsS_ren hF ts _ _ _ hk.2.2 hv.2 (a.fresh.lay ⟨8, 0, (innerS ts m).1.next, c.s, c.n, false⟩), rfl⟩
theorem innerS_ren (hF : InjP F P) : ∀ (ts : List Tm) (m m' : MkS), KindsL ts → VarsTs P ts → MR F P m m' → MR F P (innerS ts m).1 (innerS (renTs F ts) m').1 ∧ (innerS (renTs F ts) m').2 = (innerS ts m).2
  | [], m, m', _, _, h => by unfold renTs innerS; exact ⟨h, rfl⟩
  | t :: ts, m, m', hk, hv, h => by
    obtain ⟨r1, _, _, _⟩ := ren_hd F t (KindsL.mem hk t List.mem_cons_self)
    unfold renTs innerS
    rw [r1]
    by_cases h3 : t.hd.k = 3
    · rw [if_pos h3, if_pos h3]
      obtain ⟨a, b⟩ := structS_ren hF t m m' hk.1 h3 hv.1 h
      obtain ⟨a2, b2⟩ := innerS_ren hF ts _ _ hk.2 hv.2 a
      exact ⟨a2, by rw [b, b2]⟩
    · rw [if_neg h3, if_neg h3]
      obtain ⟨a2, b2⟩ := innerS_ren hF ts _ _ hk.2 hv.2 h
      exact ⟨a2, by rw [b2]⟩
end
def renL (F : Int → Int) (x : Bool × Tm) : Bool × Tm := (x.1, renT F x.2)
theorem litS_ren (hF : InjP F P) (x : Bool × Tm) (m m' : MkS) (hk : Kinds x.2) (h3 : x.2.hd.k = 3) (hv : VarsT P x.2) (h : MR F P m m') : MR F P (litS x m) (litS (renL F x) m') := by
  obtain ⟨a, b⟩ := structS_ren hF x.2 m m' hk h3 hv h
  unfold litS renL
  dsimp only
  rw [b]
  exact a.lay _
theorem lits_ren (hF : InjP F P) : ∀ (b : List (Bool × Tm)) (m m' : MkS), (∀ x ∈ b, Kinds x.2 ∧ x.2.hd.k = 3 ∧ VarsT P x.2) → MR F P m m' → MR F P (b.foldl (fun m x => litS x m) m) ((b.map (renL F)).foldl (fun m x => litS x m) m')
  | [], m, m', _, h => h
  | x :: b, m, m', hb, h => by
    obtain ⟨h1, h2, h3⟩ := hb x List.mem_cons_self
    rw [List.map_cons, List.foldl_cons, List.foldl_cons]
    exact lits_ren hF b _ _ (fun y hy => hb y (List.mem_cons_of_mem _ hy)) (litS_ren hF x m m' h1 h2 h3 h)
theorem rowOf_ren (F : Int → Int) : ∀ (ts : List Tm) (i : Nat), rowOf (renTs F ts) i = (rowOf ts i).map (renP F)
  | [], i => by unfold renTs rowOf; rfl
  | t :: ts, i => by unfold renTs rowOf; rw [rowOf_ren F ts (i + 1)]; rfl
theorem rowOf_mem2 : ∀ (ts : List Tm) (i : Nat), ∀ p ∈ rowOf ts i, p.1 ∈ ts
  | [], i, p, h => by simp [rowOf] at h
  | t :: ts, i, p, h => by
    unfold rowOf at h
    rcases List.mem_cons.1 h with rfl | h
    · exact List.mem_cons_self
    · exact List.mem_cons_of_mem _ (rowOf_mem2 ts _ p h)
mutual
theorem ren_flat_len (F : Int → Int) : ∀ t : Tm, Kinds t → (renT F t).flat.length = t.flat.length
  | .mk c ts, hk => by
    have hk' : c.k = 1 ∨ c.k = 2 ∨ c.k = 3 := hk.1
    unfold renT
    rcases hk' with h | h | h
    · rw [if_pos h, hk.2.1 (by omega)]; simp [vT, Tm.flat, flats]
    · rw [if_neg (by omega), if_pos h, hk.2.1 (by omega)]; simp [Tm.flat, flats]
    · rw [if_neg (by omega), if_neg (by omega)]
      simp only [Tm.flat, List.length_cons]
      rw [ren_flats_len F ts hk.2.2]
theorem ren_flats_len (F : Int → Int) : ∀ ts : List Tm, KindsL ts → (flats (renTs F ts)).length = (flats ts).length
  | [], _ => by unfold renTs; rfl
  | t :: ts, hk => by
    unfold renTs flats
    rw [List.length_append, List.length_append, ren_flat_len F t hk.1, ren_flats_len F ts hk.2]
end
/-- CODE DOES NOT TELL HOW VARIABLES ARE NUMBERED -/
theorem compS_ren (hF : InjP F P) (h : Tm) (b : List (Bool × Tm)) (hh : Kinds h) (h3 : h.hd.k = 3) (hv : VarsT P h) (hb : ∀ x ∈ b, Kinds x.2 ∧ x.2.hd.k = 3 ∧ VarsT P x.2) : compS (renT F h) (b.map (renL F)) = compS h b := by
  obtain ⟨c, ts⟩ := h
  have h3' : c.k = 3 := h3
  have e : renT F (.mk c ts) = .mk ⟨3, c.s, c.n⟩ (renTs F ts) := by unfold renT; rw [if_neg (by omega), if_neg (by omega)]
  have hl := ren_flat_len F (.mk c ts) hh
  unfold compS
  rw [hl, e]
  have e1 : (Tm.mk ⟨3, c.s, c.n⟩ (renTs F ts)).args = renTs F ts := rfl
  have e2 : (Tm.mk ⟨3, c.s, c.n⟩ (renTs F ts)).hd = ⟨3, c.s, c.n⟩ := rfl
  have e3 : (Tm.mk c ts).args = ts := rfl
  have e4 : (Tm.mk c ts).hd = c := rfl
  rw [e1, e2, e3, e4, rowOf_ren]
  have hm0 : MR F P ⟨[], c.n, fun _ => none⟩ ⟨[], c.n, fun _ => none⟩ := ⟨rfl, rfl, fun n _ => rfl⟩
  have hm1 := rowS_ren hF (2 * (Tm.mk c ts).flat.length + 1) (rowOf ts 0) _ _ (fun p hp => ⟨kindsL_mem hh.2.2 _ (rowOf_mem2 ts 0 p hp), varsTs_mem hv.2 _ (rowOf_mem2 ts 0 p hp)⟩) hm0
  have hm2 := (lits_ren hF b _ _ hb hm1).lay ⟨13, 0, 0, c.s, c.n, false⟩
  exact hm2.code
end
end Go.Proofs.Ytmmnfkggfnokjaa
set_option linter.unusedVariables false
namespace Go.Proofs.Ytmmnfkggfnokjaa
open Go.RowKit
/-! ### a row of terms that wait, beside the maker's blocks -/
/-- what a row is read of: no block of us, none below B, not its own -/
def vw (us : List Nat) (B : Nat) (v : Value) (w : World) : World := veil (v.ownBlock.toList ++ us) (under B w)
structure RowP (W : World) (us : List Nat) (B : Nat) (xs : List Pl) (v : Value) : Prop where
  ex : ∃ vs, CRows (vw us B v W) vs xs ∧ ((v = .slice none 0 0 ∧ xs = []) ∨ ∃ g off cap cur, v = .slice (some ⟨g, off, none⟩) xs.length cap ∧ B ≤ g ∧ g ∉ us ∧ W.heap[g]? = some (.cells cur 182 (0, 0)) ∧ xs.length ≤ cap ∧ cap ≤ 9223372036854775807 ∧ off + cap * 2 ≤ cur.size ∧ (cur.toList.drop off).take (xs.length * 2) = vs)
theorem vw_cell {us : List Nat} {B : Nat} {v : Value} {w : World} {b o : Nat} {x : Value} (h : (vw us B v w).cell? ⟨b, o, none⟩ = some x) : B ≤ b ∧ b ∉ us ∧ v.ownBlock ≠ some b ∧ w.cell? ⟨b, o, none⟩ = some x := by
  obtain ⟨h1, h2⟩ := veil_cell h
  obtain ⟨h3, h4⟩ := under_cell h2
  simp at h1
  exact ⟨h3, h1.2, fun e => h1.1 (by simp [e]), h4⟩
theorem vw_of {us : List Nat} {B : Nat} {v : Value} {w : World} {b o : Nat} {x : Value} (h1 : B ≤ b) (h2 : b ∉ us) (h3 : v.ownBlock ≠ some b) (h : w.cell? ⟨b, o, none⟩ = some x) : (vw us B v w).cell? ⟨b, o, none⟩ = some x := by
  refine veil_of ?_ (under_of h1 h)
  simp
  exact ⟨fun e => h3 e, h2⟩
theorem RowP.nil (W : World) (us : List Nat) (B : Nat) : RowP W us B [] (.slice none 0 0) := ⟨[], .nil, .inl ⟨rfl, rfl⟩⟩
section
variable {W W' : World} {us us' : List Nat} {B : Nat} {xs ys : List Pl} {v v' : Value}
/-- the maker turned -/
theorem RowP.turn (h : RowP W us B xs v) (hf : Fr us W W') (hk : ∀ b ∈ us', b ∈ us ∨ W.heap.size ≤ b) : RowP W' us' B xs v := by
  obtain ⟨vs, hc, hv⟩ := h.ex
  refine ⟨vs, hc.keeps fun b o x hx => ?_, ?_⟩
  · obtain ⟨h1, h2, h3, h4⟩ := vw_cell hx
    have hl := cell_lt h4
    exact vw_of h1 (fun e => by rcases hk b e with e | e; exact h2 e; omega) h3 ((World.cell?_of_block (w := W) (a := ⟨b, o, none⟩) (hf.block b hl h2)).trans h4)
  · rcases hv with hv | ⟨g, off, cap, cur, e, hB, hg, hb, h1, h2, h3, h4⟩
    · exact .inl hv
    · have hl := (Array.getElem?_eq_some_iff.1 hb).1
      exact .inr ⟨g, off, cap, cur, e, hB, fun e => by rcases hk g e with e | e; exact hg e; omega, (hf.block g hl hg).trans hb, h1, h2, h3, h4⟩
theorem RowP.mono {B' : Nat} (h : RowP W us B xs v) (hB : B' ≤ B) : RowP W us B' xs v := by
  obtain ⟨vs, hc, hv⟩ := h.ex
  refine ⟨vs, hc.keeps fun b o x hx => ?_, hv.imp id fun ⟨g, off, cap, cur, e, h1, rest⟩ => ⟨g, off, cap, cur, e, Nat.le_trans hB h1, rest⟩⟩
  obtain ⟨h1, h2, h3, h4⟩ := vw_cell hx
  exact vw_of (Nat.le_trans hB h1) h2 h3 h4
theorem RowP.below (h : RowP W us B xs v) (hb : Below W.heap.size W W') : RowP W' us B xs v := h.turn (Fr.of hb) (fun b hb => .inl hb)
theorem RowP.lt (h : RowP W us B xs v) : ∀ b, v.ownBlock = some b → B ≤ b ∧ b < W.heap.size := by
  intro b hb
  obtain ⟨vs, hc, hv⟩ := h.ex
  rcases hv with ⟨e, _⟩ | ⟨g, off, cap, cur, e, hB, hg, hb', h1, h2, h3, h4⟩
  · rw [e] at hb; cases hb
  · rw [e] at hb; cases hb
    exact ⟨hB, (Array.getElem?_eq_some_iff.1 hb').1⟩
theorem RowP.slice (h : RowP W us B xs v) : ∃ a cap, v = .slice a xs.length cap ∧ xs.length ≤ cap ∧ cap ≤ 9223372036854775807 ∧ (a = none → cap = 0 ∧ xs = []) := by
  obtain ⟨vs, hc, hv⟩ := h.ex
  rcases hv with ⟨rfl, rfl⟩ | ⟨g, off, cap, cur, rfl, hB, hg, hb, h1, h2, h3, h4⟩
  · exact ⟨none, 0, rfl, Nat.le_refl _, by omega, fun _ => ⟨rfl, rfl⟩⟩
  · exact ⟨_, cap, rfl, h1, h2, fun e => by cases e⟩
/-- the cells of the row in its block -/
theorem RowP.cells {vs : List Value} {g off cap : Nat} {cur : Array Value} (hc : CRows (vw us B v W) vs xs) (hb : W.heap[g]? = some (.cells cur 182 (0, 0))) (h1 : xs.length ≤ cap) (h3 : off + cap * 2 ≤ cur.size) (h4 : (cur.toList.drop off).take (xs.length * 2) = vs) : vs.length = xs.length * 2 ∧ ∀ j u, vs[j]? = some u → W.cell? ⟨g, off + j, none⟩ = some u := by
  have hl : vs.length = xs.length * 2 := hc.len
  refine ⟨hl, fun j u hj => ?_⟩
  rw [← h4, List.getElem?_take] at hj
  split at hj
  · rw [List.getElem?_drop] at hj
    rw [cell_of_row W g (off + j) _ _ _ hb, ← Array.getElem?_toList]
    exact hj
  · cases hj
/-- the first element -/
theorem RowP.head {x : Pl} (h : RowP W us B (x :: xs) v) : ∃ g off cap a c, v = .slice (some ⟨g, off, none⟩) (xs.length + 1) cap ∧ W.cell? ⟨g, off, none⟩ = some (.slice a x.t.length c) ∧ W.cell? ⟨g, off + 1, none⟩ = some (.int .i64 x.r) ∧ Row (vw us B v W) a c x.t ∧ -9223372036854775808 ≤ x.r ∧ x.r ≤ 9223372036854775807 := by
  obtain ⟨vs, hc, hv⟩ := h.ex
  rcases hv with ⟨_, e⟩ | ⟨g, off, cap, cur, e, hB, hg, hb, h1, h2, h3, h4⟩
  · cases e
  · obtain ⟨_, hat⟩ := RowP.cells hc hb h1 h3 h4
    cases hc with
    | cons hx _ =>
      obtain ⟨⟨a, c, rfl, hr⟩, hr1, hr2⟩ := hx
      have c0 := hat 0 (.slice a x.t.length c) (by simp)
      have c1 := hat 1 (.int .i64 x.r) (by simp)
      exact ⟨g, off, cap, a, c, e, c0, c1, hr, hr1, hr2⟩
/-- the row behind its first element; where none has room its address plays no part -/
theorem RowP.tail {x : Pl} {g off cap : Nat} (h : RowP W us B (x :: xs) (.slice (some ⟨g, off, none⟩) (xs.length + 1) cap)) {off' : Nat} (ho : off' = off + 2 ∨ cap - 1 = 0 ∧ off' = off) : RowP W us B xs (.slice (some ⟨g, off', none⟩) xs.length (cap - 1)) := by
  obtain ⟨vs, hc, hv⟩ := h.ex
  rcases hv with ⟨_, e⟩ | ⟨g', off1, cap', cur, e, hB, hg, hb, h1, h2, h3, h4⟩
  · cases e
  · cases e
    cases hc with
    | @cons cs _ vs' _ hx hr =>
      have hcs : cs.length = 2 := RepC.len hx
      simp only [List.length_cons] at h1 h4
      refine ⟨vs', hr, .inr ⟨g, off', cap - 1, cur, rfl, hB, hg, hb, by omega, by omega, by omega, ?_⟩⟩
      rcases ho with rfl | ⟨h0, rfl⟩
      · have e2 := congrArg (List.drop 2) h4
        rw [List.drop_take, List.drop_drop, show cs ++ vs' = cs ++ vs' from rfl, List.drop_append_of_le_length (by omega), ← hcs, List.drop_length, List.nil_append, hcs] at e2
        rw [← e2]; congr 1; omega
      · have hx0 : xs.length = 0 := by omega
        have hv0 : vs' = [] := List.eq_nil_of_length_eq_zero (by have := hr.len; rw [this, hx0]; simp)
        rw [hx0, hv0]; simp
end
set_option maxRecDepth 100000 in
set_option maxHeartbeats 1600000 in
/-- all that append turns: the row's own block, behind what stands there; or nothing -/
theorem RowP.run_append {W : World} {us : List Nat} {B : Nat} {xs ys : List Pl} {v : Value} (h : RowP W us B xs v) (hB : B ≤ W.heap.size) (hu : ∀ b ∈ us, b < W.heap.size) (ty : TypeId) {a : Addr} {m c : Nat} {news : List Value} (hm : m = ys.length) (hn : CRows (veil (v.ownBlock.toList ++ us) (under B W)) news ys)
    (hnews : ∀ j u, news[j]? = some u → W.cell? (a.add j) = some u) (hmax : xs.length + ys.length ≤ 1000000) :
    ∃ v' W', (Builtin.append_ #[180, 180] ty #[v, .slice (some a) m c]).run Try.prog W = .ok v' W' ∧ RowP W' us B (xs ++ ys) v' ∧ W.grownBy W' v.ownBlock ∧ NewAtN W v v' := by
  subst hm
  obtain ⟨i, hi, hz0, hz1, hz2⟩ := info_parts Try.infoPlaced
  have hnl : news.length = ys.length * 2 := hn.len
  have hone : ∀ u ∈ news, u.oneCell' = true := hn.one
  obtain ⟨vs, hc, hv⟩ := h.ex
  have grown : ∀ {v' : Value} {W' : World}, W'.ownsRow W.heap.size 182 2 v' (xs.length + ys.length) (vs ++ news) → W.grownBy W' none → RowP W' us B (xs ++ ys) v' := by
    intro v' W' ho hg
    have hk : ∀ (b : Nat), b < W.heap.size → v'.ownBlock ≠ some b := fun b hb e => by
      rcases ho.2 with ⟨e1, _⟩ | ⟨g, cap, cur, rfl, hb2, _⟩
      · rw [e1] at e; cases e
      · simp only [Value.ownBlock, Option.some.injEq] at e; omega
    have keep1 : ∀ {vs : List Value} {xs : List Pl}, CRows (vw us B v W) vs xs → CRows (vw us B v' W') vs xs := fun hc => hc.keeps fun b o x hx => by
      obtain ⟨h1, h2, h3, h4⟩ := vw_cell hx
      have hl := cell_lt h4
      exact vw_of h1 h2 (hk b hl) ((World.cell?_of_block (w := W) (a := ⟨b, o, none⟩) (hg.block b hl (by simp))).trans h4)
    refine ⟨vs ++ news, (keep1 hc).append (keep1 hn), ?_⟩
    rcases ho.2 with ⟨e1, h0⟩ | ⟨g, cap, cur, rfl, hb2, hgg, h1, h2, h3, h4⟩
    · refine .inl ⟨e1, ?_⟩
      have : (xs ++ ys).length = 0 := by rw [List.length_append]; omega
      exact List.eq_nil_of_length_eq_zero this
    · refine .inr ⟨g, 0, cap, cur, by rw [List.length_append], by omega, fun e => by have := hu g e; omega, hgg, by rw [List.length_append]; omega, by unfold maxLen at h2; omega, by omega, ?_⟩
      rw [List.drop_zero, List.length_append]; exact h4
  have hbytes : (xs.length + ys.length) * 32 ≤ 140737488355328 := by omega
  rcases hv with ⟨rfl, rfl⟩ | ⟨g, off, cap, cur, rfl, hgB, hgu, hb, h1, h2, h3, h4⟩
  · have hvs : vs = [] := by cases hc; rfl
    subst hvs
    obtain ⟨v', W', hr, ho, hg, hw⟩ := run_append_where (P := Try.prog) W W.heap.size 180 ty 182 i (.agg #[.slice none 0 0, .int .i64 0]) 2 32 Try.underlying180 hi hz0 hz1 hz2 rfl (by decide) (.slice none 0 0) 0 [] (World.ownsRow_nil _ _ _ _) a ys.length c news hnl hnews hone (by unfold maxLen; omega) (by simpa using hbytes) (Nat.le_refl _)
    refine ⟨v', W', hr, grown (by simpa using ho) hg, hg, hw.elim .inl (fun e => .inr ⟨_, e, Nat.le_refl _⟩)⟩
  · obtain ⟨hvl, hat⟩ := RowP.cells hc hb h1 h3 h4
    by_cases hroom : xs.length + ys.length ≤ cap
    · have hin : ∀ j, j < news.length → (W.cell? ⟨g, off + xs.length * i.size + j, none⟩).isSome = true ∧ W.frozen? ⟨g, off + xs.length * i.size + j, none⟩ = false := fun j hj => by
        rw [hz1]
        have hlt : off + xs.length * 2 + j < cur.size := by omega
        refine ⟨?_, by simp [World.frozen?, hb]⟩
        rw [cell_of_row W g _ _ _ _ hb, Array.getElem?_eq_getElem hlt]; rfl
      have hr := run_append_room_cells (P := Try.prog) W 180 ty 182 i Try.underlying180 hi g off xs.length cap a ys.length c news (by rw [hz1]; exact hnl) hnews hone hroom (fun j hj => (hin j hj).1) (fun j hj => (hin j hj).2)
      rw [hz1] at hr
      have hset : ∀ (vs : List Value) (o : Nat) (w : World), (w.setCells g o vs).heap.size = w.heap.size ∧ (∀ k, k ≠ g → (w.setCells g o vs).heap[k]? = w.heap[k]?) ∧ (w.setCells g o vs).os = w.os ∧ (w.setCells g o vs).tape = w.tape ∧ (w.setCells g o vs).output = w.output ∧ (∀ cur : Array Value, w.heap[g]? = some (.cells cur 182 (0, 0)) → o + vs.length ≤ cur.size → ∃ cur' : Array Value, (w.setCells g o vs).heap[g]? = some (.cells cur' 182 (0, 0)) ∧ cur'.size = cur.size ∧ cur'.toList = cur.toList.take o ++ vs ++ cur.toList.drop (o + vs.length)) := by
        intro vs
        induction vs with
        | nil => intro o w; exact ⟨rfl, fun _ _ => rfl, rfl, rfl, rfl, fun cur h _ => ⟨cur, h, rfl, by simp⟩⟩
        | cons x vs ih =>
          intro o w
          obtain ⟨i1, i2, i3, i4, i5, i6⟩ := ih (o + 1) (w.setCell ⟨g, o, none⟩ x)
          refine ⟨i1.trans (by simp [World.setCell]), fun k hk => (i2 k hk).trans (Below.heap_setCell w ⟨g, o, none⟩ x k hk), i3, i4, i5, fun cur hcur hle => ?_⟩
          simp only [List.length_cons] at hle
          have hb' : (w.setCell ⟨g, o, none⟩ x).heap[g]? = some (.cells (cur.set! o x) 182 (0, 0)) := by
            simp only [World.setCell, Array.getElem?_modify, if_true, hcur, Option.map_some]
            simp
          obtain ⟨cur', h1, h2, h3⟩ := i6 (cur.set! o x) hb' (by simp; omega)
          refine ⟨cur', h1, by rw [h2]; simp, ?_⟩
          rw [h3]
          have e1 : (cur.set! o x).toList = cur.toList.set o x := by simp
          rw [e1]
          have htl : cur.toList.length = cur.size := by simp
          have hol : o < cur.toList.length := by omega
          rw [List.take_set, List.drop_set_of_lt (by omega)]
          rw [show (cur.toList.take (o + 1)).set o x = cur.toList.take o ++ [x] by
            rw [List.take_succ_eq_append_getElem hol, List.set_append]
            have h9 : (cur.toList.take o).length = o := by rw [List.length_take]; omega
            simp [h9]]
          simp [List.append_assoc, Nat.add_assoc, Nat.add_comm 1]
      obtain ⟨s1, s2, s3, s4, s5, s6⟩ := hset news (off + xs.length * 2) W
      obtain ⟨cur', t1, t2, t3⟩ := s6 cur hb (by omega)
      refine ⟨_, _, hr, ?_, ⟨s3, s4, s5, by rw [s1]; exact Nat.le_refl _, fun k hk hne => s2 k (fun e => hne (by rw [e]; rfl))⟩, .inl rfl⟩
      have keep2 : ∀ {vs : List Value} {xs' : List Pl}, CRows (vw us B (.slice (some ⟨g, off, none⟩) xs.length cap) W) vs xs' → CRows (vw us B (.slice (some ⟨g, off, none⟩) (xs.length + ys.length) cap) (W.setCells g (off + xs.length * 2) news)) vs xs' := fun hc => hc.keeps fun b o x hx => by
        obtain ⟨h1, h2, h3, h4⟩ := vw_cell hx
        refine vw_of h1 h2 h3 ((World.cell?_of_block (w := W) (a := ⟨b, o, none⟩) (s2 b (fun e => h3 (by rw [e]; rfl)))).trans h4)
      refine ⟨vs ++ news, (keep2 hc).append (keep2 hn), .inr ⟨g, off, cap, cur', by rw [List.length_append], hgB, hgu, t1, by rw [List.length_append]; omega, h2, by omega, ?_⟩⟩
      have hcl : off + xs.length * 2 ≤ cur.toList.length := by simp; omega
      rw [t3, List.append_assoc, List.drop_append_of_le_length (by rw [List.length_take]; omega), List.length_append, ← h4]
      have e1 : (cur.toList.take (off + xs.length * 2)).drop off = (cur.toList.drop off).take (xs.length * 2) := by rw [List.drop_take]; congr 1; omega
      rw [e1]
      have hl1 : ((cur.toList.drop off).take (xs.length * 2)).length = xs.length * 2 := by rw [h4]; exact hvl
      rw [List.take_append, hl1, List.take_of_length_le (by omega), List.take_append]
      congr 1
      rw [show (xs.length + ys.length) * 2 - xs.length * 2 = news.length by omega, List.take_length]
      simp
    · obtain ⟨v', W', hr, ho, hg⟩ := run_append_arg_grows (P := Try.prog) W 180 ty 182 i (.agg #[.slice none 0 0, .int .i64 0]) 2 32 Try.underlying180 hi hz0 hz1 hz2 rfl (by decide) ⟨g, off, none⟩ xs.length cap vs hvl (fun j u hj => by rw [Addr.add_lit]; exact hat j u hj) a ys.length c news hnl hnews (by omega) (by unfold maxLen; omega) hbytes
      refine ⟨v', W', hr, grown ho hg, ⟨hg.os, hg.tape, hg.output, hg.size, fun k hk _ => hg.block k hk (by simp)⟩, ?_⟩
      rcases ho.2 with ⟨_, h0⟩ | ⟨g', cap', cur', rfl, hb2, _⟩
      · omega
      · exact .inr ⟨g', rfl, hb2⟩
end Go.Proofs.Ytmmnfkggfnokjaa
set_option linter.unusedVariables false
namespace Go.Proofs.Ytmmnfkggfnokjaa
open Go.RowKit
/-! ### the arguments of a Fun of a head -/
theorem unifyS_cons (t : Tm) (ts : List Tm) (m : MkS) : unifyS (t :: ts) m = if t.hd.k = 1 then unifyS ts (m.var t.hd.n 5 6 0)
    else if t.hd.k = 2 then unifyS ts (m.lay ⟨7, 0, 0, ⟨#[]⟩, t.hd.n, false⟩)
    else if t.hd.k = 3 then ((unifyS ts (m.fresh.lay ⟨5, m.next, 0, ⟨#[]⟩, 0, false⟩)).1, (t, m.next) :: (unifyS ts (m.fresh.lay ⟨5, m.next, 0, ⟨#[]⟩, 0, false⟩)).2)
    else unifyS ts m := by
  conv => lhs; unfold unifyS
theorem unifyS_append (a b : List Tm) : ∀ m : MkS, unifyS (a ++ b) m = ((unifyS b (unifyS a m).1).1, (unifyS a m).2 ++ (unifyS b (unifyS a m).1).2) := by
  induction a with
  | nil => intro m; simp [unifyS]
  | cons t a ih =>
    intro m
    rw [List.cons_append, unifyS_cons t (a ++ b), unifyS_cons t a]
    by_cases h1 : t.hd.k = 1
    · simp only [if_pos h1]; rw [ih]
    · by_cases h2 : t.hd.k = 2
      · simp only [if_neg h1, if_pos h2]; rw [ih]
      · by_cases h3 : t.hd.k = 3
        · simp only [if_neg h1, if_neg h2, if_pos h3]; rw [ih]; simp
        · simp only [if_neg h1, if_neg h2, if_neg h3]; rw [ih]
theorem unifyS_short : ∀ (ts : List Tm) (m : MkS), (unifyS ts m).1.code.length ≤ m.code.length + ts.length ∧ (unifyS ts m).2.length ≤ ts.length
  | [], m => by simp [unifyS]
  | t :: ts, m => by
    unfold unifyS
    simp only [List.length_cons]
    split
    · have := unifyS_short ts (m.var t.hd.n 5 6 0)
      rw [var_len] at this
      omega
    · split
      · have := unifyS_short ts (m.lay ⟨7, 0, 0, ⟨#[]⟩, t.hd.n, false⟩)
        rw [lay_len] at this
        omega
      · split
        · have := unifyS_short ts (m.fresh.lay ⟨5, m.next, 0, ⟨#[]⟩, 0, false⟩)
          rw [lay_len] at this
          simp only [MkS.fresh, List.length_cons] at this ⊢
          omega
        · have := unifyS_short ts m
          omega
def plOf (p : Tm × Int) : Pl := ⟨p.1.flat, p.2⟩
theorem unifyS_next {ts : List Tm} {k : Nat} (hk : k < ts.length) (m : MkS) : unifyS (ts.take (k + 1)) m = ((unifyS [ts[k]] (unifyS (ts.take k) m).1).1, (unifyS (ts.take k) m).2 ++ (unifyS [ts[k]] (unifyS (ts.take k) m).1).2) := by
  rw [List.take_succ_eq_append_getElem hk, unifyS_append]
section
variable {W W' : World} {us us' : List Nat} {B : Nat} {v v' : Value}
theorem vw_turn (hf : Fr us W W') (hk : ∀ b ∈ us', b ∈ us ∨ W.heap.size ≤ b) : Keeps (vw us B v W) (vw us' B v W') := fun b o x hx => by
  obtain ⟨h1, h2, h3, h4⟩ := vw_cell hx
  have hl := cell_lt h4
  exact vw_of h1 (fun e => by rcases hk b e with e | e; exact h2 e; omega) h3 ((World.cell?_of_block (w := W) (a := ⟨b, o, none⟩) (hf.block b hl h2)).trans h4)
theorem vw_app (hg : W.grownBy W' v.ownBlock) (hn : NewAtN W v v') : Keeps (vw us B v W) (vw us B v' W') := fun b o x hx => by
  obtain ⟨h1, h2, h3, h4⟩ := vw_cell hx
  have hl := cell_lt h4
  refine vw_of h1 h2 (fun e => ?_) ((World.cell?_of_block (w := W) (a := ⟨b, o, none⟩) (hg.block b hl (fun e => h3 e.symm))).trans h4)
  rcases hn with e2 | ⟨b', e2, hb⟩
  · exact h3 (e2 ▸ e)
  · rw [e] at e2; injection e2 with e2; omega
theorem vw_below (hb : Below W.heap.size W W') : Keeps (vw us B v W) (vw us B v W') := vw_turn (Fr.of hb) fun b hb => .inl hb
theorem vw_alloc (o : Obj) : Keeps (vw us B v W) (vw us B v (W.alloc o)) := vw_below ((Below.refl _ _).new o)
end
theorem kB_new {W : World} {L g : Nat} {vc v' : Value} (hn : NewAtN W vc v') : ∀ b ∈ kB L g v', b ∈ kB L g vc ∨ W.heap.size ≤ b := by
  intro b hb
  simp [kB] at hb ⊢
  rcases hb with e | e | e
  · exact .inl (.inl e)
  · exact .inl (.inr (.inl e))
  · rcases hn with e2 | ⟨b', e2, hb2⟩
    · exact .inl (.inr (.inr (by rw [← e2]; exact e)))
    · rw [e] at e2; injection e2 with e2; exact .inr (by omega)
set_option maxHeartbeats 1600000 in
/-- append of one term that waits, laid just ahead of it -/
theorem wpList_appP {w : World} {ops : Array Oper} {rest : List Oper} {o : Oper} {a : Act} {Q : Exit → Act → World → Prop} (hgd : o.guard = none) (s x : Operand)
    (ho : o.op = .call { callee := .builtin .append, args := #[s, x], argTypes := #[180, 180] }) {us : List Nat} {B : Nat} {v : Value} {xs : List Pl} (h : RowP w us B xs v) (hB : B ≤ w.heap.size) (hu : ∀ b ∈ us, b < w.heap.size)
    (hs : a.eval s = v) {a5 : Option Addr} {c5 n5 : Nat} {t : List Cel} {r : Int} (hn5 : n5 = t.length) (hy : Row (vw us B v w) a5 c5 t) (hr1 : -9223372036854775808 ≤ r) (hr2 : r ≤ 9223372036854775807)
    (hx : a.eval x = .slice (some ⟨w.heap.size, 0, none⟩) 1 1) (hmax : xs.length + 1 ≤ 1000000)
    (hK : ∀ v' w', RowP w' us B (xs ++ [⟨t, r⟩]) v' → (w.alloc (.cells #[.slice a5 n5 c5, .int .i64 r] 182)).grownBy w' v.ownBlock → NewAtN (w.alloc (.cells #[.slice a5 n5 c5, .int .i64 r] 182)) v v' → wpList Try.prog ops Q rest (a.put o.dst v') w') :
    wpList Try.prog ops Q (o :: rest) a (w.alloc (.cells #[.slice a5 n5 c5, .int .i64 r] 182)) := by
  subst hn5
  have hb1 := (Below.refl w.heap.size w).new (.cells #[.slice a5 t.length c5, .int .i64 r] 182)
  refine wpList_plain hgd fun K hK' => ?_
  have hcr : CRows (veil (v.ownBlock.toList ++ us) (under B (w.alloc (.cells #[.slice a5 t.length c5, .int .i64 r] 182)))) ([.slice a5 t.length c5, .int .i64 r] ++ []) [(⟨t, r⟩ : Pl)] :=
    CRows.cons ⟨⟨a5, c5, rfl, hy.keeps (vw_alloc _)⟩, hr1, hr2⟩ .nil
  obtain ⟨v', w', hr, h2, h3, h4⟩ := (h.below hb1).run_append (Nat.le_trans hB hb1.size) (fun b hb => Nat.lt_of_lt_of_le (hu b hb) hb1.size) o.type (a := ⟨w.heap.size, 0, none⟩) (m := 1) (c := 1) rfl hcr (fun j u hj => by
    have ha : (Addr.mk w.heap.size 0 none).add j = ⟨w.heap.size, j, none⟩ := by unfold Addr.add; split <;> simp_all
    rw [ha, World.cell?_alloc_at _ _ _ _ rfl]
    simpa using hj) (by simpa using hmax)
  unfold Oper.wp execOp
  simp only [ho, resolve, invoke, builtin, Sem.run_bind, Sem.run_pure, Result.andThen_ok, List.map_toArray, List.map_cons, List.map_nil, hs, hx, hr]
  exact hK' _ _ (hK v' w' h2 h3 h4)
/-- between two arguments -/
structure UniGo (w : World) (B L g : Nat) (vc : Value) (B2 : Nat) (a3 : Option Addr) (c3 : Nat) (ts : List Tm) (m : MkS) (ps : List Pl) (vk vo : Value) (W : World) : Prop where
  mkm : MkM W B L g vk m 0 0
  row : Row (vw (kB L g vk) B2 vo W) a3 c3 (ts.map Tm.flat)
  op : RowP W (kB L g vk) B2 ps vo
  og : ∀ b, vo.ownBlock = some b → w.heap.size ≤ b
  fr : Fr (kB L g vc) w W
  new : NewAtN w vc vk
theorem UniGo.mkr {w W W' : World} {B L g B2 c3 : Nat} {vc vk vk' vo : Value} {a3 : Option Addr} {ts : List Tm} {m m' : MkS} {ps : List Pl} (h : UniGo w B L g vc B2 a3 c3 ts m ps vk vo W) (hM : MkM W' B L g vk' m' 0 0) (hf : Fr (kB L g vk) W W') (hn : NewAtN W vk vk') : UniGo w B L g vc B2 a3 c3 ts m' ps vk' vo W' :=
  ⟨hM, h.row.keeps (vw_turn hf (kB_new hn)), h.op.turn hf (kB_new hn), h.og, frK_trans h.fr h.new hf, newAtN_trans h.new h.fr.size hn⟩
theorem UniGo.below {w W W' : World} {B L g B2 c3 : Nat} {vc vk vo : Value} {a3 : Option Addr} {ts : List Tm} {m : MkS} {ps : List Pl} (h : UniGo w B L g vc B2 a3 c3 ts m ps vk vo W) (hb : Below W.heap.size W W') : UniGo w B L g vc B2 a3 c3 ts m ps vk vo W' :=
  h.mkr (h.mkm.below hb) (Fr.of hb) (.inl rfl)
theorem UniGo.opn {w W W' : World} {B L g B2 c3 : Nat} {vc vk vo vo' : Value} {a3 : Option Addr} {ts : List Tm} {m : MkS} {ps ps' : List Pl} {o : Obj} (h : UniGo w B L g vc B2 a3 c3 ts m ps vk vo W) (hp : RowP W' (kB L g vk) B2 ps' vo') (hg : (W.alloc o).grownBy W' vo.ownBlock) (hn : NewAtN (W.alloc o) vo vo') : UniGo w B L g vc B2 a3 c3 ts m ps' vk vo' W' := by
  have h1 := h.below ((Below.refl W.heap.size W).new o)
  have hov : ∀ b, vo.ownBlock = some b → b ∉ kB L g vk := fun b hb e => by
    obtain ⟨vs, hc, hv⟩ := h.op.ex
    rcases hv with ⟨e1, _⟩ | ⟨g', off, cap, cur, e1, _, hg', _⟩
    · rw [e1] at hb; cases hb
    · rw [e1] at hb; cases hb; exact hg' e
  have hf : Fr vo.ownBlock.toList (W.alloc o) W' := grown_frN hg
  refine ⟨h1.mkm.fr hf fun b hb e => ?_, h1.row.keeps (vw_app hg hn), hp, fun b hb => ?_, ?_, h.new⟩
  · simp at e; exact hov b e hb
  · rcases hn with e | ⟨b', e, hb'⟩
    · exact h.og b (e ▸ hb)
    · rw [hb] at e; injection e with e
      have h2 := h.fr.size
      simp at hb'
      omega
  · have h2 : Fr (vo.ownBlock.toList ++ kB L g vc) w W' := (h1.fr.sub fun k hk => List.mem_append_right _ hk).trans (hf.sub fun k hk => List.mem_append_left _ hk)
    exact h2.fresh fun k hk => by simp at hk; exact h.og k hk
theorem row_partN {w : World} {a : Option Addr} {cap : Nat} {ps : List (List Cel)} (h : Row w a cap ps) {k : Nat} (hk : k < ps.length) : ∃ b off a2 c2, a = some ⟨b, off, none⟩ ∧ w.cell? ⟨b, off + k, none⟩ = some (.slice a2 ps[k].length c2) ∧ Row w a2 c2 ps[k] := by
  obtain ⟨b, off, e, a2, c2, hc, hr⟩ := h.at_ k _ (List.getElem?_eq_getElem hk)
  refine ⟨b, off, a2, c2, e, ?_, hr⟩
  rw [show Rep.sz (List Cel) = 1 from rfl, Nat.mul_one] at hc
  exact hc
theorem row_hdN {w : World} {a : Option Addr} {cap : Nat} {t : Tm} (h : Row w a cap t.flat) : ∃ b off, a = some ⟨b, off, none⟩ ∧ w.cell? ⟨b, off, none⟩ = some (.int .i64 t.hd.k) ∧ w.cell? ⟨b, off + 1, none⟩ = some (.string t.hd.s) ∧ w.cell? ⟨b, off + 2, none⟩ = some (.int .i64 t.hd.n) ∧ t.hd.fit := by
  obtain ⟨b, off, e, c0, c1, c2, hf⟩ := h.at_ 0 t.hd (by rw [flat_cons]; rfl)
  rw [Nat.zero_mul, Nat.add_zero] at c0 c1 c2
  exact ⟨b, off, e, c0, c1, c2, hf⟩
/-- what unify makes -/
def UPost (w : World) (B L g : Nat) (vc : Value) (B2 : Nat) (m' : MkS) (ps : List Pl) (e : Ending) (W' : World) : Prop :=
  ∃ vo, e = .returned vo ∧ ∃ vk, MkM W' B L g vk m' 0 0 ∧ RowP W' (kB L g vk) B2 ps vo ∧ (∀ b, vo.ownBlock = some b → w.heap.size ≤ b) ∧ Fr (kB L g vc) w W' ∧ NewAtN w vc vk
set_option maxRecDepth 100000 in
set_option maxHeartbeats 6400000 in
theorem unify_any (w : World) (B L g : Nat) (vc : Value) (B2 : Nat) (a3 : Option Addr) (c3 : Nat) (ts : List Tm) (m : MkS) (hM : MkM w B L g vc m 0 0) (hB2 : B2 ≤ w.heap.size) (hr : Row (veil (kB L g vc) (under B2 w)) a3 c3 (ts.map Tm.flat)) (hk3 : ∀ t ∈ ts, kindOk t.hd) (hl : m.code.length + ts.length ≤ 900000) :
    Calls Try.prog 192 #[.pointer (some ⟨L, 0, none⟩), .slice a3 ts.length c3] w (UPost w B L g vc B2 (unifyS ts m).1 ((unifyS ts m).2.map plOf)) := by
  have hle := hr.le
  rw [List.length_map] at hle
  have hmx := hr.max
  have HG0 : Hid (UniGo w B L g vc B2 a3 c3 ts (unifyS (ts.take 0) m).1 ((unifyS (ts.take 0) m).2.map plOf) vc (.slice none 0 0) w) := by
    simp only [List.take_zero, unifyS, List.map_nil]
    exact ⟨hM, hr, .nil _ _ _, fun b hb => by (cases hb), Fr.refl _ _, .inl rfl⟩
  have HK := mkHid hk3
  clear hM hr hk3
  go_enter Try.func192, Try.ntmps192
  go_wp2_with fail
  go_loopw [5, 7, 8, 9, 12] (fun vo _ _ _ i wr => ∃ (k : Nat) (vk : Value), i = .int .i64 k ∧ k ≤ ts.length ∧ Hid (UniGo w B L g vc B2 a3 c3 ts (unifyS (ts.take k) m).1 ((unifyS (ts.take k) m).2.map plOf) vk vo wr)) (fun _ _ _ _ i wr => ts.length - (intOf i).toNat)
  case atStart => exact ⟨0, vc, rfl, Nat.zero_le _, HG0⟩
  case round =>
    clear HG0
    obtain ⟨k, vk, rfl, hk, HG⟩ := hrel
    by_cases hlt : k < ts.length
    · obtain ⟨b4, off4, a5, c5, rfl, p0, hrp⟩ := row_partN HG.out.row (k := k) (by simpa using hlt)
      simp only [List.getElem_map] at p0 hrp
      obtain ⟨b6, off6, rfl, q0, q1, q2, hfp⟩ := row_hdN hrp
      have hpl := hrp.le
      have hpm := hrp.max
      have hpp := flat_pos ts[k]
      have p0' := (vw_cell p0).2.2.2
      have r0 := (vw_cell q0).2.2.2
      have r1 := (vw_cell q1).2.2.2
      have r2 := (vw_cell q2).2.2.2
      have hsh := unifyS_short (ts.take k) m
      rw [List.length_take] at hsh
      have HNX := mkHid (unifyS_next hlt m)
      have HKK := mkHid (HK.out _ (List.getElem_mem hlt))
      have hn1 := hfp.n1
      have hn2 := hfp.n2
      have HRP := mkHid hrp
      obtain ⟨so, sc, rfl, hs1, hs2, _⟩ := HG.out.op.slice
      clear p0 q0 q1 q2 hrp hfp
      have hpl1 : ((unifyS (ts.take k) m).2.map plOf).length ≤ ts.length := by rw [List.length_map]; omega
      have hml1 : (unifyS (ts.take k) m).1.code.length + 1 ≤ 900000 := by omega
      clear hsh
      generalize hst : unifyS (ts.take k) m = st at *
      clear hst
      obtain ⟨m1, l1⟩ := st
      dsimp only at HG hs1 hpl1 hml1 HNX ⊢
      generalize hu : ts[k] = u at *
      clear hu
      generalize hps : l1.map plOf = ps at *
      have HPS := mkHid hps
      clear hps
      have hb1 := (Below.refl wr.heap.size wr).new (.cells #[.int .i64 u.hd.k, .string u.hd.s, .int .i64 u.hd.n] 79)
      have HG1 := mkHid (HG.out.below hb1)
      have HRP1 := mkHid (HRP.out.keeps (vw_below hb1))
      clear HG HRP hb1
      rcases HKK.out with h1 | h2 | h3
      · have HU : Hid (unifyS [u] m1 = (m1.var u.hd.n 5 6 0, [])) := by rw [Hid]; unfold unifyS; rw [if_pos h1]; rfl
        clear HKK
        rw [h1] at r0 HG1 HRP1
        generalize u.hd.k = uk at *
        subst h1
        go_wp2_with fail
        refine (variable_any _ B L g vk m1 0 0 u.hd.n 5 6 0 HG1.out.mkm (by omega) (by omega) hn1 hn2 (by omega) (by omega) (by omega)).mono ?_
        rintro e w2 ⟨rfl, vk2, hM2, hF2, hN2⟩
        have HG2 := mkHid (HG1.out.mkr hM2 hF2 hN2)
        clear hM2 hF2 hN2 HG1 HRP1 p0' r0 r1 r2
        go_wp2_with fail
        go_round
        case rel => exact ⟨k + 1, vk2, by go_num, by omega, by rw [HNX.out, HU.out, Hid]; simpa [HPS.out] using HG2.out⟩
        case measure => simp [intOf]; omega
      · have HU : Hid (unifyS [u] m1 = (m1.lay ⟨7, 0, 0, ⟨#[]⟩, u.hd.n, false⟩, [])) := by rw [Hid]; unfold unifyS; rw [if_neg (by omega), if_pos h2]; rfl
        clear HKK
        rw [h2] at r0 HG1 HRP1
        generalize u.hd.k = uk at *
        subst h2
        go_wp2_with fail
        refine (lay_any _ B L g vk m1 0 0 ⟨7, 0, 0, ⟨#[]⟩, u.hd.n, false⟩ (HG1.out.mkm.slack (by omega) (by omega)) (Ins.fit_of (by omega) (by omega) (by omega) ⟨hn1, hn2⟩ (by decide)) (by omega)).mono ?_
        rintro e w2 ⟨rfl, vk2, hM2, hF2, hN2⟩
        have HG2 := mkHid (HG1.out.mkr hM2 hF2 hN2)
        clear hM2 hF2 hN2 HG1 HRP1 p0' r0 r1 r2
        go_wp2_with fail
        go_round
        case rel => exact ⟨k + 1, vk2, by go_num, by omega, by rw [HNX.out, HU.out, Hid]; simpa [HPS.out] using HG2.out⟩
        case measure => simp [intOf]; omega
      · have HU : Hid (unifyS [u] m1 = (m1.fresh.lay ⟨5, m1.next, 0, ⟨#[]⟩, 0, false⟩, [(u, m1.next)])) := by rw [Hid]; unfold unifyS; rw [if_neg (by omega), if_neg (by omega), if_pos h3]; rfl
        clear HKK
        have hnx := HG1.out.mkm.next
        rw [h3] at r0 HG1 HRP1
        generalize u.hd.k = uk at *
        subst h3
        go_wp2_with fail
        refine (fresh_any _ B L g vk m1 0 0 HG1.out.mkm (by omega)).mono ?_
        rintro e w2 ⟨rfl, vk2, hM2, hF2, hN2⟩
        have HM2 := mkHid hM2
        have HF2 := mkHid hF2
        have HN2 := mkHid hN2
        clear hM2 hF2 hN2 p0' r0 r1 r2
        go_wp2_with fail
        refine (lay_any w2 B L g vk2 m1.fresh 0 1 ⟨5, m1.next, 0, ⟨#[]⟩, 0, false⟩ HM2.out (Ins.fit_of (by omega) (by omega) (by omega) (by omega) (by decide)) (by show m1.code.length ≤ _; omega)).mono ?_
        rintro e w3 ⟨rfl, vk3, hM3, hF3, hN3⟩
        have hF := frK_trans HF2.out HN2.out hF3
        have hN := newAtN_trans HN2.out HF2.out.size hN3
        have HG3 := mkHid (HG1.out.mkr (hM3.slack (Nat.le_refl _) (by omega)) hF hN)
        have HRP3 := mkHid (HRP1.out.keeps (vw_turn hF (kB_new hN)))
        have hB3 : B2 ≤ w3.heap.size := Nat.le_trans hB2 HG3.out.fr.size
        have HKB := mkHid (fun b hb => (HG3.out.mkm.allB b hb).2)
        clear hM3 hF3 hN3 HG1 HRP1 HM2 HF2 HN2 hF hN
        go_wp2_with (at_builtin; refine wpList_appP rfl _ _ rfl HG3.out.op hB3 HKB.out (by rfl) rfl HRP3.out (by omega) (by omega) (by rfl) (by omega) ?_; intro v' w4 hp4 hg4 hn4; have HG4 := mkHid (HG3.out.opn hp4 hg4 hn4))
        go_round
        case rel => exact ⟨k + 1, vk3, by go_num, by omega, by rw [HNX.out, HU.out, Hid]; simpa [HPS.out, plOf] using HG4.out⟩
        case measure => simp [intOf]; omega
    · obtain rfl : k = ts.length := by omega
      rw [List.take_length] at HG
      obtain ⟨so, sc, rfl, hs1, hs2, _⟩ := HG.out.op.slice
      go_wp2_with fail
      go_ret
      exact ⟨_, rfl, vk, HG.out.mkm, HG.out.op, HG.out.og, HG.out.fr, HG.out.new⟩
end Go.Proofs.Ytmmnfkggfnokjaa
set_option linter.unusedVariables false
namespace Go.Proofs.Ytmmnfkggfnokjaa
open Go.RowKit
/-! ### one term of a head -/
theorem own_baseN {w : World} {B B' e size : Nat} {v : Value} {n : Nat} {xs : List Value} (h : w.ownsRow B' e size v n xs) (hB : B ≤ B') : w.ownsRow B e size v n xs :=
  ⟨h.1, h.2.imp id (fun ⟨g, cap, cur, e1, hb, rest⟩ => ⟨g, cap, cur, e1, Nat.le_trans hB hb, rest⟩)⟩
theorem under_keepsN {B : Nat} {w w' : World} (h : Keeps w w') : Keeps (under B w) (under B w') := fun b o v hc => let ⟨h1, h2⟩ := under_cell hc; under_of h1 (h _ _ _ h2)
set_option maxHeartbeats 1600000 in
theorem parts_newN (a : Option Addr) (cap : Nat) (w : World) (xs : List Cel) (hr : Row w a cap xs) (hR : rightB xs = true) :
    Calls Try.prog 145 #[.slice a xs.length cap] w fun e w' => ∃ a' cap', e = .returned (.slice a' (partsL xs).length cap') ∧ NewRow w.heap.size w' a' cap' (partsL xs) ∧ Below w.heap.size w w' := by
  have hm := hr.max
  have hle := hr.le
  have h6 := ar_le6 hR
  obtain ⟨c, l, e0, hc, _, h200⟩ := right_sk hR
  have h0 : 0 < xs.length := by rw [e0]; simp
  have hc0 : xs[0] = c := by simp [e0]
  have har : ar0 xs = ar xs[0] := by rw [hc0, e0]; rfl
  have HA : Hid (arI xs[0] = ar0 xs) := by rw [Hid, har, hc0]; exact arI_ar hc
  have HR := mkHid hR
  clear hR e0 hc hc0 har
  obtain ⟨b, off, rfl, hb, hat⟩ := hr.cases.resolve_left (fun e => by simp [e] at h0)
  go_enter Try.func145, Try.ntmps145
  go_wp2_with (first
    | (go_at_call 92; refine (right_any _ cap _ xs hr).mono ?_; rintro e w1 ⟨rfl, hb1⟩; rw [HR.out]; obtain ⟨c0, c1, c2, hf⟩ := cel_at hat hb1 h0; simp only [Nat.zero_mul, Nat.add_zero] at c0 c1 c2)
    | (go_at_call 190; refine (arguments_any xs[0] _).mono ?_; rintro e w2 ⟨rfl, hb2⟩; rw [HA.out]))
  have hb12 := hb1.then hb2
  clear c0 c1 c2
  go_loopw [3, 4, 13] (fun v i j wr => ∃ (k : Nat) (vs : List Value), k ≤ ar0 xs ∧ j = .int .i64 k ∧ i = .int .i64 (aN xs k) ∧ wr.ownsRow w.heap.size 22 1 v k vs ∧ Below w.heap.size w wr ∧ Hid (SlRows (under w.heap.size (hide v.ownBlock wr)) vs ((List.range k).map (partJ xs)))) (fun v i j wr => ar0 xs - (intOf j).toNat)
  case atStart => exact ⟨0, [], Nat.zero_le _, rfl, by unfold aN; rw [afterI_zero (by omega)]; rfl, World.ownsRow_nil _ _ _ _, hb12, SlRows.nil _⟩
  case round =>
    obtain ⟨k, vs, hk, rfl, rfl, hown, hbl, HS⟩ := hrel
    by_cases hlt : k < ar0 xs
    · have hra := (right_after HR.out hk).2
      have hrb := (right_after HR.out (show k + 1 ≤ ar0 xs from hlt)).2
      have hrn := (right_next HR.out hlt).1
      have HP := mkHid (passI_at HR.out hlt)
      obtain ⟨q1, q2, _⟩ := hra
      obtain ⟨q3, q4, _⟩ := hrb
      have hr1 := hr.below hbl
      go_wp2_with (go_at_call 163; refine (behind_any _ cap (aN xs k) _ xs hr1 (by omega) (by omega) (by omega)).mono ?_; rintro e w3 ⟨rfl, hb3⟩; rw [HP.out])
      have hrow3 := (hr1.below hb3).slice (i := aN xs k) (j := aN xs (k + 1)) (by omega) q4
      have hfit : ∀ c ∈ partJ xs k, c.fit := hrow3.fit
      refine (clone_any' _ _ _ _ (partJ xs k) (take_drop_len HR.out hlt) hrow3 (by have := partJ_length HR.out hlt; omega)).mono ?_
      rintro e w4 ⟨v1, rfl, hown4, hb4⟩
      have hown1 := own_below (own_below hown hb3) hb4
      have hlt4 := hown4.lt
      have hsz3 := (hbl.then hb3).size
      obtain ⟨a1, cap1, rfl, hrow4⟩ := own_row (under_own (own_baseN (own_hide (r := u3.ownBlock) hown4 (fun g hg => (own_below hown hb3).lt g hg |>.2)) hsz3)) hfit
      have hbl4 := (hbl.then hb3).then hb4
      have HS4 := mkHid (((HS.out.keeps (under_keepsN (below_hide hb3 _))).keeps (under_keepsN (below_hide hb4 _))).snoc hrow4)
      go_wp2_with (at_builtin; refine wpList_app2 rfl _ _ 68 rfl w.heap.size 22 1 24 _ Try.underlying68 Try.infoSl rfl (by decide) (by decide) _ k _ rfl (hown1.alloc _) ⟨_, 0, none⟩ 1 1 [.slice a1 (partJ xs k).length cap1] rfl (src_new _ #[.slice a1 (partJ xs k).length cap1] _ 1 rfl (by simp [Value.oneCell'])) (by omega) (Nat.le_trans hbl4.size (by simp)) ?_; intro v' w5 hown5 _ hb5 hk5)
      go_round
      case rel => exact ⟨k + 1, vs ++ [.slice a1 (partJ xs k).length cap1], by omega, by go_num, rfl, hown5, (hbl4.new _).trans hb5, by rw [parts_succ]; exact (HS4.out.keeps (under_keepsN (alloc_hide _ _ _))).keeps (under_keepsN hk5)⟩
      case measure => simp [intOf]; omega
    · obtain rfl : k = ar0 xs := by omega
      have hS := HS.out.keeps (under_keepsN (hide_keeps _ _))
      have hl : (partsL xs).length = ar0 xs := by simp [partsL]
      obtain ⟨a', cap', rfl, hrow'⟩ := own_rowL (e := 22) (B := w.heap.size) (v := u3) (ps := partsL xs) (by rw [hl]; exact under_own hown) hS
      have HL := mkHid hl
      clear hl
      go_wp2
      go_ret
      exact ⟨a', cap', rfl, hrow', hbl⟩
theorem under_veilN {B : Nat} {us : List Nat} (w : World) (h : ∀ b ∈ us, b < B) : Keeps (under B w) (veil us (under B w)) := fun b o v hc => by
  obtain ⟨h1, h2⟩ := under_cell hc
  exact veil_of (fun e => by have := h b e; omega) hc
/-- what get makes -/
def GPost (w : World) (B L g : Nat) (vc : Value) (m' : MkS) (ps : List Pl) (e : Ending) (W' : World) : Prop :=
  ∃ vo, e = .returned vo ∧ ∃ vk, MkM W' B L g vk m' 0 0 ∧ RowP W' (kB L g vk) w.heap.size ps vo ∧ Fr (kB L g vc) w W' ∧ NewAtN w vc vk
theorem oks_kinds {ts : List Tm} (h : oks ts) : ∀ t ∈ ts, kindOk t.hd := fun t ht => by
  have h1 := ((ok_iff t).1 (oks_mem h t ht)).1
  unfold cellOk at h1
  unfold kindOk
  by_cases a : t.hd.k = 1
  · exact .inl a
  · by_cases b : t.hd.k = 2
    · exact .inr (.inl b)
    · by_cases c : t.hd.k = 3
      · exact .inr (.inr c)
      · simp [a, b, c] at h1
set_option maxRecDepth 100000 in
set_option maxHeartbeats 6400000 in
theorem get_any (w : World) (B L g : Nat) (vc : Value) (a : Option Addr) (c : Nat) (t : Tm) (r : Int) (m : MkS) (hM : MkM w B L g vc m 0 0) (hr : Row (veil (kB L g vc) w) a c t.flat) (hok : t.ok) (h200 : t.flat.length ≤ 200) (hr1 : 0 ≤ r) (hr2 : r ≤ 1000000) (hl : m.code.length ≤ 800000) :
    Calls Try.prog 146 #[.pointer (some ⟨L, 0, none⟩), .agg #[.slice a t.flat.length c, .int .i64 r]] w (GPost w B L g vc (getS (t, r) m).1 ((getS (t, r) m).2.map plOf)) := by
  have HRI := mkHid (right_flat hok h200)
  have HPF := mkHid (parts_flat hok)
  have HKK := mkHid (oks_kinds (ts := [t]) ⟨hok, trivial⟩ t (by simp))
  have HOK := mkHid hok
  obtain ⟨b6, off6, rfl, q0, q1, q2, hfp⟩ := row_hdN hr
  have hpl := hr.le
  have hpm := hr.max
  have hpp := flat_pos t
  have hn1 := hfp.n1
  have hn2 := hfp.n2
  have hns := hfp.s
  have HFP := mkHid hfp
  have HR := mkHid hr
  have HM := mkHid hM
  have r0 := (veil_cell q0).2
  have r1 := (veil_cell q1).2
  have r2 := (veil_cell q2).2
  have HALL : Hid (∀ b ∈ kB L g vc, b < w.heap.size) := fun b hb => (hM.allB b hb).2
  have hb0 := (Below.refl w.heap.size w).new (.cells #[.slice (some ⟨b6, off6, none⟩) t.flat.length c, .int .i64 r] 182)
  have k0 := keep r0 hb0
  have k1 := keep r1 hb0
  have k2 := keep r2 hb0
  clear hr hM q0 q1 q2 hfp hok hb0 r0 r1 r2
  have hb1 := ((Below.refl w.heap.size w).new (.cells #[.slice (some ⟨b6, off6, none⟩) t.flat.length c, .int .i64 r] 182)).new (.cells #[.int .i64 t.hd.k, .string t.hd.s, .int .i64 t.hd.n] 79)
  have HB1 := mkHid hb1
  have HM1 := mkHid (HM.out.below hb1)
  have HF1 : Hid (Fr (kB L g vc) w ((w.alloc (.cells #[.slice (some ⟨b6, off6, none⟩) t.flat.length c, .int .i64 r] 182)).alloc (.cells #[.int .i64 t.hd.k, .string t.hd.s, .int .i64 t.hd.n] 79))) := Fr.of hb1
  have HR1 := mkHid (HR.out.keeps (Fr.keeps HF1.out))
  clear hb1 HR HM
  rcases HKK.out with h1 | h2 | h3
  · have HU : Hid (getS (t, r) m = (m.var t.hd.n 1 2 r, [])) := by rw [Hid, getS, if_pos h1]
    clear HKK
    rw [h1] at k0 HB1 HM1 HF1 HR1
    generalize t.hd.k = uk at *
    subst h1
    go_enter Try.func146, Try.ntmps146
    go_wp2_with fail
    refine (variable_any _ B L g vc m 0 0 t.hd.n 1 2 r HM1.out (by omega) (by omega) hn1 hn2 (by omega) (by omega) (by omega)).mono ?_
    rintro e w2 ⟨rfl, vk2, hM2, hF2, hN2⟩
    have HP : Hid (GPost w B L g vc (m.var t.hd.n 1 2 r) [] (.returned (.slice none 0 0)) w2) := ⟨_, rfl, vk2, hM2, .nil _ _ _, HF1.out.trans hF2, newAtN_trans (.inl rfl) HB1.out.size hN2⟩
    clear hM2 hF2 hN2 k0 k1 k2
    go_wp2_with fail
    go_ret
    rw [HU.out]
    exact HP.out
  · have HU : Hid (getS (t, r) m = (m.lay ⟨3, 0, r, ⟨#[]⟩, t.hd.n, false⟩, [])) := by rw [Hid, getS, if_neg (by show ¬ t.hd.k = 1; omega), if_pos h2]
    clear HKK
    rw [h2] at k0 HB1 HM1 HF1 HR1
    generalize t.hd.k = uk at *
    subst h2
    go_enter Try.func146, Try.ntmps146
    go_wp2_with fail
    refine (lay_any _ B L g vc m 0 0 ⟨3, 0, r, ⟨#[]⟩, t.hd.n, false⟩ (HM1.out.slack (by omega) (by omega)) (Ins.fit_of (by omega) (by omega) (by omega) ⟨hn1, hn2⟩ (by decide)) (by omega)).mono ?_
    rintro e w2 ⟨rfl, vk2, hM2, hF2, hN2⟩
    have HP : Hid (GPost w B L g vc (m.lay ⟨3, 0, r, ⟨#[]⟩, t.hd.n, false⟩) [] (.returned (.slice none 0 0)) w2) := ⟨_, rfl, vk2, hM2, .nil _ _ _, HF1.out.trans hF2, newAtN_trans (.inl rfl) HB1.out.size hN2⟩
    clear hM2 hF2 hN2 k0 k1 k2
    go_wp2_with fail
    go_ret
    rw [HU.out]
    exact HP.out
  · have HU : Hid (getS (t, r) m = unifyS t.args (m.lay ⟨4, 0, r, t.hd.s, t.hd.n, false⟩)) := by rw [Hid, getS, if_neg (by show ¬ t.hd.k = 1; omega), if_neg (by show ¬ t.hd.k = 2; omega), if_pos h3]
    clear HKK
    rw [h3] at k0 HB1 HM1 HF1 HR1
    generalize t.hd.k = uk at *
    subst h3
    go_enter Try.func146, Try.ntmps146
    go_wp2_with fail
    refine (lay_any _ B L g vc m 0 0 ⟨4, 0, r, t.hd.s, t.hd.n, false⟩ (HM1.out.slack (by omega) (by omega)) (Ins.fit_of (by omega) (by omega) (by omega) ⟨hn1, hn2⟩ hns) (by omega)).mono ?_
    rintro e w2 ⟨rfl, vk2, hM2, hF2, hN2⟩
    have HF2 := mkHid (HF1.out.trans hF2)
    have HN2 := mkHid (newAtN_trans (v := vc) (.inl rfl) HB1.out.size hN2)
    have hrt2 := (HR1.out.keeps (Fr.keeps hF2)).keeps (veil_keeps _ _)
    have HRT := mkHid hrt2
    have HM2 := mkHid hM2
    have hwlt : w.heap.size < w2.heap.size := by
      have h1 := hF2.size
      simp at h1
      omega
    have x0 : w2.cell? ⟨w.heap.size, 0, none⟩ = some (.slice (some ⟨b6, off6, none⟩) t.flat.length c) := by
      refine (World.cell?_of_block (a := ⟨w.heap.size, 0, none⟩) (hF2.block w.heap.size (by simp; omega) (fun e => ?_))).trans (keep (World.cell?_alloc_at _ _ w.heap.size 0 rfl) ((Below.refl _ _).new _))
      have := HALL.out _ e
      omega
    clear hM2 hF2 hN2 k0 k1 k2 hrt2
    go_wp2_with fail
    refine (parts_newN (some ⟨b6, off6, none⟩) c w2 t.flat HRT.out HRI.out).mono ?_
    rintro e w3 ⟨a3, c3, rfl, hnew, hb3⟩
    rw [HPF.out] at hnew ⊢
    have HM3 := mkHid (HM2.out.below hb3)
    have hal : (t.args.map Tm.flat).length = t.args.length := List.length_map _
    have HRW : Hid (Row (veil (kB L g vk2) (under w2.heap.size w3)) a3 c3 (t.args.map Tm.flat)) := Row.keeps hnew (under_veilN _ fun b hb => (HM2.out.allB b hb).2)
    have HS3 := mkHid hb3.size
    have HF3 := mkHid (HF2.out.trans (Fr.of hb3))
    have ha6 : t.args.length ≤ 6 := by
      have h1 := ar_le _ ((ok_iff t).1 HOK.out).1
      rw [((ok_iff t).1 HOK.out).2.1]
      exact h1
    have HKS := mkHid (oks_kinds ((ok_iff t).1 HOK.out).2.2)
    rw [hal]
    clear hnew hb3 hal
    go_wp2_with fail
    refine (unify_any w3 B L g vk2 w2.heap.size a3 c3 t.args _ HM3.out HS3.out HRW.out HKS.out (by rw [lay_len]; omega)).mono ?_
    rintro e w4 ⟨vo, rfl, vk4, hM4, hP4, hO4, hF4, hN4⟩
    have HP : Hid (GPost w B L g vc (unifyS t.args (m.lay ⟨4, 0, r, t.hd.s, t.hd.n, false⟩)).1 ((unifyS t.args (m.lay ⟨4, 0, r, t.hd.s, t.hd.n, false⟩)).2.map plOf) (.returned vo) w4) := by
      refine ⟨_, rfl, vk4, hM4, ?_, frK_trans HF3.out HN2.out hF4, newAtN_trans HN2.out HF3.out.size hN4⟩
      exact hP4.mono (by omega)
    clear hM4 hP4 hO4 hF4 hN4
    go_wp2_with fail
    go_ret
    rw [HU.out]
    exact HP.out
end Go.Proofs.Ytmmnfkggfnokjaa
set_option linter.unusedVariables false
namespace Go.Proofs.Ytmmnfkggfnokjaa
open Go.RowKit
/-! ### a row that is taken from the front and appended to -/
theorem run_append_nilP (w : World) (ty : TypeId) (ao : Option Addr) (n cap : Nat) (h : n ≤ cap) : (Builtin.append_ #[180, 180] ty #[.slice ao n cap, .slice none 0 0]).run Try.prog w = .ok (.slice ao n cap) w := by
  obtain ⟨i, hi, hz0, hz1, hz2⟩ := info_parts Try.infoPlaced
  cases ao with
  | none => simp [Builtin.append_, run_underlying Try.underlying180, sizeOf, typeInfo, hi, Builtin.lenOf, Builtin.firstCells, loadCells, loadCellsFrom, h]
  | some a => simp [Builtin.append_, run_underlying Try.underlying180, sizeOf, typeInfo, hi, Builtin.lenOf, Builtin.firstCells, loadCells, loadCellsFrom, h, storeCells]
theorem RowP.join {W : World} {us : List Nat} {B B1 : Nat} {xs ys : List Pl} {v v2 : Value} (h : RowP W us B xs v) (h2 : RowP W us B1 ys v2) (hB : B1 ≤ W.heap.size) (hBB : B ≤ B1) (hg : ∀ b, v.ownBlock = some b → b < B1) (hu : ∀ b ∈ us, b < W.heap.size) (ty : TypeId) (hmax : xs.length + ys.length ≤ 1000000) :
    ∃ v' W', (Builtin.append_ #[180, 180] ty #[v, v2]).run Try.prog W = .ok v' W' ∧ RowP W' us B (xs ++ ys) v' ∧ W.grownBy W' v.ownBlock ∧ NewAtN W v v' := by
  obtain ⟨vs, hc, hv⟩ := h2.ex
  rcases hv with ⟨rfl, rfl⟩ | ⟨g, off, cap, cur, rfl, hB2, hgu, hb, h3, h4, h5, h6⟩
  · obtain ⟨a, cap, rfl, hle, hmx, _⟩ := h.slice
    exact ⟨_, _, run_append_nilP W ty a xs.length cap hle, by rw [List.append_nil]; exact h, ⟨rfl, rfl, rfl, Nat.le_refl _, fun _ _ _ => rfl⟩, .inl rfl⟩
  · obtain ⟨hvl, hat⟩ := RowP.cells hc hb h3 h5 h6
    refine h.run_append (by omega) hu ty (a := ⟨g, off, none⟩) (m := ys.length) (c := cap) (news := vs) rfl (hc.keeps fun b o x hx => ?_) (fun j u hj => by rw [Addr.add_lit]; exact hat j u hj) hmax
    obtain ⟨q1, q2, _, q4⟩ := vw_cell hx
    exact vw_of (v := v) (by omega) q2 (fun e => by have := hg b e; omega) q4
/-- between two terms of the row -/
structure RowGo (w : World) (B L g : Nat) (vc : Value) (B2 : Nat) (m : MkS) (ps : List Pl) (vk vo : Value) (W : World) : Prop where
  mkm : MkM W B L g vk m 0 0
  op : RowP W (kB L g vk) B2 ps vo
  og : ∀ b, vo.ownBlock = some b → w.heap.size ≤ b
  fr : Fr (kB L g vc) w W
  new : NewAtN w vc vk
theorem RowGo.nog {w W : World} {B L g B2 : Nat} {vc vk vo : Value} {m : MkS} {ps : List Pl} (h : RowGo w B L g vc B2 m ps vk vo W) : ∀ b, vo.ownBlock = some b → b ∉ kB L g vk := fun b hb e => by
  obtain ⟨vs, hc, hv⟩ := h.op.ex
  rcases hv with ⟨e1, _⟩ | ⟨g', off, cap, cur, e1, _, hg', _⟩
  · rw [e1] at hb; cases hb
  · rw [e1] at hb; cases hb; exact hg' e
/-- the term at the row's front was got, and what waits put behind the others -/
theorem RowGo.step {w W W1 W2 : World} {B L g B2 : Nat} {vc vk vk1 vo vt vo2 : Value} {m m1 : MkS} {ps ps1 : List Pl} {x : Pl} (h : RowGo w B L g vc B2 m (x :: ps) vk vo W) (ht : RowP W (kB L g vk) B2 ps vt) (hto : vt.ownBlock = vo.ownBlock)
    (hM : MkM W1 B L g vk1 m1 0 0) (hf : Fr (kB L g vk) W W1) (hn : NewAtN W vk vk1) (hp : RowP W2 (kB L g vk1) B2 (ps ++ ps1) vo2) (hg : W1.grownBy W2 vt.ownBlock) (hn2 : NewAtN W1 vt vo2) : RowGo w B L g vc B2 m1 (ps ++ ps1) vk1 vo2 W2 := by
  have hf2 : Fr vt.ownBlock.toList W1 W2 := grown_frN hg
  have hF1 : Fr (kB L g vc) w W1 := frK_trans h.fr h.new hf
  refine ⟨hM.fr hf2 fun b hb e => ?_, hp, fun b hb => ?_, ?_, newAtN_trans h.new h.fr.size hn⟩
  · simp at e
    rw [hto] at e
    have h1 := h.op.lt b e
    rcases kB_new hn b hb with e2 | e2
    · exact h.nog b e e2
    · omega
  · rcases hn2 with e | ⟨b', e, hb'⟩
    · exact h.og b (by rw [← hto, ← e]; exact hb)
    · rw [hb] at e; injection e with e
      have := hF1.size
      omega
  · have h2 : Fr (vt.ownBlock.toList ++ kB L g vc) w W2 := (hF1.sub fun k hk => List.mem_append_right _ hk).trans (hf2.sub fun k hk => List.mem_append_left _ hk)
    exact h2.fresh fun k hk => by simp at hk; rw [hto] at hk; exact h.og k hk
/-! ### what is plain of it -/
theorem ok_kinds : ∀ t : Tm, t.ok → Kinds t := by
  intro t
  exact (Tm.rec (motive_1 := fun t => t.ok → Kinds t) (motive_2 := fun ts => oks ts → KindsL ts)
    (fun c ts ih h => by
      refine ⟨oks_kinds (ts := [.mk c ts]) ⟨h, trivial⟩ (.mk c ts) (by simp), fun h3 => ?_, ih h.2.2⟩
      have h1 := h.2.1
      unfold ar at h1
      rw [if_neg h3] at h1
      exact List.eq_nil_of_length_eq_zero h1)
    (fun _ => trivial)
    (fun t ts iht ihts h => ⟨iht h.1, ihts h.2⟩) t)
theorem unifyS_regs : ∀ (ts : List Tm) (m : MkS), m.next ≤ (unifyS ts m).1.next ∧ ∀ p ∈ (unifyS ts m).2, m.next ≤ p.2 ∧ p.2 < (unifyS ts m).1.next ∧ p.1 ∈ ts
  | [], m => by simp [unifyS]
  | t :: ts, m => by
    have hv : m.next ≤ (m.var t.hd.n 5 6 0).next := by
      unfold MkS.var
      split
      · exact Int.le_refl _
      · simp only [MkS.lay, MkS.fresh]; omega
    rw [unifyS_cons]
    split
    · obtain ⟨h1, h2⟩ := unifyS_regs ts (m.var t.hd.n 5 6 0)
      exact ⟨by omega, fun p hp => by obtain ⟨a, b, c⟩ := h2 p hp; exact ⟨by omega, b, List.mem_cons_of_mem _ c⟩⟩
    · split
      · obtain ⟨h1, h2⟩ := unifyS_regs ts (m.lay ⟨7, 0, 0, ⟨#[]⟩, t.hd.n, false⟩)
        exact ⟨h1, fun p hp => by obtain ⟨a, b, c⟩ := h2 p hp; exact ⟨a, b, List.mem_cons_of_mem _ c⟩⟩
      · split
        · obtain ⟨h1, h2⟩ := unifyS_regs ts (m.fresh.lay ⟨5, m.next, 0, ⟨#[]⟩, 0, false⟩)
          have e : (m.fresh.lay ⟨5, m.next, 0, ⟨#[]⟩, 0, false⟩).next = m.next + 1 := rfl
          rw [e] at h1 h2
          refine ⟨by simp only; omega, fun p hp => ?_⟩
          rcases List.mem_cons.1 hp with rfl | hp
          · exact ⟨by simp only; omega, by simp only; omega, List.mem_cons_self⟩
          · obtain ⟨a, b, c⟩ := h2 p hp
            exact ⟨by omega, b, List.mem_cons_of_mem _ c⟩
        · obtain ⟨h1, h2⟩ := unifyS_regs ts m
          exact ⟨h1, fun p hp => by obtain ⟨a, b, c⟩ := h2 p hp; exact ⟨a, b, List.mem_cons_of_mem _ c⟩⟩
theorem getS_regs (p : Tm × Int) (m : MkS) : m.next ≤ (getS p m).1.next ∧ ∀ q ∈ (getS p m).2, m.next ≤ q.2 ∧ q.2 < (getS p m).1.next ∧ q.1 ∈ p.1.args := by
  have hv : m.next ≤ (m.var p.1.hd.n 1 2 p.2).next := by
    unfold MkS.var
    split
    · exact Int.le_refl _
    · simp only [MkS.lay, MkS.fresh]; omega
  unfold getS
  split
  · exact ⟨hv, fun q hq => by cases hq⟩
  · split
    · exact ⟨Int.le_refl _, fun q hq => by cases hq⟩
    · split
      · exact unifyS_regs p.1.args (m.lay ⟨4, 0, p.2, p.1.hd.s, p.1.hd.n, false⟩)
      · exact ⟨Int.le_refl _, fun q hq => by cases hq⟩
/-- a row whose terms are right, in registers that are numbers -/
def RowOkN (ps : List (Tm × Int)) : Prop := ∀ p ∈ ps, p.1.ok ∧ p.1.flat.length ≤ 200 ∧ 0 ≤ p.2 ∧ p.2 ≤ 900000
theorem mem_short {t u : Tm} (hu : u ∈ t.args) : u.flat.length < t.flat.length := by
  rw [flat_cons t, List.length_cons]
  have key : ∀ ts : List Tm, u ∈ ts → u.flat.length ≤ (flats ts).length := by
    intro ts
    induction ts with
    | nil => intro h; cases h
    | cons v ts ih =>
      intro h
      simp only [flats, List.length_append]
      rcases List.mem_cons.1 h with rfl | h
      · omega
      · have := ih h; omega
  have := key _ hu
  omega
theorem RowOkN.step {p : Tm × Int} {ps : List (Tm × Int)} {m : MkS} (h : RowOkN (p :: ps)) (h0 : 0 ≤ m.next) (hn : (getS p m).1.next ≤ 900000) : RowOkN (ps ++ (getS p m).2) := by
  intro q hq
  rcases List.mem_append.1 hq with hq | hq
  · exact h q (List.mem_cons_of_mem _ hq)
  · obtain ⟨h1, h2, h3⟩ := (getS_regs p m).2 q hq
    obtain ⟨a, b, c, d⟩ := h p List.mem_cons_self
    have := mem_short h3
    exact ⟨oks_mem ((ok_iff p.1).1 a).2.2 _ h3, by omega, by omega, by omega⟩
theorem rowOf_next (ts : List Tm) : ∀ (i : Nat) (t : Tm), rowOf (ts ++ [t]) i = rowOf ts i ++ [(t, ((i + ts.length : Nat) : Int))] := by
  induction ts with
  | nil => intro i t; simp [rowOf]
  | cons u ts ih =>
    intro i t
    rw [List.cons_append]
    unfold rowOf
    rw [ih (i + 1) t]
    simp only [List.cons_append, List.length_cons]
    congr 4
    omega
theorem rowOf_length (ts : List Tm) : ∀ i : Nat, (rowOf ts i).length = ts.length := by
  induction ts with
  | nil => intro i; rfl
  | cons u ts ih => intro i; unfold rowOf; simp [ih]
theorem rowOf_ok {ts : List Tm} (h : oks ts) (h2 : ∀ t ∈ ts, t.flat.length ≤ 200) : ∀ i : Nat, i + ts.length ≤ 900000 → RowOkN (rowOf ts i) := by
  induction ts with
  | nil => intro i _ p hp; cases hp
  | cons u ts ih =>
    intro i hi p hp
    unfold rowOf at hp
    simp only [List.length_cons] at hi
    rcases List.mem_cons.1 hp with rfl | hp
    · exact ⟨h.1, h2 _ List.mem_cons_self, by simp only; omega, by simp only; omega⟩
    · exact ih h.2 (fun t ht => h2 t (List.mem_cons_of_mem _ ht)) (i + 1) (by omega) p hp
theorem sumF_len (ps : List (Tm × Int)) : ps.length ≤ sumF ps := by
  induction ps with
  | nil => simp [sumF]
  | cons p ps ih =>
    have := flat_pos p.1
    have e : sumF (p :: ps) = p.1.flat.length + sumF ps := by simp [sumF]
    simp only [List.length_cons]
    omega
end Go.Proofs.Ytmmnfkggfnokjaa
set_option linter.unusedVariables false
namespace Go.Proofs.Ytmmnfkggfnokjaa
open Go.RowKit
set_option maxRecDepth 100000 in
set_option maxHeartbeats 12800000 in
theorem head_any (w : World) (B L g : Nat) (vc : Value) (a : Option Addr) (c : Nat) (t : Tm) (m : MkS) (hM : MkM w B L g vc m 0 0) (hr : Row (veil (kB L g vc) w) a c t.flat) (hok : t.ok) (h200 : t.flat.length ≤ 200) (hl : m.code.length + sumC (rowOf t.args 0) ≤ 800000) (F : Nat) (hF : sumF (rowOf t.args 0) ≤ F) (hF2 : F ≤ 100000) :
    Calls Try.prog 63 #[.pointer (some ⟨L, 0, none⟩), .slice a t.flat.length c] w (KPost w B L g vc (rowS F (rowOf t.args 0) m) 0 0 (.tuple #[])) := by
  have HRI := mkHid (right_flat hok h200)
  have HPF := mkHid (parts_flat hok)
  have hrt := hr.keeps (veil_keeps _ _)
  have hpl := hr.le
  have hpm := hr.max
  have HRT := mkHid hrt
  have HM := mkHid hM
  have hal : (t.args.map Tm.flat).length = t.args.length := List.length_map _
  have HAL := mkHid hal
  have ha6 : t.args.length ≤ 6 := by
    have h1 := ar_le _ ((ok_iff t).1 hok).1
    rw [((ok_iff t).1 hok).2.1]
    exact h1
  have HOKS := mkHid ((ok_iff t).1 hok).2.2
  have HSH : Hid (∀ u ∈ t.args, u.flat.length ≤ 200) := fun u hu => by have := mem_short hu; omega
  have HL := mkHid hl
  have HF := mkHid hF
  clear hrt hM hr hal hl hF
  generalize t.args = ts at *
  go_enter Try.func63, Try.ntmps63
  go_wp2_with fail
  refine (parts_newN a c w t.flat HRT.out HRI.out).mono ?_
  rintro e w1 ⟨a3, c3, rfl, hnew, hb1⟩
  rw [HPF.out] at hnew ⊢
  have hle := hnew.row.le
  have hmx := hnew.row.max
  rw [HAL.out] at hle ⊢
  have HG0 : Hid (UniGo w B L g vc w.heap.size a3 c3 ts m ((rowOf (ts.take 0) 0).map plOf) vc (.slice none 0 0) w1) := by
    simp only [List.take_zero, rowOf, List.map_nil]
    exact ⟨HM.out.below hb1, (Row.keeps hnew (under_veilN _ fun b hb => (HM.out.allB b hb).2)).keeps (fun b o v hc => hc), .nil _ _ _, fun b hb => by (cases hb), Fr.of hb1, .inl rfl⟩
  clear hnew hb1
  go_wp2_with fail
  go_loopw [4, 5, 6, 10] (fun vo _ _ i wr => ∃ (k : Nat), i = .int .i64 k ∧ k ≤ ts.length ∧ Hid (UniGo w B L g vc w.heap.size a3 c3 ts m ((rowOf (ts.take k) 0).map plOf) vc vo wr)) (fun _ _ _ i wr => ts.length - (intOf i).toNat)
  case atStart => exact ⟨0, rfl, Nat.zero_le _, HG0⟩
  case round =>
    clear HG0
    obtain ⟨k, rfl, hk, HG⟩ := hrel
    by_cases hlt : k < ts.length
    · obtain ⟨b4, off4, a5, c5, rfl, p0, hrp⟩ := row_partN HG.out.row (k := k) (by simpa using hlt)
      simp only [List.getElem_map] at p0 hrp
      have p0' := (vw_cell p0).2.2.2
      have hpl5 := hrp.le
      have hpm5 := hrp.max
      have HRP := mkHid hrp
      have HNX : Hid (rowOf (ts.take (k + 1)) 0 = rowOf (ts.take k) 0 ++ [(ts[k], (k : Int))]) := by
        rw [Hid, List.take_succ_eq_append_getElem hlt, rowOf_next, List.length_take]
        congr 4
        omega
      have hps : ((rowOf (ts.take k) 0).map plOf).length ≤ 6 := by rw [List.length_map, rowOf_length, List.length_take]; omega
      have hB3 : w.heap.size ≤ wr.heap.size := HG.out.fr.size
      have HKB := mkHid (fun b hb => (HG.out.mkm.allB b hb).2)
      obtain ⟨so, sc, rfl, hs1, hs2, _⟩ := HG.out.op.slice
      clear p0 hrp
      generalize hu : ts[k] = u at *
      clear hu
      generalize hpp : rowOf (ts.take k) 0 = ps at *
      clear hpp
      go_wp2_with (at_builtin; refine wpList_appP rfl _ _ rfl HG.out.op hB3 HKB.out (by rfl) rfl HRP.out (by omega) (by omega) (by rfl) (by omega) ?_; intro v' w4 hp4 hg4 hn4; have HG4 := mkHid (HG.out.opn hp4 hg4 hn4))
      go_round
      case rel => exact ⟨k + 1, by go_num, by omega, by rw [HNX.out, Hid]; simpa [plOf] using HG4.out⟩
      case measure => simp [intOf]; omega
    · obtain rfl : k = ts.length := by omega
      rw [List.take_length] at HG
      have HG1 : Hid (RowGo w B L g vc w.heap.size m ((rowOf ts 0).map plOf) vc u4 wr) := ⟨HG.out.mkm, HG.out.op, HG.out.og, HG.out.fr, HG.out.new⟩
      have HO := mkHid (rowOf_ok HOKS.out HSH.out 0 (by omega))
      clear HG
      go_wp2_with fail
      go_loopg [4] F (fun kk vo wz => ∃ (ps : List (Tm × Int)) (m1 : MkS) (vk : Value), kk ≤ F ∧ Hid (sumF ps ≤ kk) ∧ Hid (rowS F (rowOf ts 0) m = rowS kk ps m1) ∧ Hid (RowOkN ps) ∧ Hid (m1.code.length + sumC ps = m.code.length + sumC (rowOf ts 0)) ∧ Hid (RowGo w B L g vc w.heap.size m1 (ps.map plOf) vk vo wz))
      case atStart => exact ⟨_, m, vc, Nat.le_refl _, HF, rfl, HO, rfl, HG1⟩
      case round =>
        clear HG1 HO
        obtain ⟨ps, m1, vk, hkF, HSF, HRS, HO, HCN, HG⟩ := hrel
        cases ps with
        | nil =>
          obtain ⟨so, sc, rfl, hs1, hs2, _⟩ := HG.out.op.slice
          have HE : Hid (rowS F (rowOf ts 0) m = m1) := by
            rw [Hid, HRS.out]
            cases gk <;> rfl
          go_wp2_with fail
          refine bodyPost_ret (results_none rfl _ _ _) rfl ⟨rfl, vk, ?_, HG.out.fr, HG.out.new⟩
          rw [HE.out]
          exact HG.out.mkm
        | cons p ps =>
          have hfl := flat_pos p.1
          have hsf : sumF (p :: ps) = p.1.flat.length + sumF ps := by simp [sumF]
          have hsc : sumC (p :: ps) = cntR p.1 + sumC ps := by simp [sumC]
          obtain ⟨kk, rfl⟩ : ∃ kk, gk = kk + 1 := ⟨gk - 1, by have := HSF.out; omega⟩
          obtain ⟨ho1, ho2, ho3, ho4⟩ := HO.out p List.mem_cons_self
          obtain ⟨hg1, hg2, _⟩ := getS_len p m1 (ok_kinds _ ho1)
          have hcode : (getS p m1).1.code.length + sumC (ps ++ (getS p m1).2) = m.code.length + sumC (rowOf ts 0) := by rw [sumC_app]; have := HCN.out; omega
          have hm1 : m1.code.length ≤ 800000 := by have := HCN.out; have := HL.out; omega
          have hm2 : (getS p m1).1.code.length ≤ 800000 := by have := HL.out; omega
          have hsum : sumF (ps ++ (getS p m1).2) ≤ kk := by rw [sumF_app]; have := HSF.out; omega
          have HSF1 := mkHid hsum
          have HRS1 : Hid (rowS F (rowOf ts 0) m = rowS kk (ps ++ (getS p m1).2) (getS p m1).1) := HRS.out
          have HCN1 := mkHid hcode
          have hlps := sumF_len (ps ++ (getS p m1).2)
          rw [List.length_append] at hlps
          have HM1 := mkHid HG.out.mkm.next
          have hG := HG.out
          rw [List.map_cons] at hG
          obtain ⟨gb, off, cap, pa, pc, rfl, c0, c1, hpr, hr1, hr2⟩ := hG.op.head
          have HPR := mkHid hpr
          have HG9 := mkHid hG
          obtain ⟨_, _, e9, hs1, hs2, _⟩ := hG.op.slice
          cases e9
          clear hG hpr HG hg1 hg2 hcode
          have hln : (ps.map plOf).length ≤ 100000 := by rw [List.length_map]; omega
          have hln2 : ((getS p m1).2.map plOf).length ≤ 100000 := by rw [List.length_map]; omega
          generalize hqs : ps.map plOf = qs at *
          have HQS := mkHid hqs
          clear hqs
          have hcap : qs.length + 1 ≤ cap := hs1
          go_wp2_with fail
          refine wp_region_noPanic ?_
          refine wp_region_held_drew (S := fun _ => True) (by kernel_rfl) trivial (fun _ => ?_)
          have hbd : Below wr.heap.size wr wr.drew := (Below.refl _ _).drew
          have d0 := keep c0 hbd
          have d1 := keep c1 hbd
          clear c0 c1
          obtain ⟨v0, hx0⟩ : ∃ X, wr.drew = X := ⟨_, rfl⟩
          rw [hx0] at hbd d0 d1 ⊢
          clear hx0
          obtain ⟨off', hoff⟩ : ∃ off', (cap = 1 → off' = off) ∧ (¬ cap = 1 → off' = off + 2) := by
            by_cases h : cap = 1
            · exact ⟨off, fun _ => rfl, fun h2 => absurd h h2⟩
            · exact ⟨off + 2, fun h2 => absurd h2 h, fun _ => rfl⟩
          have hlen1 : (1 : Int) ≤ (qs.length : Int) + 1 := by omega
          refine wpAnyH_take (i := 0) (oi := _) (v := ?_) rfl (by kernel_rfl) (by kernel_rfl) (by kernel_rfl) (fun _ _ _ h => h) (Or.inl ⟨by rfl, ?_⟩) (by assumption) ?_
          rotate_left
          · (intro w' _; go_simp; try with_reducible rfl)
          (try simp only [List.getElem_toArray, List.getElem_cons_succ, List.getElem_cons_zero, Act.put, List.setIfInBounds_toArray, List.set_cons_zero, List.set_cons_succ])
          have hoff2 : off' = off + 2 ∨ cap - 1 = 0 ∧ off' = off := by
            by_cases h : cap = 1
            · exact .inr ⟨by omega, hoff.1 h⟩
            · exact .inl (hoff.2 h)
          have HOF : Hid ((if cap = 1 then some (⟨gb, off, none⟩ : Addr) else some ⟨gb, off + 2, none⟩) = some ⟨gb, off', none⟩) := by
            by_cases h : cap = 1
            · rw [Hid, if_pos h, hoff.1 h]
            · rw [Hid, if_neg h, hoff.2 h]
          refine wpAnyH_take (i := 1) (oi := _) (v := .slice (some ⟨gb, off', none⟩) qs.length (cap - 1)) rfl (by kernel_rfl) (by kernel_rfl) (by kernel_rfl) (fun _ _ _ h => h) (Or.inl ⟨by rfl, ?_⟩) (by assumption) ?_
          · (intro w' _; go_simp; try (first | with_reducible rfl | (exact HOF.out)))
          (try simp only [List.getElem_toArray, List.getElem_cons_succ, List.getElem_cons_zero, Act.put, List.setIfInBounds_toArray, List.set_cons_zero, List.set_cons_succ])
          refine wpAnyH_take (i := 2) (oi := _) (v := ?_) rfl (by kernel_rfl) (by kernel_rfl) (by kernel_rfl) (fun _ _ _ h => h) (Or.inl ⟨by rfl, ?_⟩) (by assumption) ?_
          rotate_left
          · (intro w' _; go_simp; try with_reducible rfl)
          (try simp only [List.getElem_toArray, List.getElem_cons_succ, List.getElem_cons_zero, Act.put, List.setIfInBounds_toArray, List.set_cons_zero, List.set_cons_succ])
          refine wpAnyH_take (i := 3) (oi := _) (v := ?_) rfl (by kernel_rfl) (by kernel_rfl) (by kernel_rfl) (fun _ _ _ h => h) (Or.inl ⟨by rfl, ?_⟩) (by assumption) ?_
          rotate_left
          · (intro w' _; go_simp; try with_reducible rfl)
          (try simp only [List.getElem_toArray, List.getElem_cons_succ, List.getElem_cons_zero, Act.put, List.setIfInBounds_toArray, List.set_cons_zero, List.set_cons_succ])
          refine wpAnyH_take (i := 4) (oi := _) (v := ?_) rfl (by kernel_rfl) (by kernel_rfl) (by kernel_rfl) (fun _ _ _ h => h) (Or.inl ⟨by rfl, ?_⟩) (by assumption) ?_
          rotate_left
          · (intro w' _; go_simp; try with_reducible rfl)
          (try simp only [List.getElem_toArray, List.getElem_cons_succ, List.getElem_cons_zero, Act.put, List.setIfInBounds_toArray, List.set_cons_zero, List.set_cons_succ])
          refine wpAnyH_ready (rs := [5]) (by kernel_rfl) (by simp) ?_
          refine AllReadyH.cons (o := _) rfl (fun K hK => ?_) AllReadyH.nil
          go_simp
          try dsimp only
          refine hK.out _ _ trivial (fun _ => ?_)
          clear hK K
          (try simp only [List.getElem_toArray, List.getElem_cons_succ, List.getElem_cons_zero, Act.put, List.setIfInBounds_toArray, List.set_cons_zero, List.set_cons_succ])
          refine wpAnyH_ready (rs := [6]) (by kernel_rfl) (by simp) ?_
          refine AllReadyH.cons (o := _) rfl (fun K hK => ?_) AllReadyH.nil
          go_simp
          have HM0 : Hid (MkM v0 B L g vk m1 0 0) := HG9.out.mkm.below hbd
          have HT0 : Hid (RowP v0 (kB L g vk) w.heap.size qs (.slice (some ⟨gb, off', none⟩) qs.length (cap - 1))) := (HG9.out.op.tail hoff2).below hbd
          have hrow0 : Row (veil (kB L g vk) v0) pa pc p.1.flat := HPR.out.keeps fun b o x hx => by
            obtain ⟨h1, h2, h3, h4⟩ := vw_cell hx
            exact veil_of h2 (keep h4 hbd)
          refine Calls.mono (R := GPost v0 B L g vk (getS p m1).1 ((getS p m1).2.map plOf)) (get_any v0 B L g vk pa pc p.1 p.2 m1 HM0.out hrow0 ho1 ho2 ho3 (by omega) hm1) ?_
          rintro e w5 ⟨vo5, rfl, vk5, hM5, hP5, hF5, hN5⟩
          have hT5 := HT0.out.turn hF5 (kB_new hN5)
          obtain ⟨v6, w6, hrun, hP6, hg6, hn6⟩ := hT5.join hP5 hF5.size (Nat.le_trans HG9.out.fr.size hbd.size) (fun b hb => (HT0.out.lt b hb).2) (fun b hb => (hM5.allB b hb).2) 180 (by omega)
          have hG6 := HG9.out.step (W1 := w5) (W2 := w6) (HG9.out.op.tail hoff2) rfl hM5 ((Fr.of hbd).trans hF5) (newAtN_trans (.inl rfl) hbd.size hN5) hP6 hg6 hn6
          have HG6 := mkHid hG6
          clear hG6 hP6 hg6 hn6 hT5 hM5 hP5 hF5 hN5 hrow0
          try dsimp only
          refine hK.out _ _ trivial (fun _ => ?_)
          clear hK K
          (try simp only [List.getElem_toArray, List.getElem_cons_succ, List.getElem_cons_zero, Act.put, List.setIfInBounds_toArray, List.set_cons_zero, List.set_cons_succ])
          refine wpAnyH_ready (rs := [7]) (by kernel_rfl) (by simp) ?_
          refine AllReadyH.cons (o := _) rfl (fun K hK => ?_) AllReadyH.nil
          (rw [if_pos (by rfl)]; simp [Oper.wp, execOp, resolve, invoke, builtin, Oper.upon, Act.eval, hrun, Result.andThen, Sem.run_bind])
          refine hK.out _ _ trivial (fun _ => ?_)
          clear hK K
          (try simp only [List.getElem_toArray, List.getElem_cons_succ, List.getElem_cons_zero, Act.put, List.setIfInBounds_toArray, List.set_cons_zero, List.set_cons_succ])
          refine wpAnyH_take (i := 8) (oi := _) (v := ?_) rfl (by kernel_rfl) (by kernel_rfl) (by kernel_rfl) (fun _ _ _ h => h) (Or.inl ⟨by rfl, ?_⟩) (by assumption) ?_
          rotate_left
          · (intro w' _; go_simp; try with_reducible rfl)
          (try simp only [List.getElem_toArray, List.getElem_cons_succ, List.getElem_cons_zero, Act.put, List.setIfInBounds_toArray, List.set_cons_zero, List.set_cons_succ])
          refine wpAnyH_done (by kernel_rfl) (NoPanic.normal ?_) _
          clear hrun d0 d1
          go_wp2_with fail
          go_roundg kk
          case rel => exact ⟨_, _, vk5, by omega, HSF1, HRS1, HO.out.step (by have := HM1.out; omega) (by have := HG6.out.mkm.next; omega), HCN1, by rw [Hid, List.map_append, HQS.out]; exact HG6.out⟩
          case measure => omega
end Go.Proofs.Ytmmnfkggfnokjaa
