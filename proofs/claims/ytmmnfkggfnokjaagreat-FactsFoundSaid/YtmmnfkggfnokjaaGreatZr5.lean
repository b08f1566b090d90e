import Derived.Test.YtmmnfkggfnokjaaGreatZr4
namespace Go.Proofs.YtmmnfkggfnokjaaGreat
open Go.RowKit
set_option maxHeartbeats 40000000 in
set_option maxRecDepth 100000 in
theorem head12_r10 (W : World) (PB P3 : Nat) (a1 a2 a3 a4 a7 a11 a12 a13 : Option Addr) (c1 c2 c3 c4 c7 c11 c12 c13 : Nat)
    (RL : Hid (Row W (some ⟨PB, 0, none⟩) 3 l12)) (R1 : Hid (Row W (a1) c1 pA)) (R2 : Hid (Row W (a2) c2 pB)) (R3 : Hid (Row W (a3) c3 qAA)) (RM : Hid (Row W (a4) c4 l12)) (RN : Hid (Row W (a7) c7 [pA, qAA])) (RO : Hid (Row W (a11) c11 l12)) (RX : Hid (Row W (a12) c12 [qAA])) (RY : Hid (Row W (a13) c13 [pA])) (RT2 : Hid (Row W (some ⟨PB, 0, none⟩) 3 (l12.take 2))) (RT1 : Hid (Row W (some ⟨PB, 0, none⟩) 3 (l12.take 1))) (RD2 : Hid (Row W (some ⟨PB, 2, none⟩) 1 (l12.drop 2)))
    (D0 : Hid (W.cell? ⟨PB, 0, none⟩ = some (.slice a1 2 c1))) (D1 : Hid (W.cell? ⟨PB, 1, none⟩ = some (.slice a2 2 c2))) (D2 : Hid (W.cell? ⟨PB, 2, none⟩ = some (.slice a3 3 c3))) (Z0 : Hid (W.cell? ⟨P3, 0, none⟩ = some (.int .i64 1))) (Z1 : Hid (W.cell? ⟨P3, 1, none⟩ = some (.string ⟨#[]⟩))) (Z2 : Hid (W.cell? ⟨P3, 2, none⟩ = some (.int .i64 0)))
    (A0 : Act) (s3 : Slot A0 3 (Value.pointer (some ⟨P3, 0, none⟩))) (s4 : Slot A0 4 (Value.slice (some ⟨PB, 0, none⟩) 3 3)) (s5 : Slot A0 5 (Value.slice (a4) 3 c4)) (s6 : Slot A0 6 (Value.int .i64 0)) (s8 : Slot A0 8 (Value.int .i64 120)) (s9 : Slot A0 9 (Value.slice (a7) 2 c7)) (s10 : Slot A0 10 (Value.int .i64 0)) (s12 : Slot A0 12 (Value.int .i64 3)) (s14 : Slot A0 14 (Value.int .i64 120)) (s15 : Slot A0 15 (Value.slice (a11) 3 c11)) (s16 : Slot A0 16 (Value.int .i64 0)) (s17 : Slot A0 17 (Value.slice (a12) 1 c12)) (s18 : Slot A0 18 (Value.slice (a13) 1 c13)) (hsz : A0.tmps.size = 216) (hdf : A0.defers = []) {Q : Exit → Act → World → Prop} (hQ : ∀ A V, A.defers = [] → Slot A 0 (.bool true) → Below W.heap.size W V → Q .normal A V) :
    (Code.region 10 r10Ops true).wp Tryz.prog Q A0 W := by
  refine wp_region_greedy (S := fun X => Below W.heap.size W X) r10Sig (by kernel_rfl) r10_get r10_sel r10_lt r10_perm r10_ok ((Below.refl _ _).drew) ?_
  have hS : Below W.heap.size W W.drew := (Below.refl _ _).drew
  obtain ⟨V0, hV0⟩ : ∃ V, W.drew = V := ⟨_, rfl⟩
  rw [hV0] at hS ⊢
  clear hV0
  have hsize : Below W.heap.size W V0 := hS
  clear hsize
  refine n_pure (v := Value.slice (some ⟨PB, 0, none⟩) 3 3) (d := 89) (y_move (wanted_none rfl) rfl s4.eval) hsz rfl rfl ?_
  intro A1 hn
  replace hsz := hn.size
  replace hdf := hn.defers.trans hdf
  replace s3 := hn.keep _ _ rfl s3
  replace s4 := hn.keep _ _ rfl s4
  replace s5 := hn.keep _ _ rfl s5
  replace s6 := hn.keep _ _ rfl s6
  replace s8 := hn.keep _ _ rfl s8
  replace s9 := hn.keep _ _ rfl s9
  replace s10 := hn.keep _ _ rfl s10
  replace s12 := hn.keep _ _ rfl s12
  replace s14 := hn.keep _ _ rfl s14
  replace s15 := hn.keep _ _ rfl s15
  replace s16 := hn.keep _ _ rfl s16
  replace s17 := hn.keep _ _ rfl s17
  replace s18 := hn.keep _ _ rfl s18
  have s89 := hn.new
  clear hn
  refine n_call (f := 8) (args := #[Value.slice (some ⟨PB, 0, none⟩) 3 3]) (R := fun v w' => v = Value.bool true ∧ Below V0.heap.size V0 w') (d := 90) (by kernel_rfl) (wanted_none rfl) (run_call rfl rfl (fun _ _ => by kernel_rfl) (by simp only [List.map_toArray, List.map_cons, List.map_nil, ev_const, s89.eval])) ((frightL_is (n := 3) (b := true) rfl (RL.out.below hS) k12_right).mono fun e w' ⟨he, hb⟩ => ⟨_, he, rfl, hb⟩) hsz rfl rfl ?_
  rintro _ V1 ⟨rfl, hq⟩
  refine ⟨hS.then hq, fun A2 hn => ?_⟩
  replace hS := hS.then hq
  clear hq
  replace hsz := hn.size
  replace hdf := hn.defers.trans hdf
  replace s3 := hn.keep _ _ rfl s3
  replace s4 := hn.keep _ _ rfl s4
  replace s5 := hn.keep _ _ rfl s5
  replace s6 := hn.keep _ _ rfl s6
  replace s8 := hn.keep _ _ rfl s8
  replace s9 := hn.keep _ _ rfl s9
  replace s10 := hn.keep _ _ rfl s10
  replace s12 := hn.keep _ _ rfl s12
  replace s14 := hn.keep _ _ rfl s14
  replace s15 := hn.keep _ _ rfl s15
  replace s16 := hn.keep _ _ rfl s16
  replace s17 := hn.keep _ _ rfl s17
  replace s18 := hn.keep _ _ rfl s18
  clear s89
  have s90 := hn.new
  clear hn
  refine n_pure (v := Value.bool true) (d := 91) (y_move (wanted_none rfl) rfl s90.eval) hsz rfl rfl ?_
  intro A3 hn
  replace hsz := hn.size
  replace hdf := hn.defers.trans hdf
  replace s3 := hn.keep _ _ rfl s3
  replace s4 := hn.keep _ _ rfl s4
  replace s5 := hn.keep _ _ rfl s5
  replace s6 := hn.keep _ _ rfl s6
  replace s8 := hn.keep _ _ rfl s8
  replace s9 := hn.keep _ _ rfl s9
  replace s10 := hn.keep _ _ rfl s10
  replace s12 := hn.keep _ _ rfl s12
  replace s14 := hn.keep _ _ rfl s14
  replace s15 := hn.keep _ _ rfl s15
  replace s16 := hn.keep _ _ rfl s16
  replace s17 := hn.keep _ _ rfl s17
  replace s18 := hn.keep _ _ rfl s18
  clear s90
  have s91 := hn.new
  clear hn
  refine n_pure (v := Value.slice (some ⟨PB, 0, none⟩) 3 3) (d := 92) (y_move (wanted_some rfl (by kernel_rfl) s91) rfl s4.eval) hsz rfl rfl ?_
  intro A4 hn
  replace hsz := hn.size
  replace hdf := hn.defers.trans hdf
  replace s3 := hn.keep _ _ rfl s3
  replace s4 := hn.keep _ _ rfl s4
  replace s5 := hn.keep _ _ rfl s5
  replace s6 := hn.keep _ _ rfl s6
  replace s8 := hn.keep _ _ rfl s8
  replace s9 := hn.keep _ _ rfl s9
  replace s10 := hn.keep _ _ rfl s10
  replace s12 := hn.keep _ _ rfl s12
  replace s14 := hn.keep _ _ rfl s14
  replace s15 := hn.keep _ _ rfl s15
  replace s16 := hn.keep _ _ rfl s16
  replace s17 := hn.keep _ _ rfl s17
  replace s18 := hn.keep _ _ rfl s18
  replace s91 := hn.keep _ _ rfl s91
  have s92 := hn.new
  clear hn
  refine n_pure (v := Value.pointer (some ⟨PB, 1, none⟩)) (d := 93) (f_idx 1 (by omega) (wanted_some rfl (by kernel_rfl) s91) rfl s92.eval rfl) hsz rfl rfl ?_
  intro A5 hn
  replace hsz := hn.size
  replace hdf := hn.defers.trans hdf
  replace s3 := hn.keep _ _ rfl s3
  replace s4 := hn.keep _ _ rfl s4
  replace s5 := hn.keep _ _ rfl s5
  replace s6 := hn.keep _ _ rfl s6
  replace s8 := hn.keep _ _ rfl s8
  replace s9 := hn.keep _ _ rfl s9
  replace s10 := hn.keep _ _ rfl s10
  replace s12 := hn.keep _ _ rfl s12
  replace s14 := hn.keep _ _ rfl s14
  replace s15 := hn.keep _ _ rfl s15
  replace s16 := hn.keep _ _ rfl s16
  replace s17 := hn.keep _ _ rfl s17
  replace s18 := hn.keep _ _ rfl s18
  replace s91 := hn.keep _ _ rfl s91
  clear s92
  have s93 := hn.new
  clear hn
  refine n_pure (v := Value.slice (a2) 2 c2) (d := 94) (f_ldR (wanted_some rfl (by kernel_rfl) s91) rfl s93.eval (fun _ h => keep D1.out h)) hsz rfl rfl ?_
  intro A6 hn
  replace hsz := hn.size
  replace hdf := hn.defers.trans hdf
  replace s3 := hn.keep _ _ rfl s3
  replace s4 := hn.keep _ _ rfl s4
  replace s5 := hn.keep _ _ rfl s5
  replace s6 := hn.keep _ _ rfl s6
  replace s8 := hn.keep _ _ rfl s8
  replace s9 := hn.keep _ _ rfl s9
  replace s10 := hn.keep _ _ rfl s10
  replace s12 := hn.keep _ _ rfl s12
  replace s14 := hn.keep _ _ rfl s14
  replace s15 := hn.keep _ _ rfl s15
  replace s16 := hn.keep _ _ rfl s16
  replace s17 := hn.keep _ _ rfl s17
  replace s18 := hn.keep _ _ rfl s18
  replace s91 := hn.keep _ _ rfl s91
  clear s93
  have s94 := hn.new
  clear hn
  refine n_pure (v := Value.slice (some ⟨PB, 0, none⟩) 3 3) (d := 95) (y_move (wanted_some rfl (by kernel_rfl) s91) rfl s4.eval) hsz rfl rfl ?_
  intro A7 hn
  replace hsz := hn.size
  replace hdf := hn.defers.trans hdf
  replace s3 := hn.keep _ _ rfl s3
  replace s4 := hn.keep _ _ rfl s4
  replace s5 := hn.keep _ _ rfl s5
  replace s6 := hn.keep _ _ rfl s6
  replace s8 := hn.keep _ _ rfl s8
  replace s9 := hn.keep _ _ rfl s9
  replace s10 := hn.keep _ _ rfl s10
  replace s12 := hn.keep _ _ rfl s12
  replace s14 := hn.keep _ _ rfl s14
  replace s15 := hn.keep _ _ rfl s15
  replace s16 := hn.keep _ _ rfl s16
  replace s17 := hn.keep _ _ rfl s17
  replace s18 := hn.keep _ _ rfl s18
  replace s91 := hn.keep _ _ rfl s91
  replace s94 := hn.keep _ _ rfl s94
  have s95 := hn.new
  clear hn
  refine n_pure (v := Value.pointer (some ⟨PB, 0, none⟩)) (d := 96) (f_idx 0 (by omega) (wanted_some rfl (by kernel_rfl) s91) rfl s95.eval rfl) hsz rfl rfl ?_
  intro A8 hn
  replace hsz := hn.size
  replace hdf := hn.defers.trans hdf
  replace s3 := hn.keep _ _ rfl s3
  replace s4 := hn.keep _ _ rfl s4
  replace s5 := hn.keep _ _ rfl s5
  replace s6 := hn.keep _ _ rfl s6
  replace s8 := hn.keep _ _ rfl s8
  replace s9 := hn.keep _ _ rfl s9
  replace s10 := hn.keep _ _ rfl s10
  replace s12 := hn.keep _ _ rfl s12
  replace s14 := hn.keep _ _ rfl s14
  replace s15 := hn.keep _ _ rfl s15
  replace s16 := hn.keep _ _ rfl s16
  replace s17 := hn.keep _ _ rfl s17
  replace s18 := hn.keep _ _ rfl s18
  replace s91 := hn.keep _ _ rfl s91
  replace s94 := hn.keep _ _ rfl s94
  clear s95
  have s96 := hn.new
  clear hn
  refine n_pure (v := Value.slice (a1) 2 c1) (d := 97) (f_ldR (wanted_some rfl (by kernel_rfl) s91) rfl s96.eval (fun _ h => keep D0.out h)) hsz rfl rfl ?_
  intro A9 hn
  replace hsz := hn.size
  replace hdf := hn.defers.trans hdf
  replace s3 := hn.keep _ _ rfl s3
  replace s4 := hn.keep _ _ rfl s4
  replace s5 := hn.keep _ _ rfl s5
  replace s6 := hn.keep _ _ rfl s6
  replace s8 := hn.keep _ _ rfl s8
  replace s9 := hn.keep _ _ rfl s9
  replace s10 := hn.keep _ _ rfl s10
  replace s12 := hn.keep _ _ rfl s12
  replace s14 := hn.keep _ _ rfl s14
  replace s15 := hn.keep _ _ rfl s15
  replace s16 := hn.keep _ _ rfl s16
  replace s17 := hn.keep _ _ rfl s17
  replace s18 := hn.keep _ _ rfl s18
  replace s91 := hn.keep _ _ rfl s91
  replace s94 := hn.keep _ _ rfl s94
  clear s96
  have s97 := hn.new
  clear hn
  refine n_alloc (v := Value.slice (some ⟨V1.heap.size, 0, none⟩) 2 2) (w' := V1.alloc (.cells #[.slice a2 2 c2, .slice a1 2 c1] 23)) (d := 98) (by kernel_rfl) (wanted_some rfl (by kernel_rfl) s91) (run_slice rfl (by simp only [List.map_toArray, List.map_cons, List.map_nil, s94.eval, s97.eval]) (f_r2 _ _ _ _ _ _ _)) (hS.new _) hsz rfl rfl ?_
  intro A10 hn
  have N2 : Row (V1.alloc (.cells #[.slice a2 2 c2, .slice a1 2 c1] 23)) (some ⟨V1.heap.size, 0, none⟩) 2 [pB, pA] := rowR2 (x := pB) (y := pA) (R2.out.below hS) (R1.out.below hS) 23
  have hq : Below V1.heap.size V1 (V1.alloc (.cells #[.slice a2 2 c2, .slice a1 2 c1] 23)) := (Below.refl _ _).new _
  replace hS := hS.new (.cells #[.slice a2 2 c2, .slice a1 2 c1] 23)
  clear hq
  obtain ⟨V2, hW⟩ : ∃ V, V1.alloc (.cells #[.slice a2 2 c2, .slice a1 2 c1] 23) = V := ⟨_, rfl⟩
  obtain ⟨G2, hG⟩ : ∃ V, V1.heap.size = V := ⟨_, rfl⟩
  rw [hW] at hS N2  ⊢
  rw [hG] at N2 hn
  clear hW hG
  replace hsz := hn.size
  replace hdf := hn.defers.trans hdf
  replace s3 := hn.keep _ _ rfl s3
  replace s4 := hn.keep _ _ rfl s4
  replace s5 := hn.keep _ _ rfl s5
  replace s6 := hn.keep _ _ rfl s6
  replace s8 := hn.keep _ _ rfl s8
  replace s9 := hn.keep _ _ rfl s9
  replace s10 := hn.keep _ _ rfl s10
  replace s12 := hn.keep _ _ rfl s12
  replace s14 := hn.keep _ _ rfl s14
  replace s15 := hn.keep _ _ rfl s15
  replace s16 := hn.keep _ _ rfl s16
  replace s17 := hn.keep _ _ rfl s17
  replace s18 := hn.keep _ _ rfl s18
  replace s91 := hn.keep _ _ rfl s91
  clear s94 s97
  have s98 := hn.new
  clear hn
  refine n_call (f := 8) (args := #[Value.slice (some ⟨G2, 0, none⟩) 2 2]) (R := fun v w' => v = Value.bool false ∧ Below V2.heap.size V2 w') (d := 99) (by kernel_rfl) (wanted_some rfl (by kernel_rfl) s91) (run_call rfl rfl (fun _ _ => by kernel_rfl) (by simp only [List.map_toArray, List.map_cons, List.map_nil, ev_const, s98.eval])) ((frightL_is (n := 2) (b := false) rfl N2 k12_turn).mono fun e w' ⟨he, hb⟩ => ⟨_, he, rfl, hb⟩) hsz rfl rfl ?_
  rintro _ V3 ⟨rfl, hq⟩
  refine ⟨hS.then hq, fun A11 hn => ?_⟩
  replace hS := hS.then hq
  replace N2 := N2.below hq
  clear hq
  replace hsz := hn.size
  replace hdf := hn.defers.trans hdf
  replace s3 := hn.keep _ _ rfl s3
  replace s4 := hn.keep _ _ rfl s4
  replace s5 := hn.keep _ _ rfl s5
  replace s6 := hn.keep _ _ rfl s6
  replace s8 := hn.keep _ _ rfl s8
  replace s9 := hn.keep _ _ rfl s9
  replace s10 := hn.keep _ _ rfl s10
  replace s12 := hn.keep _ _ rfl s12
  replace s14 := hn.keep _ _ rfl s14
  replace s15 := hn.keep _ _ rfl s15
  replace s16 := hn.keep _ _ rfl s16
  replace s17 := hn.keep _ _ rfl s17
  replace s18 := hn.keep _ _ rfl s18
  replace s91 := hn.keep _ _ rfl s91
  clear s98
  have s99 := hn.new
  clear hn
  refine n_pure (v := Value.bool true) (d := 100) (f_not (b := false) (wanted_some rfl (by kernel_rfl) s91) rfl s99.eval) hsz rfl rfl ?_
  intro A12 hn
  replace hsz := hn.size
  replace hdf := hn.defers.trans hdf
  replace s3 := hn.keep _ _ rfl s3
  replace s4 := hn.keep _ _ rfl s4
  replace s5 := hn.keep _ _ rfl s5
  replace s6 := hn.keep _ _ rfl s6
  replace s8 := hn.keep _ _ rfl s8
  replace s9 := hn.keep _ _ rfl s9
  replace s10 := hn.keep _ _ rfl s10
  replace s12 := hn.keep _ _ rfl s12
  replace s14 := hn.keep _ _ rfl s14
  replace s15 := hn.keep _ _ rfl s15
  replace s16 := hn.keep _ _ rfl s16
  replace s17 := hn.keep _ _ rfl s17
  replace s18 := hn.keep _ _ rfl s18
  replace s91 := hn.keep _ _ rfl s91
  clear s99
  have s100 := hn.new
  clear hn
  refine n_pure (v := Value.bool true) (d := 101) (y_pickT (wanted_none rfl) rfl s91.eval s100.eval) hsz rfl rfl ?_
  intro A13 hn
  replace hsz := hn.size
  replace hdf := hn.defers.trans hdf
  replace s3 := hn.keep _ _ rfl s3
  replace s4 := hn.keep _ _ rfl s4
  replace s5 := hn.keep _ _ rfl s5
  replace s6 := hn.keep _ _ rfl s6
  replace s8 := hn.keep _ _ rfl s8
  replace s9 := hn.keep _ _ rfl s9
  replace s10 := hn.keep _ _ rfl s10
  replace s12 := hn.keep _ _ rfl s12
  replace s14 := hn.keep _ _ rfl s14
  replace s15 := hn.keep _ _ rfl s15
  replace s16 := hn.keep _ _ rfl s16
  replace s17 := hn.keep _ _ rfl s17
  replace s18 := hn.keep _ _ rfl s18
  clear s91 s100
  have s101 := hn.new
  clear hn
  refine n_pure (v := Value.bool true) (d := 102) (y_move (wanted_none rfl) rfl s101.eval) hsz rfl rfl ?_
  intro A14 hn
  replace hsz := hn.size
  replace hdf := hn.defers.trans hdf
  replace s3 := hn.keep _ _ rfl s3
  replace s4 := hn.keep _ _ rfl s4
  replace s5 := hn.keep _ _ rfl s5
  replace s6 := hn.keep _ _ rfl s6
  replace s8 := hn.keep _ _ rfl s8
  replace s9 := hn.keep _ _ rfl s9
  replace s10 := hn.keep _ _ rfl s10
  replace s12 := hn.keep _ _ rfl s12
  replace s14 := hn.keep _ _ rfl s14
  replace s15 := hn.keep _ _ rfl s15
  replace s16 := hn.keep _ _ rfl s16
  replace s17 := hn.keep _ _ rfl s17
  replace s18 := hn.keep _ _ rfl s18
  clear s101
  have s102 := hn.new
  clear hn
  refine n_pure (v := Value.slice (some ⟨PB, 0, none⟩) 3 3) (d := 103) (y_move (wanted_some rfl (by kernel_rfl) s102) rfl s4.eval) hsz rfl rfl ?_
  intro A15 hn
  replace hsz := hn.size
  replace hdf := hn.defers.trans hdf
  replace s3 := hn.keep _ _ rfl s3
  replace s4 := hn.keep _ _ rfl s4
  replace s5 := hn.keep _ _ rfl s5
  replace s6 := hn.keep _ _ rfl s6
  replace s8 := hn.keep _ _ rfl s8
  replace s9 := hn.keep _ _ rfl s9
  replace s10 := hn.keep _ _ rfl s10
  replace s12 := hn.keep _ _ rfl s12
  replace s14 := hn.keep _ _ rfl s14
  replace s15 := hn.keep _ _ rfl s15
  replace s16 := hn.keep _ _ rfl s16
  replace s17 := hn.keep _ _ rfl s17
  replace s18 := hn.keep _ _ rfl s18
  replace s102 := hn.keep _ _ rfl s102
  have s103 := hn.new
  clear hn
  refine n_pure (v := Value.pointer (some ⟨PB, 0, none⟩)) (d := 104) (f_idx 0 (by omega) (wanted_some rfl (by kernel_rfl) s102) rfl s103.eval rfl) hsz rfl rfl ?_
  intro A16 hn
  replace hsz := hn.size
  replace hdf := hn.defers.trans hdf
  replace s3 := hn.keep _ _ rfl s3
  replace s4 := hn.keep _ _ rfl s4
  replace s5 := hn.keep _ _ rfl s5
  replace s6 := hn.keep _ _ rfl s6
  replace s8 := hn.keep _ _ rfl s8
  replace s9 := hn.keep _ _ rfl s9
  replace s10 := hn.keep _ _ rfl s10
  replace s12 := hn.keep _ _ rfl s12
  replace s14 := hn.keep _ _ rfl s14
  replace s15 := hn.keep _ _ rfl s15
  replace s16 := hn.keep _ _ rfl s16
  replace s17 := hn.keep _ _ rfl s17
  replace s18 := hn.keep _ _ rfl s18
  replace s102 := hn.keep _ _ rfl s102
  clear s103
  have s104 := hn.new
  clear hn
  refine n_pure (v := Value.slice (a1) 2 c1) (d := 105) (f_ldR (wanted_some rfl (by kernel_rfl) s102) rfl s104.eval (fun _ h => keep D0.out h)) hsz rfl rfl ?_
  intro A17 hn
  replace hsz := hn.size
  replace hdf := hn.defers.trans hdf
  replace s3 := hn.keep _ _ rfl s3
  replace s4 := hn.keep _ _ rfl s4
  replace s5 := hn.keep _ _ rfl s5
  replace s6 := hn.keep _ _ rfl s6
  replace s8 := hn.keep _ _ rfl s8
  replace s9 := hn.keep _ _ rfl s9
  replace s10 := hn.keep _ _ rfl s10
  replace s12 := hn.keep _ _ rfl s12
  replace s14 := hn.keep _ _ rfl s14
  replace s15 := hn.keep _ _ rfl s15
  replace s16 := hn.keep _ _ rfl s16
  replace s17 := hn.keep _ _ rfl s17
  replace s18 := hn.keep _ _ rfl s18
  replace s102 := hn.keep _ _ rfl s102
  clear s104
  have s105 := hn.new
  clear hn
  refine n_pure (v := Value.slice (some ⟨PB, 0, none⟩) 3 3) (d := 106) (y_move (wanted_some rfl (by kernel_rfl) s102) rfl s4.eval) hsz rfl rfl ?_
  intro A18 hn
  replace hsz := hn.size
  replace hdf := hn.defers.trans hdf
  replace s3 := hn.keep _ _ rfl s3
  replace s4 := hn.keep _ _ rfl s4
  replace s5 := hn.keep _ _ rfl s5
  replace s6 := hn.keep _ _ rfl s6
  replace s8 := hn.keep _ _ rfl s8
  replace s9 := hn.keep _ _ rfl s9
  replace s10 := hn.keep _ _ rfl s10
  replace s12 := hn.keep _ _ rfl s12
  replace s14 := hn.keep _ _ rfl s14
  replace s15 := hn.keep _ _ rfl s15
  replace s16 := hn.keep _ _ rfl s16
  replace s17 := hn.keep _ _ rfl s17
  replace s18 := hn.keep _ _ rfl s18
  replace s102 := hn.keep _ _ rfl s102
  replace s105 := hn.keep _ _ rfl s105
  have s106 := hn.new
  clear hn
  refine n_pure (v := Value.pointer (some ⟨PB, 0, none⟩)) (d := 107) (f_idx 0 (by omega) (wanted_some rfl (by kernel_rfl) s102) rfl s106.eval rfl) hsz rfl rfl ?_
  intro A19 hn
  replace hsz := hn.size
  replace hdf := hn.defers.trans hdf
  replace s3 := hn.keep _ _ rfl s3
  replace s4 := hn.keep _ _ rfl s4
  replace s5 := hn.keep _ _ rfl s5
  replace s6 := hn.keep _ _ rfl s6
  replace s8 := hn.keep _ _ rfl s8
  replace s9 := hn.keep _ _ rfl s9
  replace s10 := hn.keep _ _ rfl s10
  replace s12 := hn.keep _ _ rfl s12
  replace s14 := hn.keep _ _ rfl s14
  replace s15 := hn.keep _ _ rfl s15
  replace s16 := hn.keep _ _ rfl s16
  replace s17 := hn.keep _ _ rfl s17
  replace s18 := hn.keep _ _ rfl s18
  replace s102 := hn.keep _ _ rfl s102
  replace s105 := hn.keep _ _ rfl s105
  clear s106
  have s107 := hn.new
  clear hn
  refine n_pure (v := Value.slice (a1) 2 c1) (d := 108) (f_ldR (wanted_some rfl (by kernel_rfl) s102) rfl s107.eval (fun _ h => keep D0.out h)) hsz rfl rfl ?_
  intro A20 hn
  replace hsz := hn.size
  replace hdf := hn.defers.trans hdf
  replace s3 := hn.keep _ _ rfl s3
  replace s4 := hn.keep _ _ rfl s4
  replace s5 := hn.keep _ _ rfl s5
  replace s6 := hn.keep _ _ rfl s6
  replace s8 := hn.keep _ _ rfl s8
  replace s9 := hn.keep _ _ rfl s9
  replace s10 := hn.keep _ _ rfl s10
  replace s12 := hn.keep _ _ rfl s12
  replace s14 := hn.keep _ _ rfl s14
  replace s15 := hn.keep _ _ rfl s15
  replace s16 := hn.keep _ _ rfl s16
  replace s17 := hn.keep _ _ rfl s17
  replace s18 := hn.keep _ _ rfl s18
  replace s102 := hn.keep _ _ rfl s102
  replace s105 := hn.keep _ _ rfl s105
  clear s107
  have s108 := hn.new
  clear hn
  refine n_alloc (v := Value.slice (some ⟨V3.heap.size, 0, none⟩) 2 2) (w' := V3.alloc (.cells #[.slice a1 2 c1, .slice a1 2 c1] 23)) (d := 109) (by kernel_rfl) (wanted_some rfl (by kernel_rfl) s102) (run_slice rfl (by simp only [List.map_toArray, List.map_cons, List.map_nil, s105.eval, s108.eval]) (f_r2 _ _ _ _ _ _ _)) (hS.new _) hsz rfl rfl ?_
  intro A21 hn
  have N4 : Row (V3.alloc (.cells #[.slice a1 2 c1, .slice a1 2 c1] 23)) (some ⟨V3.heap.size, 0, none⟩) 2 [pA, pA] := rowR2 (x := pA) (y := pA) (R1.out.below hS) (R1.out.below hS) 23
  have hq : Below V3.heap.size V3 (V3.alloc (.cells #[.slice a1 2 c1, .slice a1 2 c1] 23)) := (Below.refl _ _).new _
  replace N2 := N2.below hq
  replace hS := hS.new (.cells #[.slice a1 2 c1, .slice a1 2 c1] 23)
  clear hq
  obtain ⟨V4, hW⟩ : ∃ V, V3.alloc (.cells #[.slice a1 2 c1, .slice a1 2 c1] 23) = V := ⟨_, rfl⟩
  obtain ⟨G4, hG⟩ : ∃ V, V3.heap.size = V := ⟨_, rfl⟩
  rw [hW] at hS N4 N2 ⊢
  rw [hG] at N4 hn
  clear hW hG
  replace hsz := hn.size
  replace hdf := hn.defers.trans hdf
  replace s3 := hn.keep _ _ rfl s3
  replace s4 := hn.keep _ _ rfl s4
  replace s5 := hn.keep _ _ rfl s5
  replace s6 := hn.keep _ _ rfl s6
  replace s8 := hn.keep _ _ rfl s8
  replace s9 := hn.keep _ _ rfl s9
  replace s10 := hn.keep _ _ rfl s10
  replace s12 := hn.keep _ _ rfl s12
  replace s14 := hn.keep _ _ rfl s14
  replace s15 := hn.keep _ _ rfl s15
  replace s16 := hn.keep _ _ rfl s16
  replace s17 := hn.keep _ _ rfl s17
  replace s18 := hn.keep _ _ rfl s18
  replace s102 := hn.keep _ _ rfl s102
  clear s105 s108
  have s109 := hn.new
  clear hn
  refine n_call (f := 8) (args := #[Value.slice (some ⟨G4, 0, none⟩) 2 2]) (R := fun v w' => v = Value.bool false ∧ Below V4.heap.size V4 w') (d := 110) (by kernel_rfl) (wanted_some rfl (by kernel_rfl) s102) (run_call rfl rfl (fun _ _ => by kernel_rfl) (by simp only [List.map_toArray, List.map_cons, List.map_nil, ev_const, s109.eval])) ((frightL_is (n := 2) (b := false) rfl N4 k12_same).mono fun e w' ⟨he, hb⟩ => ⟨_, he, rfl, hb⟩) hsz rfl rfl ?_
  rintro _ V5 ⟨rfl, hq⟩
  refine ⟨hS.then hq, fun A22 hn => ?_⟩
  replace hS := hS.then hq
  replace N2 := N2.below hq
  replace N4 := N4.below hq
  clear hq
  replace hsz := hn.size
  replace hdf := hn.defers.trans hdf
  replace s3 := hn.keep _ _ rfl s3
  replace s4 := hn.keep _ _ rfl s4
  replace s5 := hn.keep _ _ rfl s5
  replace s6 := hn.keep _ _ rfl s6
  replace s8 := hn.keep _ _ rfl s8
  replace s9 := hn.keep _ _ rfl s9
  replace s10 := hn.keep _ _ rfl s10
  replace s12 := hn.keep _ _ rfl s12
  replace s14 := hn.keep _ _ rfl s14
  replace s15 := hn.keep _ _ rfl s15
  replace s16 := hn.keep _ _ rfl s16
  replace s17 := hn.keep _ _ rfl s17
  replace s18 := hn.keep _ _ rfl s18
  replace s102 := hn.keep _ _ rfl s102
  clear s109
  have s110 := hn.new
  clear hn
  refine n_pure (v := Value.bool true) (d := 111) (f_not (b := false) (wanted_some rfl (by kernel_rfl) s102) rfl s110.eval) hsz rfl rfl ?_
  intro A23 hn
  replace hsz := hn.size
  replace hdf := hn.defers.trans hdf
  replace s3 := hn.keep _ _ rfl s3
  replace s4 := hn.keep _ _ rfl s4
  replace s5 := hn.keep _ _ rfl s5
  replace s6 := hn.keep _ _ rfl s6
  replace s8 := hn.keep _ _ rfl s8
  replace s9 := hn.keep _ _ rfl s9
  replace s10 := hn.keep _ _ rfl s10
  replace s12 := hn.keep _ _ rfl s12
  replace s14 := hn.keep _ _ rfl s14
  replace s15 := hn.keep _ _ rfl s15
  replace s16 := hn.keep _ _ rfl s16
  replace s17 := hn.keep _ _ rfl s17
  replace s18 := hn.keep _ _ rfl s18
  replace s102 := hn.keep _ _ rfl s102
  clear s110
  have s111 := hn.new
  clear hn
  refine n_pure (v := Value.bool true) (d := 112) (y_pickT (wanted_none rfl) rfl s102.eval s111.eval) hsz rfl rfl ?_
  intro A24 hn
  replace hsz := hn.size
  replace hdf := hn.defers.trans hdf
  replace s3 := hn.keep _ _ rfl s3
  replace s4 := hn.keep _ _ rfl s4
  replace s5 := hn.keep _ _ rfl s5
  replace s6 := hn.keep _ _ rfl s6
  replace s8 := hn.keep _ _ rfl s8
  replace s9 := hn.keep _ _ rfl s9
  replace s10 := hn.keep _ _ rfl s10
  replace s12 := hn.keep _ _ rfl s12
  replace s14 := hn.keep _ _ rfl s14
  replace s15 := hn.keep _ _ rfl s15
  replace s16 := hn.keep _ _ rfl s16
  replace s17 := hn.keep _ _ rfl s17
  replace s18 := hn.keep _ _ rfl s18
  clear s102 s111
  have s112 := hn.new
  clear hn
  refine n_pure (v := Value.bool true) (d := 113) (y_move (wanted_none rfl) rfl s112.eval) hsz rfl rfl ?_
  intro A25 hn
  replace hsz := hn.size
  replace hdf := hn.defers.trans hdf
  replace s3 := hn.keep _ _ rfl s3
  replace s4 := hn.keep _ _ rfl s4
  replace s5 := hn.keep _ _ rfl s5
  replace s6 := hn.keep _ _ rfl s6
  replace s8 := hn.keep _ _ rfl s8
  replace s9 := hn.keep _ _ rfl s9
  replace s10 := hn.keep _ _ rfl s10
  replace s12 := hn.keep _ _ rfl s12
  replace s14 := hn.keep _ _ rfl s14
  replace s15 := hn.keep _ _ rfl s15
  replace s16 := hn.keep _ _ rfl s16
  replace s17 := hn.keep _ _ rfl s17
  replace s18 := hn.keep _ _ rfl s18
  clear s112
  have s113 := hn.new
  clear hn
  refine n_pure (v := Value.slice (some ⟨PB, 0, none⟩) 3 3) (d := 114) (y_move (wanted_some rfl (by kernel_rfl) s113) rfl s4.eval) hsz rfl rfl ?_
  intro A26 hn
  replace hsz := hn.size
  replace hdf := hn.defers.trans hdf
  replace s3 := hn.keep _ _ rfl s3
  replace s4 := hn.keep _ _ rfl s4
  replace s5 := hn.keep _ _ rfl s5
  replace s6 := hn.keep _ _ rfl s6
  replace s8 := hn.keep _ _ rfl s8
  replace s9 := hn.keep _ _ rfl s9
  replace s10 := hn.keep _ _ rfl s10
  replace s12 := hn.keep _ _ rfl s12
  replace s14 := hn.keep _ _ rfl s14
  replace s15 := hn.keep _ _ rfl s15
  replace s16 := hn.keep _ _ rfl s16
  replace s17 := hn.keep _ _ rfl s17
  replace s18 := hn.keep _ _ rfl s18
  replace s113 := hn.keep _ _ rfl s113
  have s114 := hn.new
  clear hn
  refine n_pure (v := Value.pointer (some ⟨PB, 2, none⟩)) (d := 115) (f_idx 2 (by omega) (wanted_some rfl (by kernel_rfl) s113) rfl s114.eval rfl) hsz rfl rfl ?_
  intro A27 hn
  replace hsz := hn.size
  replace hdf := hn.defers.trans hdf
  replace s3 := hn.keep _ _ rfl s3
  replace s4 := hn.keep _ _ rfl s4
  replace s5 := hn.keep _ _ rfl s5
  replace s6 := hn.keep _ _ rfl s6
  replace s8 := hn.keep _ _ rfl s8
  replace s9 := hn.keep _ _ rfl s9
  replace s10 := hn.keep _ _ rfl s10
  replace s12 := hn.keep _ _ rfl s12
  replace s14 := hn.keep _ _ rfl s14
  replace s15 := hn.keep _ _ rfl s15
  replace s16 := hn.keep _ _ rfl s16
  replace s17 := hn.keep _ _ rfl s17
  replace s18 := hn.keep _ _ rfl s18
  replace s113 := hn.keep _ _ rfl s113
  clear s114
  have s115 := hn.new
  clear hn
  refine n_pure (v := Value.slice (a3) 3 c3) (d := 116) (f_ldR (wanted_some rfl (by kernel_rfl) s113) rfl s115.eval (fun _ h => keep D2.out h)) hsz rfl rfl ?_
  intro A28 hn
  replace hsz := hn.size
  replace hdf := hn.defers.trans hdf
  replace s3 := hn.keep _ _ rfl s3
  replace s4 := hn.keep _ _ rfl s4
  replace s5 := hn.keep _ _ rfl s5
  replace s6 := hn.keep _ _ rfl s6
  replace s8 := hn.keep _ _ rfl s8
  replace s9 := hn.keep _ _ rfl s9
  replace s10 := hn.keep _ _ rfl s10
  replace s12 := hn.keep _ _ rfl s12
  replace s14 := hn.keep _ _ rfl s14
  replace s15 := hn.keep _ _ rfl s15
  replace s16 := hn.keep _ _ rfl s16
  replace s17 := hn.keep _ _ rfl s17
  replace s18 := hn.keep _ _ rfl s18
  replace s113 := hn.keep _ _ rfl s113
  clear s115
  have s116 := hn.new
  clear hn
  refine n_call (f := 6) (args := #[Value.slice (a3) 3 c3]) (R := fun v w' => v = Value.bool true ∧ Below V5.heap.size V5 w') (d := 117) (by kernel_rfl) (wanted_some rfl (by kernel_rfl) s113) (run_call rfl rfl (fun _ _ => by kernel_rfl) (by simp only [List.map_toArray, List.map_cons, List.map_nil, ev_const, s116.eval])) ((factL_is (k := 3) (b := true) rfl (R3.out.below hS) qAA_fact).mono fun e w' ⟨he, hb⟩ => ⟨_, he, rfl, hb⟩) hsz rfl rfl ?_
  rintro _ V6 ⟨rfl, hq⟩
  refine ⟨hS.then hq, fun A29 hn => ?_⟩
  replace hS := hS.then hq
  replace N2 := N2.below hq
  replace N4 := N4.below hq
  clear hq
  replace hsz := hn.size
  replace hdf := hn.defers.trans hdf
  replace s3 := hn.keep _ _ rfl s3
  replace s4 := hn.keep _ _ rfl s4
  replace s5 := hn.keep _ _ rfl s5
  replace s6 := hn.keep _ _ rfl s6
  replace s8 := hn.keep _ _ rfl s8
  replace s9 := hn.keep _ _ rfl s9
  replace s10 := hn.keep _ _ rfl s10
  replace s12 := hn.keep _ _ rfl s12
  replace s14 := hn.keep _ _ rfl s14
  replace s15 := hn.keep _ _ rfl s15
  replace s16 := hn.keep _ _ rfl s16
  replace s17 := hn.keep _ _ rfl s17
  replace s18 := hn.keep _ _ rfl s18
  replace s113 := hn.keep _ _ rfl s113
  clear s116
  have s117 := hn.new
  clear hn
  refine n_pure (v := Value.bool true) (d := 118) (y_pickT (wanted_none rfl) rfl s113.eval s117.eval) hsz rfl rfl ?_
  intro A30 hn
  replace hsz := hn.size
  replace hdf := hn.defers.trans hdf
  replace s3 := hn.keep _ _ rfl s3
  replace s4 := hn.keep _ _ rfl s4
  replace s5 := hn.keep _ _ rfl s5
  replace s6 := hn.keep _ _ rfl s6
  replace s8 := hn.keep _ _ rfl s8
  replace s9 := hn.keep _ _ rfl s9
  replace s10 := hn.keep _ _ rfl s10
  replace s12 := hn.keep _ _ rfl s12
  replace s14 := hn.keep _ _ rfl s14
  replace s15 := hn.keep _ _ rfl s15
  replace s16 := hn.keep _ _ rfl s16
  replace s17 := hn.keep _ _ rfl s17
  replace s18 := hn.keep _ _ rfl s18
  clear s113 s117
  have s118 := hn.new
  clear hn
  refine n_pure (v := Value.bool true) (d := 119) (y_move (wanted_none rfl) rfl s118.eval) hsz rfl rfl ?_
  intro A31 hn
  replace hsz := hn.size
  replace hdf := hn.defers.trans hdf
  replace s3 := hn.keep _ _ rfl s3
  replace s4 := hn.keep _ _ rfl s4
  replace s5 := hn.keep _ _ rfl s5
  replace s6 := hn.keep _ _ rfl s6
  replace s8 := hn.keep _ _ rfl s8
  replace s9 := hn.keep _ _ rfl s9
  replace s10 := hn.keep _ _ rfl s10
  replace s12 := hn.keep _ _ rfl s12
  replace s14 := hn.keep _ _ rfl s14
  replace s15 := hn.keep _ _ rfl s15
  replace s16 := hn.keep _ _ rfl s16
  replace s17 := hn.keep _ _ rfl s17
  replace s18 := hn.keep _ _ rfl s18
  clear s118
  have s119 := hn.new
  clear hn
  refine n_call (f := 6) (args := #[Value.slice (none) 0 0]) (R := fun v w' => v = Value.bool false ∧ Below V6.heap.size V6 w') (d := 120) (by kernel_rfl) (wanted_some rfl (by kernel_rfl) s119) (run_call rfl rfl (fun _ _ => by kernel_rfl) (by simp only [List.map_toArray, List.map_cons, List.map_nil, ev_const])) ((factL_is (k := 0) (t := []) (b := false) rfl (nilRow _) nil_no).mono fun e w' ⟨he, hb⟩ => ⟨_, he, rfl, hb⟩) hsz rfl rfl ?_
  rintro _ V7 ⟨rfl, hq⟩
  refine ⟨hS.then hq, fun A32 hn => ?_⟩
  replace hS := hS.then hq
  replace N2 := N2.below hq
  replace N4 := N4.below hq
  clear hq
  replace hsz := hn.size
  replace hdf := hn.defers.trans hdf
  replace s3 := hn.keep _ _ rfl s3
  replace s4 := hn.keep _ _ rfl s4
  replace s5 := hn.keep _ _ rfl s5
  replace s6 := hn.keep _ _ rfl s6
  replace s8 := hn.keep _ _ rfl s8
  replace s9 := hn.keep _ _ rfl s9
  replace s10 := hn.keep _ _ rfl s10
  replace s12 := hn.keep _ _ rfl s12
  replace s14 := hn.keep _ _ rfl s14
  replace s15 := hn.keep _ _ rfl s15
  replace s16 := hn.keep _ _ rfl s16
  replace s17 := hn.keep _ _ rfl s17
  replace s18 := hn.keep _ _ rfl s18
  replace s119 := hn.keep _ _ rfl s119
  have s120 := hn.new
  clear hn
  refine n_pure (v := Value.bool true) (d := 121) (f_not (b := false) (wanted_some rfl (by kernel_rfl) s119) rfl s120.eval) hsz rfl rfl ?_
  intro A33 hn
  replace hsz := hn.size
  replace hdf := hn.defers.trans hdf
  replace s3 := hn.keep _ _ rfl s3
  replace s4 := hn.keep _ _ rfl s4
  replace s5 := hn.keep _ _ rfl s5
  replace s6 := hn.keep _ _ rfl s6
  replace s8 := hn.keep _ _ rfl s8
  replace s9 := hn.keep _ _ rfl s9
  replace s10 := hn.keep _ _ rfl s10
  replace s12 := hn.keep _ _ rfl s12
  replace s14 := hn.keep _ _ rfl s14
  replace s15 := hn.keep _ _ rfl s15
  replace s16 := hn.keep _ _ rfl s16
  replace s17 := hn.keep _ _ rfl s17
  replace s18 := hn.keep _ _ rfl s18
  replace s119 := hn.keep _ _ rfl s119
  clear s120
  have s121 := hn.new
  clear hn
  refine n_pure (v := Value.bool true) (d := 122) (y_pickT (wanted_none rfl) rfl s119.eval s121.eval) hsz rfl rfl ?_
  intro A34 hn
  replace hsz := hn.size
  replace hdf := hn.defers.trans hdf
  replace s3 := hn.keep _ _ rfl s3
  replace s4 := hn.keep _ _ rfl s4
  replace s5 := hn.keep _ _ rfl s5
  replace s6 := hn.keep _ _ rfl s6
  replace s8 := hn.keep _ _ rfl s8
  replace s9 := hn.keep _ _ rfl s9
  replace s10 := hn.keep _ _ rfl s10
  replace s12 := hn.keep _ _ rfl s12
  replace s14 := hn.keep _ _ rfl s14
  replace s15 := hn.keep _ _ rfl s15
  replace s16 := hn.keep _ _ rfl s16
  replace s17 := hn.keep _ _ rfl s17
  replace s18 := hn.keep _ _ rfl s18
  clear s119 s121
  have s122 := hn.new
  clear hn
  refine n_pure (v := Value.bool true) (d := 123) (y_move (wanted_none rfl) rfl s122.eval) hsz rfl rfl ?_
  intro A35 hn
  replace hsz := hn.size
  replace hdf := hn.defers.trans hdf
  replace s3 := hn.keep _ _ rfl s3
  replace s4 := hn.keep _ _ rfl s4
  replace s5 := hn.keep _ _ rfl s5
  replace s6 := hn.keep _ _ rfl s6
  replace s8 := hn.keep _ _ rfl s8
  replace s9 := hn.keep _ _ rfl s9
  replace s10 := hn.keep _ _ rfl s10
  replace s12 := hn.keep _ _ rfl s12
  replace s14 := hn.keep _ _ rfl s14
  replace s15 := hn.keep _ _ rfl s15
  replace s16 := hn.keep _ _ rfl s16
  replace s17 := hn.keep _ _ rfl s17
  replace s18 := hn.keep _ _ rfl s18
  clear s122
  have s123 := hn.new
  clear hn
  refine n_pure (v := Value.slice (a4) 3 c4) (d := 124) (y_move (wanted_some rfl (by kernel_rfl) s123) rfl s5.eval) hsz rfl rfl ?_
  intro A36 hn
  replace hsz := hn.size
  replace hdf := hn.defers.trans hdf
  replace s3 := hn.keep _ _ rfl s3
  replace s4 := hn.keep _ _ rfl s4
  replace s6 := hn.keep _ _ rfl s6
  replace s8 := hn.keep _ _ rfl s8
  replace s9 := hn.keep _ _ rfl s9
  replace s10 := hn.keep _ _ rfl s10
  replace s12 := hn.keep _ _ rfl s12
  replace s14 := hn.keep _ _ rfl s14
  replace s15 := hn.keep _ _ rfl s15
  replace s16 := hn.keep _ _ rfl s16
  replace s17 := hn.keep _ _ rfl s17
  replace s18 := hn.keep _ _ rfl s18
  replace s123 := hn.keep _ _ rfl s123
  clear s5
  have s124 := hn.new
  clear hn
  refine n_pure (v := Value.slice (some ⟨PB, 0, none⟩) 3 3) (d := 125) (y_move (wanted_some rfl (by kernel_rfl) s123) rfl s4.eval) hsz rfl rfl ?_
  intro A37 hn
  replace hsz := hn.size
  replace hdf := hn.defers.trans hdf
  replace s3 := hn.keep _ _ rfl s3
  replace s4 := hn.keep _ _ rfl s4
  replace s6 := hn.keep _ _ rfl s6
  replace s8 := hn.keep _ _ rfl s8
  replace s9 := hn.keep _ _ rfl s9
  replace s10 := hn.keep _ _ rfl s10
  replace s12 := hn.keep _ _ rfl s12
  replace s14 := hn.keep _ _ rfl s14
  replace s15 := hn.keep _ _ rfl s15
  replace s16 := hn.keep _ _ rfl s16
  replace s17 := hn.keep _ _ rfl s17
  replace s18 := hn.keep _ _ rfl s18
  replace s123 := hn.keep _ _ rfl s123
  replace s124 := hn.keep _ _ rfl s124
  have s125 := hn.new
  clear hn
  refine n_call (f := 19) (args := #[Value.slice (a4) 3 c4, Value.slice (some ⟨PB, 0, none⟩) 3 3]) (R := fun v w' => v = Value.bool true ∧ Below V7.heap.size V7 w') (d := 126) (by kernel_rfl) (wanted_some rfl (by kernel_rfl) s123) (run_call rfl rfl (fun _ _ => by kernel_rfl) (by simp only [List.map_toArray, List.map_cons, List.map_nil, ev_const, s124.eval, s125.eval])) ((same12_is (b := true) (n := 3) (k := 3) rfl (RM.out.below hS) rfl (RL.out.below hS) (by decide +kernel)).mono fun e w' ⟨he, hb⟩ => ⟨_, he, rfl, hb⟩) hsz rfl rfl ?_
  rintro _ V8 ⟨rfl, hq⟩
  refine ⟨hS.then hq, fun A38 hn => ?_⟩
  replace hS := hS.then hq
  replace N2 := N2.below hq
  replace N4 := N4.below hq
  clear hq
  replace hsz := hn.size
  replace hdf := hn.defers.trans hdf
  replace s3 := hn.keep _ _ rfl s3
  replace s4 := hn.keep _ _ rfl s4
  replace s6 := hn.keep _ _ rfl s6
  replace s8 := hn.keep _ _ rfl s8
  replace s9 := hn.keep _ _ rfl s9
  replace s10 := hn.keep _ _ rfl s10
  replace s12 := hn.keep _ _ rfl s12
  replace s14 := hn.keep _ _ rfl s14
  replace s15 := hn.keep _ _ rfl s15
  replace s16 := hn.keep _ _ rfl s16
  replace s17 := hn.keep _ _ rfl s17
  replace s18 := hn.keep _ _ rfl s18
  replace s123 := hn.keep _ _ rfl s123
  clear s124 s125
  have s126 := hn.new
  clear hn
  refine n_pure (v := Value.bool true) (d := 127) (y_pickT (wanted_none rfl) rfl s123.eval s126.eval) hsz rfl rfl ?_
  intro A39 hn
  replace hsz := hn.size
  replace hdf := hn.defers.trans hdf
  replace s3 := hn.keep _ _ rfl s3
  replace s4 := hn.keep _ _ rfl s4
  replace s6 := hn.keep _ _ rfl s6
  replace s8 := hn.keep _ _ rfl s8
  replace s9 := hn.keep _ _ rfl s9
  replace s10 := hn.keep _ _ rfl s10
  replace s12 := hn.keep _ _ rfl s12
  replace s14 := hn.keep _ _ rfl s14
  replace s15 := hn.keep _ _ rfl s15
  replace s16 := hn.keep _ _ rfl s16
  replace s17 := hn.keep _ _ rfl s17
  replace s18 := hn.keep _ _ rfl s18
  clear s123 s126
  have s127 := hn.new
  clear hn
  refine n_pure (v := Value.bool true) (d := 128) (y_move (wanted_none rfl) rfl s127.eval) hsz rfl rfl ?_
  intro A40 hn
  replace hsz := hn.size
  replace hdf := hn.defers.trans hdf
  replace s3 := hn.keep _ _ rfl s3
  replace s4 := hn.keep _ _ rfl s4
  replace s6 := hn.keep _ _ rfl s6
  replace s8 := hn.keep _ _ rfl s8
  replace s9 := hn.keep _ _ rfl s9
  replace s10 := hn.keep _ _ rfl s10
  replace s12 := hn.keep _ _ rfl s12
  replace s14 := hn.keep _ _ rfl s14
  replace s15 := hn.keep _ _ rfl s15
  replace s16 := hn.keep _ _ rfl s16
  replace s17 := hn.keep _ _ rfl s17
  replace s18 := hn.keep _ _ rfl s18
  clear s127
  have s128 := hn.new
  clear hn
  refine n_pure (v := Value.int .i64 0) (d := 129) (y_move (wanted_some rfl (by kernel_rfl) s128) rfl s6.eval) hsz rfl rfl ?_
  intro A41 hn
  replace hsz := hn.size
  replace hdf := hn.defers.trans hdf
  replace s3 := hn.keep _ _ rfl s3
  replace s4 := hn.keep _ _ rfl s4
  replace s8 := hn.keep _ _ rfl s8
  replace s9 := hn.keep _ _ rfl s9
  replace s10 := hn.keep _ _ rfl s10
  replace s12 := hn.keep _ _ rfl s12
  replace s14 := hn.keep _ _ rfl s14
  replace s15 := hn.keep _ _ rfl s15
  replace s16 := hn.keep _ _ rfl s16
  replace s17 := hn.keep _ _ rfl s17
  replace s18 := hn.keep _ _ rfl s18
  replace s128 := hn.keep _ _ rfl s128
  clear s6
  have s129 := hn.new
  clear hn
  refine n_pure (v := Value.bool true) (d := 130) (f_eqE (p := 0) (q := 0) (wanted_some rfl (by kernel_rfl) s128) rfl s129.eval rfl) hsz rfl rfl ?_
  intro A42 hn
  replace hsz := hn.size
  replace hdf := hn.defers.trans hdf
  replace s3 := hn.keep _ _ rfl s3
  replace s4 := hn.keep _ _ rfl s4
  replace s8 := hn.keep _ _ rfl s8
  replace s9 := hn.keep _ _ rfl s9
  replace s10 := hn.keep _ _ rfl s10
  replace s12 := hn.keep _ _ rfl s12
  replace s14 := hn.keep _ _ rfl s14
  replace s15 := hn.keep _ _ rfl s15
  replace s16 := hn.keep _ _ rfl s16
  replace s17 := hn.keep _ _ rfl s17
  replace s18 := hn.keep _ _ rfl s18
  replace s128 := hn.keep _ _ rfl s128
  clear s129
  have s130 := hn.new
  clear hn
  refine n_pure (v := Value.bool true) (d := 131) (y_pickT (wanted_none rfl) rfl s128.eval s130.eval) hsz rfl rfl ?_
  intro A43 hn
  replace hsz := hn.size
  replace hdf := hn.defers.trans hdf
  replace s3 := hn.keep _ _ rfl s3
  replace s4 := hn.keep _ _ rfl s4
  replace s8 := hn.keep _ _ rfl s8
  replace s9 := hn.keep _ _ rfl s9
  replace s10 := hn.keep _ _ rfl s10
  replace s12 := hn.keep _ _ rfl s12
  replace s14 := hn.keep _ _ rfl s14
  replace s15 := hn.keep _ _ rfl s15
  replace s16 := hn.keep _ _ rfl s16
  replace s17 := hn.keep _ _ rfl s17
  replace s18 := hn.keep _ _ rfl s18
  clear s128 s130
  have s131 := hn.new
  clear hn
  refine n_pure (v := Value.bool true) (d := 132) (y_move (wanted_none rfl) rfl s131.eval) hsz rfl rfl ?_
  intro A44 hn
  replace hsz := hn.size
  replace hdf := hn.defers.trans hdf
  replace s3 := hn.keep _ _ rfl s3
  replace s4 := hn.keep _ _ rfl s4
  replace s8 := hn.keep _ _ rfl s8
  replace s9 := hn.keep _ _ rfl s9
  replace s10 := hn.keep _ _ rfl s10
  replace s12 := hn.keep _ _ rfl s12
  replace s14 := hn.keep _ _ rfl s14
  replace s15 := hn.keep _ _ rfl s15
  replace s16 := hn.keep _ _ rfl s16
  replace s17 := hn.keep _ _ rfl s17
  replace s18 := hn.keep _ _ rfl s18
  clear s131
  have s132 := hn.new
  clear hn
  refine n_pure (v := Value.int .i64 120) (d := 133) (y_move (wanted_some rfl (by kernel_rfl) s132) rfl s8.eval) hsz rfl rfl ?_
  intro A45 hn
  replace hsz := hn.size
  replace hdf := hn.defers.trans hdf
  replace s3 := hn.keep _ _ rfl s3
  replace s4 := hn.keep _ _ rfl s4
  replace s9 := hn.keep _ _ rfl s9
  replace s10 := hn.keep _ _ rfl s10
  replace s12 := hn.keep _ _ rfl s12
  replace s14 := hn.keep _ _ rfl s14
  replace s15 := hn.keep _ _ rfl s15
  replace s16 := hn.keep _ _ rfl s16
  replace s17 := hn.keep _ _ rfl s17
  replace s18 := hn.keep _ _ rfl s18
  replace s132 := hn.keep _ _ rfl s132
  clear s8
  have s133 := hn.new
  clear hn
  refine n_pure (v := Value.bool true) (d := 134) (f_eqE (p := 120) (q := 120) (wanted_some rfl (by kernel_rfl) s132) rfl s133.eval rfl) hsz rfl rfl ?_
  intro A46 hn
  replace hsz := hn.size
  replace hdf := hn.defers.trans hdf
  replace s3 := hn.keep _ _ rfl s3
  replace s4 := hn.keep _ _ rfl s4
  replace s9 := hn.keep _ _ rfl s9
  replace s10 := hn.keep _ _ rfl s10
  replace s12 := hn.keep _ _ rfl s12
  replace s14 := hn.keep _ _ rfl s14
  replace s15 := hn.keep _ _ rfl s15
  replace s16 := hn.keep _ _ rfl s16
  replace s17 := hn.keep _ _ rfl s17
  replace s18 := hn.keep _ _ rfl s18
  replace s132 := hn.keep _ _ rfl s132
  clear s133
  have s134 := hn.new
  clear hn
  refine n_pure (v := Value.bool true) (d := 135) (y_pickT (wanted_none rfl) rfl s132.eval s134.eval) hsz rfl rfl ?_
  intro A47 hn
  replace hsz := hn.size
  replace hdf := hn.defers.trans hdf
  replace s3 := hn.keep _ _ rfl s3
  replace s4 := hn.keep _ _ rfl s4
  replace s9 := hn.keep _ _ rfl s9
  replace s10 := hn.keep _ _ rfl s10
  replace s12 := hn.keep _ _ rfl s12
  replace s14 := hn.keep _ _ rfl s14
  replace s15 := hn.keep _ _ rfl s15
  replace s16 := hn.keep _ _ rfl s16
  replace s17 := hn.keep _ _ rfl s17
  replace s18 := hn.keep _ _ rfl s18
  clear s132 s134
  have s135 := hn.new
  clear hn
  refine n_pure (v := Value.bool true) (d := 136) (y_move (wanted_none rfl) rfl s135.eval) hsz rfl rfl ?_
  intro A48 hn
  replace hsz := hn.size
  replace hdf := hn.defers.trans hdf
  replace s3 := hn.keep _ _ rfl s3
  replace s4 := hn.keep _ _ rfl s4
  replace s9 := hn.keep _ _ rfl s9
  replace s10 := hn.keep _ _ rfl s10
  replace s12 := hn.keep _ _ rfl s12
  replace s14 := hn.keep _ _ rfl s14
  replace s15 := hn.keep _ _ rfl s15
  replace s16 := hn.keep _ _ rfl s16
  replace s17 := hn.keep _ _ rfl s17
  replace s18 := hn.keep _ _ rfl s18
  clear s135
  have s136 := hn.new
  clear hn
  refine n_pure (v := Value.slice (a7) 2 c7) (d := 137) (y_move (wanted_some rfl (by kernel_rfl) s136) rfl s9.eval) hsz rfl rfl ?_
  intro A49 hn
  replace hsz := hn.size
  replace hdf := hn.defers.trans hdf
  replace s3 := hn.keep _ _ rfl s3
  replace s4 := hn.keep _ _ rfl s4
  replace s10 := hn.keep _ _ rfl s10
  replace s12 := hn.keep _ _ rfl s12
  replace s14 := hn.keep _ _ rfl s14
  replace s15 := hn.keep _ _ rfl s15
  replace s16 := hn.keep _ _ rfl s16
  replace s17 := hn.keep _ _ rfl s17
  replace s18 := hn.keep _ _ rfl s18
  replace s136 := hn.keep _ _ rfl s136
  clear s9
  have s137 := hn.new
  clear hn
  refine n_pure (v := Value.slice (some ⟨PB, 0, none⟩) 3 3) (d := 138) (y_move (wanted_some rfl (by kernel_rfl) s136) rfl s4.eval) hsz rfl rfl ?_
  intro A50 hn
  replace hsz := hn.size
  replace hdf := hn.defers.trans hdf
  replace s3 := hn.keep _ _ rfl s3
  replace s4 := hn.keep _ _ rfl s4
  replace s10 := hn.keep _ _ rfl s10
  replace s12 := hn.keep _ _ rfl s12
  replace s14 := hn.keep _ _ rfl s14
  replace s15 := hn.keep _ _ rfl s15
  replace s16 := hn.keep _ _ rfl s16
  replace s17 := hn.keep _ _ rfl s17
  replace s18 := hn.keep _ _ rfl s18
  replace s136 := hn.keep _ _ rfl s136
  replace s137 := hn.keep _ _ rfl s137
  have s138 := hn.new
  clear hn
  refine n_pure (v := Value.pointer (some ⟨PB, 0, none⟩)) (d := 139) (f_idx 0 (by omega) (wanted_some rfl (by kernel_rfl) s136) rfl s138.eval rfl) hsz rfl rfl ?_
  intro A51 hn
  replace hsz := hn.size
  replace hdf := hn.defers.trans hdf
  replace s3 := hn.keep _ _ rfl s3
  replace s4 := hn.keep _ _ rfl s4
  replace s10 := hn.keep _ _ rfl s10
  replace s12 := hn.keep _ _ rfl s12
  replace s14 := hn.keep _ _ rfl s14
  replace s15 := hn.keep _ _ rfl s15
  replace s16 := hn.keep _ _ rfl s16
  replace s17 := hn.keep _ _ rfl s17
  replace s18 := hn.keep _ _ rfl s18
  replace s136 := hn.keep _ _ rfl s136
  replace s137 := hn.keep _ _ rfl s137
  clear s138
  have s139 := hn.new
  clear hn
  refine n_pure (v := Value.slice (a1) 2 c1) (d := 140) (f_ldR (wanted_some rfl (by kernel_rfl) s136) rfl s139.eval (fun _ h => keep D0.out h)) hsz rfl rfl ?_
  intro A52 hn
  replace hsz := hn.size
  replace hdf := hn.defers.trans hdf
  replace s3 := hn.keep _ _ rfl s3
  replace s4 := hn.keep _ _ rfl s4
  replace s10 := hn.keep _ _ rfl s10
  replace s12 := hn.keep _ _ rfl s12
  replace s14 := hn.keep _ _ rfl s14
  replace s15 := hn.keep _ _ rfl s15
  replace s16 := hn.keep _ _ rfl s16
  replace s17 := hn.keep _ _ rfl s17
  replace s18 := hn.keep _ _ rfl s18
  replace s136 := hn.keep _ _ rfl s136
  replace s137 := hn.keep _ _ rfl s137
  clear s139
  have s140 := hn.new
  clear hn
  refine n_pure (v := Value.slice (some ⟨PB, 0, none⟩) 3 3) (d := 141) (y_move (wanted_some rfl (by kernel_rfl) s136) rfl s4.eval) hsz rfl rfl ?_
  intro A53 hn
  replace hsz := hn.size
  replace hdf := hn.defers.trans hdf
  replace s3 := hn.keep _ _ rfl s3
  replace s4 := hn.keep _ _ rfl s4
  replace s10 := hn.keep _ _ rfl s10
  replace s12 := hn.keep _ _ rfl s12
  replace s14 := hn.keep _ _ rfl s14
  replace s15 := hn.keep _ _ rfl s15
  replace s16 := hn.keep _ _ rfl s16
  replace s17 := hn.keep _ _ rfl s17
  replace s18 := hn.keep _ _ rfl s18
  replace s136 := hn.keep _ _ rfl s136
  replace s137 := hn.keep _ _ rfl s137
  replace s140 := hn.keep _ _ rfl s140
  have s141 := hn.new
  clear hn
  refine n_pure (v := Value.pointer (some ⟨PB, 2, none⟩)) (d := 142) (f_idx 2 (by omega) (wanted_some rfl (by kernel_rfl) s136) rfl s141.eval rfl) hsz rfl rfl ?_
  intro A54 hn
  replace hsz := hn.size
  replace hdf := hn.defers.trans hdf
  replace s3 := hn.keep _ _ rfl s3
  replace s4 := hn.keep _ _ rfl s4
  replace s10 := hn.keep _ _ rfl s10
  replace s12 := hn.keep _ _ rfl s12
  replace s14 := hn.keep _ _ rfl s14
  replace s15 := hn.keep _ _ rfl s15
  replace s16 := hn.keep _ _ rfl s16
  replace s17 := hn.keep _ _ rfl s17
  replace s18 := hn.keep _ _ rfl s18
  replace s136 := hn.keep _ _ rfl s136
  replace s137 := hn.keep _ _ rfl s137
  replace s140 := hn.keep _ _ rfl s140
  clear s141
  have s142 := hn.new
  clear hn
  refine n_pure (v := Value.slice (a3) 3 c3) (d := 143) (f_ldR (wanted_some rfl (by kernel_rfl) s136) rfl s142.eval (fun _ h => keep D2.out h)) hsz rfl rfl ?_
  intro A55 hn
  replace hsz := hn.size
  replace hdf := hn.defers.trans hdf
  replace s3 := hn.keep _ _ rfl s3
  replace s4 := hn.keep _ _ rfl s4
  replace s10 := hn.keep _ _ rfl s10
  replace s12 := hn.keep _ _ rfl s12
  replace s14 := hn.keep _ _ rfl s14
  replace s15 := hn.keep _ _ rfl s15
  replace s16 := hn.keep _ _ rfl s16
  replace s17 := hn.keep _ _ rfl s17
  replace s18 := hn.keep _ _ rfl s18
  replace s136 := hn.keep _ _ rfl s136
  replace s137 := hn.keep _ _ rfl s137
  replace s140 := hn.keep _ _ rfl s140
  clear s142
  have s143 := hn.new
  clear hn
  refine n_alloc (v := Value.slice (some ⟨V8.heap.size, 0, none⟩) 2 2) (w' := V8.alloc (.cells #[.slice a1 2 c1, .slice a3 3 c3] 23)) (d := 144) (by kernel_rfl) (wanted_some rfl (by kernel_rfl) s136) (run_slice rfl (by simp only [List.map_toArray, List.map_cons, List.map_nil, s140.eval, s143.eval]) (f_r2 _ _ _ _ _ _ _)) (hS.new _) hsz rfl rfl ?_
  intro A56 hn
  have N9 : Row (V8.alloc (.cells #[.slice a1 2 c1, .slice a3 3 c3] 23)) (some ⟨V8.heap.size, 0, none⟩) 2 [pA, qAA] := rowR2 (x := pA) (y := qAA) (R1.out.below hS) (R3.out.below hS) 23
  have hq : Below V8.heap.size V8 (V8.alloc (.cells #[.slice a1 2 c1, .slice a3 3 c3] 23)) := (Below.refl _ _).new _
  replace N2 := N2.below hq
  replace N4 := N4.below hq
  replace hS := hS.new (.cells #[.slice a1 2 c1, .slice a3 3 c3] 23)
  clear hq
  obtain ⟨V9, hW⟩ : ∃ V, V8.alloc (.cells #[.slice a1 2 c1, .slice a3 3 c3] 23) = V := ⟨_, rfl⟩
  obtain ⟨G9, hG⟩ : ∃ V, V8.heap.size = V := ⟨_, rfl⟩
  rw [hW] at hS N9 N2 N4 ⊢
  rw [hG] at N9 hn
  clear hW hG
  replace hsz := hn.size
  replace hdf := hn.defers.trans hdf
  replace s3 := hn.keep _ _ rfl s3
  replace s4 := hn.keep _ _ rfl s4
  replace s10 := hn.keep _ _ rfl s10
  replace s12 := hn.keep _ _ rfl s12
  replace s14 := hn.keep _ _ rfl s14
  replace s15 := hn.keep _ _ rfl s15
  replace s16 := hn.keep _ _ rfl s16
  replace s17 := hn.keep _ _ rfl s17
  replace s18 := hn.keep _ _ rfl s18
  replace s136 := hn.keep _ _ rfl s136
  replace s137 := hn.keep _ _ rfl s137
  clear s140 s143
  have s144 := hn.new
  clear hn
  refine n_call (f := 19) (args := #[Value.slice (a7) 2 c7, Value.slice (some ⟨G9, 0, none⟩) 2 2]) (R := fun v w' => v = Value.bool true ∧ Below V9.heap.size V9 w') (d := 145) (by kernel_rfl) (wanted_some rfl (by kernel_rfl) s136) (run_call rfl rfl (fun _ _ => by kernel_rfl) (by simp only [List.map_toArray, List.map_cons, List.map_nil, ev_const, s137.eval, s144.eval])) ((same12_is (b := true) (n := 2) (k := 2) rfl (RN.out.below hS) rfl N9 (by decide +kernel)).mono fun e w' ⟨he, hb⟩ => ⟨_, he, rfl, hb⟩) hsz rfl rfl ?_
  rintro _ V10 ⟨rfl, hq⟩
  refine ⟨hS.then hq, fun A57 hn => ?_⟩
  replace hS := hS.then hq
  replace N2 := N2.below hq
  replace N4 := N4.below hq
  replace N9 := N9.below hq
  clear hq
  replace hsz := hn.size
  replace hdf := hn.defers.trans hdf
  replace s3 := hn.keep _ _ rfl s3
  replace s4 := hn.keep _ _ rfl s4
  replace s10 := hn.keep _ _ rfl s10
  replace s12 := hn.keep _ _ rfl s12
  replace s14 := hn.keep _ _ rfl s14
  replace s15 := hn.keep _ _ rfl s15
  replace s16 := hn.keep _ _ rfl s16
  replace s17 := hn.keep _ _ rfl s17
  replace s18 := hn.keep _ _ rfl s18
  replace s136 := hn.keep _ _ rfl s136
  clear s137 s144
  have s145 := hn.new
  clear hn
  refine n_pure (v := Value.bool true) (d := 146) (y_pickT (wanted_none rfl) rfl s136.eval s145.eval) hsz rfl rfl ?_
  intro A58 hn
  replace hsz := hn.size
  replace hdf := hn.defers.trans hdf
  replace s3 := hn.keep _ _ rfl s3
  replace s4 := hn.keep _ _ rfl s4
  replace s10 := hn.keep _ _ rfl s10
  replace s12 := hn.keep _ _ rfl s12
  replace s14 := hn.keep _ _ rfl s14
  replace s15 := hn.keep _ _ rfl s15
  replace s16 := hn.keep _ _ rfl s16
  replace s17 := hn.keep _ _ rfl s17
  replace s18 := hn.keep _ _ rfl s18
  clear s136 s145
  have s146 := hn.new
  clear hn
  refine n_pure (v := Value.bool true) (d := 147) (y_move (wanted_none rfl) rfl s146.eval) hsz rfl rfl ?_
  intro A59 hn
  replace hsz := hn.size
  replace hdf := hn.defers.trans hdf
  replace s3 := hn.keep _ _ rfl s3
  replace s4 := hn.keep _ _ rfl s4
  replace s10 := hn.keep _ _ rfl s10
  replace s12 := hn.keep _ _ rfl s12
  replace s14 := hn.keep _ _ rfl s14
  replace s15 := hn.keep _ _ rfl s15
  replace s16 := hn.keep _ _ rfl s16
  replace s17 := hn.keep _ _ rfl s17
  replace s18 := hn.keep _ _ rfl s18
  clear s146
  have s147 := hn.new
  clear hn
  refine n_pure (v := Value.int .i64 0) (d := 148) (y_move (wanted_some rfl (by kernel_rfl) s147) rfl s10.eval) hsz rfl rfl ?_
  intro A60 hn
  replace hsz := hn.size
  replace hdf := hn.defers.trans hdf
  replace s3 := hn.keep _ _ rfl s3
  replace s4 := hn.keep _ _ rfl s4
  replace s12 := hn.keep _ _ rfl s12
  replace s14 := hn.keep _ _ rfl s14
  replace s15 := hn.keep _ _ rfl s15
  replace s16 := hn.keep _ _ rfl s16
  replace s17 := hn.keep _ _ rfl s17
  replace s18 := hn.keep _ _ rfl s18
  replace s147 := hn.keep _ _ rfl s147
  clear s10
  have s148 := hn.new
  clear hn
  refine n_pure (v := Value.bool true) (d := 149) (f_eqE (p := 0) (q := 0) (wanted_some rfl (by kernel_rfl) s147) rfl s148.eval rfl) hsz rfl rfl ?_
  intro A61 hn
  replace hsz := hn.size
  replace hdf := hn.defers.trans hdf
  replace s3 := hn.keep _ _ rfl s3
  replace s4 := hn.keep _ _ rfl s4
  replace s12 := hn.keep _ _ rfl s12
  replace s14 := hn.keep _ _ rfl s14
  replace s15 := hn.keep _ _ rfl s15
  replace s16 := hn.keep _ _ rfl s16
  replace s17 := hn.keep _ _ rfl s17
  replace s18 := hn.keep _ _ rfl s18
  replace s147 := hn.keep _ _ rfl s147
  clear s148
  have s149 := hn.new
  clear hn
  refine n_pure (v := Value.bool true) (d := 150) (y_pickT (wanted_none rfl) rfl s147.eval s149.eval) hsz rfl rfl ?_
  intro A62 hn
  replace hsz := hn.size
  replace hdf := hn.defers.trans hdf
  replace s3 := hn.keep _ _ rfl s3
  replace s4 := hn.keep _ _ rfl s4
  replace s12 := hn.keep _ _ rfl s12
  replace s14 := hn.keep _ _ rfl s14
  replace s15 := hn.keep _ _ rfl s15
  replace s16 := hn.keep _ _ rfl s16
  replace s17 := hn.keep _ _ rfl s17
  replace s18 := hn.keep _ _ rfl s18
  clear s147 s149
  have s150 := hn.new
  clear hn
  refine n_pure (v := Value.bool true) (d := 151) (y_move (wanted_none rfl) rfl s150.eval) hsz rfl rfl ?_
  intro A63 hn
  replace hsz := hn.size
  replace hdf := hn.defers.trans hdf
  replace s3 := hn.keep _ _ rfl s3
  replace s4 := hn.keep _ _ rfl s4
  replace s12 := hn.keep _ _ rfl s12
  replace s14 := hn.keep _ _ rfl s14
  replace s15 := hn.keep _ _ rfl s15
  replace s16 := hn.keep _ _ rfl s16
  replace s17 := hn.keep _ _ rfl s17
  replace s18 := hn.keep _ _ rfl s18
  clear s150
  have s151 := hn.new
  clear hn
  refine n_pure (v := Value.int .i64 3) (d := 152) (y_move (wanted_some rfl (by kernel_rfl) s151) rfl s12.eval) hsz rfl rfl ?_
  intro A64 hn
  replace hsz := hn.size
  replace hdf := hn.defers.trans hdf
  replace s3 := hn.keep _ _ rfl s3
  replace s4 := hn.keep _ _ rfl s4
  replace s14 := hn.keep _ _ rfl s14
  replace s15 := hn.keep _ _ rfl s15
  replace s16 := hn.keep _ _ rfl s16
  replace s17 := hn.keep _ _ rfl s17
  replace s18 := hn.keep _ _ rfl s18
  replace s151 := hn.keep _ _ rfl s151
  clear s12
  have s152 := hn.new
  clear hn
  refine n_pure (v := Value.bool true) (d := 153) (f_eqE (p := 3) (q := 3) (wanted_some rfl (by kernel_rfl) s151) rfl s152.eval rfl) hsz rfl rfl ?_
  intro A65 hn
  replace hsz := hn.size
  replace hdf := hn.defers.trans hdf
  replace s3 := hn.keep _ _ rfl s3
  replace s4 := hn.keep _ _ rfl s4
  replace s14 := hn.keep _ _ rfl s14
  replace s15 := hn.keep _ _ rfl s15
  replace s16 := hn.keep _ _ rfl s16
  replace s17 := hn.keep _ _ rfl s17
  replace s18 := hn.keep _ _ rfl s18
  replace s151 := hn.keep _ _ rfl s151
  clear s152
  have s153 := hn.new
  clear hn
  refine n_pure (v := Value.bool true) (d := 154) (y_pickT (wanted_none rfl) rfl s151.eval s153.eval) hsz rfl rfl ?_
  intro A66 hn
  replace hsz := hn.size
  replace hdf := hn.defers.trans hdf
  replace s3 := hn.keep _ _ rfl s3
  replace s4 := hn.keep _ _ rfl s4
  replace s14 := hn.keep _ _ rfl s14
  replace s15 := hn.keep _ _ rfl s15
  replace s16 := hn.keep _ _ rfl s16
  replace s17 := hn.keep _ _ rfl s17
  replace s18 := hn.keep _ _ rfl s18
  clear s151 s153
  have s154 := hn.new
  clear hn
  refine n_pure (v := Value.bool true) (d := 155) (y_move (wanted_none rfl) rfl s154.eval) hsz rfl rfl ?_
  intro A67 hn
  replace hsz := hn.size
  replace hdf := hn.defers.trans hdf
  replace s3 := hn.keep _ _ rfl s3
  replace s4 := hn.keep _ _ rfl s4
  replace s14 := hn.keep _ _ rfl s14
  replace s15 := hn.keep _ _ rfl s15
  replace s16 := hn.keep _ _ rfl s16
  replace s17 := hn.keep _ _ rfl s17
  replace s18 := hn.keep _ _ rfl s18
  clear s154
  have s155 := hn.new
  clear hn
  refine n_pure (v := Value.int .i64 120) (d := 156) (y_move (wanted_some rfl (by kernel_rfl) s155) rfl s14.eval) hsz rfl rfl ?_
  intro A68 hn
  replace hsz := hn.size
  replace hdf := hn.defers.trans hdf
  replace s3 := hn.keep _ _ rfl s3
  replace s4 := hn.keep _ _ rfl s4
  replace s15 := hn.keep _ _ rfl s15
  replace s16 := hn.keep _ _ rfl s16
  replace s17 := hn.keep _ _ rfl s17
  replace s18 := hn.keep _ _ rfl s18
  replace s155 := hn.keep _ _ rfl s155
  clear s14
  have s156 := hn.new
  clear hn
  refine n_pure (v := Value.bool true) (d := 157) (f_eqE (p := 120) (q := 120) (wanted_some rfl (by kernel_rfl) s155) rfl s156.eval rfl) hsz rfl rfl ?_
  intro A69 hn
  replace hsz := hn.size
  replace hdf := hn.defers.trans hdf
  replace s3 := hn.keep _ _ rfl s3
  replace s4 := hn.keep _ _ rfl s4
  replace s15 := hn.keep _ _ rfl s15
  replace s16 := hn.keep _ _ rfl s16
  replace s17 := hn.keep _ _ rfl s17
  replace s18 := hn.keep _ _ rfl s18
  replace s155 := hn.keep _ _ rfl s155
  clear s156
  have s157 := hn.new
  clear hn
  refine n_pure (v := Value.bool true) (d := 158) (y_pickT (wanted_none rfl) rfl s155.eval s157.eval) hsz rfl rfl ?_
  intro A70 hn
  replace hsz := hn.size
  replace hdf := hn.defers.trans hdf
  replace s3 := hn.keep _ _ rfl s3
  replace s4 := hn.keep _ _ rfl s4
  replace s15 := hn.keep _ _ rfl s15
  replace s16 := hn.keep _ _ rfl s16
  replace s17 := hn.keep _ _ rfl s17
  replace s18 := hn.keep _ _ rfl s18
  clear s155 s157
  have s158 := hn.new
  clear hn
  refine n_pure (v := Value.bool true) (d := 159) (y_move (wanted_none rfl) rfl s158.eval) hsz rfl rfl ?_
  intro A71 hn
  replace hsz := hn.size
  replace hdf := hn.defers.trans hdf
  replace s3 := hn.keep _ _ rfl s3
  replace s4 := hn.keep _ _ rfl s4
  replace s15 := hn.keep _ _ rfl s15
  replace s16 := hn.keep _ _ rfl s16
  replace s17 := hn.keep _ _ rfl s17
  replace s18 := hn.keep _ _ rfl s18
  clear s158
  have s159 := hn.new
  clear hn
  refine n_pure (v := Value.slice (a11) 3 c11) (d := 160) (y_move (wanted_some rfl (by kernel_rfl) s159) rfl s15.eval) hsz rfl rfl ?_
  intro A72 hn
  replace hsz := hn.size
  replace hdf := hn.defers.trans hdf
  replace s3 := hn.keep _ _ rfl s3
  replace s4 := hn.keep _ _ rfl s4
  replace s16 := hn.keep _ _ rfl s16
  replace s17 := hn.keep _ _ rfl s17
  replace s18 := hn.keep _ _ rfl s18
  replace s159 := hn.keep _ _ rfl s159
  clear s15
  have s160 := hn.new
  clear hn
  refine n_pure (v := Value.slice (some ⟨PB, 0, none⟩) 3 3) (d := 161) (y_move (wanted_some rfl (by kernel_rfl) s159) rfl s4.eval) hsz rfl rfl ?_
  intro A73 hn
  replace hsz := hn.size
  replace hdf := hn.defers.trans hdf
  replace s3 := hn.keep _ _ rfl s3
  replace s4 := hn.keep _ _ rfl s4
  replace s16 := hn.keep _ _ rfl s16
  replace s17 := hn.keep _ _ rfl s17
  replace s18 := hn.keep _ _ rfl s18
  replace s159 := hn.keep _ _ rfl s159
  replace s160 := hn.keep _ _ rfl s160
  have s161 := hn.new
  clear hn
  refine n_call (f := 19) (args := #[Value.slice (a11) 3 c11, Value.slice (some ⟨PB, 0, none⟩) 3 3]) (R := fun v w' => v = Value.bool true ∧ Below V10.heap.size V10 w') (d := 162) (by kernel_rfl) (wanted_some rfl (by kernel_rfl) s159) (run_call rfl rfl (fun _ _ => by kernel_rfl) (by simp only [List.map_toArray, List.map_cons, List.map_nil, ev_const, s160.eval, s161.eval])) ((same12_is (b := true) (n := 3) (k := 3) rfl (RO.out.below hS) rfl (RL.out.below hS) (by decide +kernel)).mono fun e w' ⟨he, hb⟩ => ⟨_, he, rfl, hb⟩) hsz rfl rfl ?_
  rintro _ V11 ⟨rfl, hq⟩
  refine ⟨hS.then hq, fun A74 hn => ?_⟩
  replace hS := hS.then hq
  replace N2 := N2.below hq
  replace N4 := N4.below hq
  replace N9 := N9.below hq
  clear hq
  replace hsz := hn.size
  replace hdf := hn.defers.trans hdf
  replace s3 := hn.keep _ _ rfl s3
  replace s4 := hn.keep _ _ rfl s4
  replace s16 := hn.keep _ _ rfl s16
  replace s17 := hn.keep _ _ rfl s17
  replace s18 := hn.keep _ _ rfl s18
  replace s159 := hn.keep _ _ rfl s159
  clear s160 s161
  have s162 := hn.new
  clear hn
  refine n_pure (v := Value.bool true) (d := 163) (y_pickT (wanted_none rfl) rfl s159.eval s162.eval) hsz rfl rfl ?_
  intro A75 hn
  replace hsz := hn.size
  replace hdf := hn.defers.trans hdf
  replace s3 := hn.keep _ _ rfl s3
  replace s4 := hn.keep _ _ rfl s4
  replace s16 := hn.keep _ _ rfl s16
  replace s17 := hn.keep _ _ rfl s17
  replace s18 := hn.keep _ _ rfl s18
  clear s159 s162
  have s163 := hn.new
  clear hn
  refine n_pure (v := Value.bool true) (d := 164) (y_move (wanted_none rfl) rfl s163.eval) hsz rfl rfl ?_
  intro A76 hn
  replace hsz := hn.size
  replace hdf := hn.defers.trans hdf
  replace s3 := hn.keep _ _ rfl s3
  replace s4 := hn.keep _ _ rfl s4
  replace s16 := hn.keep _ _ rfl s16
  replace s17 := hn.keep _ _ rfl s17
  replace s18 := hn.keep _ _ rfl s18
  clear s163
  have s164 := hn.new
  clear hn
  refine n_pure (v := Value.int .i64 0) (d := 165) (y_move (wanted_some rfl (by kernel_rfl) s164) rfl s16.eval) hsz rfl rfl ?_
  intro A77 hn
  replace hsz := hn.size
  replace hdf := hn.defers.trans hdf
  replace s3 := hn.keep _ _ rfl s3
  replace s4 := hn.keep _ _ rfl s4
  replace s17 := hn.keep _ _ rfl s17
  replace s18 := hn.keep _ _ rfl s18
  replace s164 := hn.keep _ _ rfl s164
  clear s16
  have s165 := hn.new
  clear hn
  refine n_pure (v := Value.bool true) (d := 166) (f_eqE (p := 0) (q := 0) (wanted_some rfl (by kernel_rfl) s164) rfl s165.eval rfl) hsz rfl rfl ?_
  intro A78 hn
  replace hsz := hn.size
  replace hdf := hn.defers.trans hdf
  replace s3 := hn.keep _ _ rfl s3
  replace s4 := hn.keep _ _ rfl s4
  replace s17 := hn.keep _ _ rfl s17
  replace s18 := hn.keep _ _ rfl s18
  replace s164 := hn.keep _ _ rfl s164
  clear s165
  have s166 := hn.new
  clear hn
  refine n_pure (v := Value.bool true) (d := 167) (y_pickT (wanted_none rfl) rfl s164.eval s166.eval) hsz rfl rfl ?_
  intro A79 hn
  replace hsz := hn.size
  replace hdf := hn.defers.trans hdf
  replace s3 := hn.keep _ _ rfl s3
  replace s4 := hn.keep _ _ rfl s4
  replace s17 := hn.keep _ _ rfl s17
  replace s18 := hn.keep _ _ rfl s18
  clear s164 s166
  have s167 := hn.new
  clear hn
  refine n_pure (v := Value.bool true) (d := 168) (y_move (wanted_none rfl) rfl s167.eval) hsz rfl rfl ?_
  intro A80 hn
  replace hsz := hn.size
  replace hdf := hn.defers.trans hdf
  replace s3 := hn.keep _ _ rfl s3
  replace s4 := hn.keep _ _ rfl s4
  replace s17 := hn.keep _ _ rfl s17
  replace s18 := hn.keep _ _ rfl s18
  clear s167
  have s168 := hn.new
  clear hn
  refine n_pure (v := Value.slice (a12) 1 c12) (d := 169) (y_move (wanted_some rfl (by kernel_rfl) s168) rfl s17.eval) hsz rfl rfl ?_
  intro A81 hn
  replace hsz := hn.size
  replace hdf := hn.defers.trans hdf
  replace s3 := hn.keep _ _ rfl s3
  replace s4 := hn.keep _ _ rfl s4
  replace s18 := hn.keep _ _ rfl s18
  replace s168 := hn.keep _ _ rfl s168
  clear s17
  have s169 := hn.new
  clear hn
  refine n_pure (v := Value.slice (some ⟨PB, 0, none⟩) 3 3) (d := 170) (y_move (wanted_some rfl (by kernel_rfl) s168) rfl s4.eval) hsz rfl rfl ?_
  intro A82 hn
  replace hsz := hn.size
  replace hdf := hn.defers.trans hdf
  replace s3 := hn.keep _ _ rfl s3
  replace s4 := hn.keep _ _ rfl s4
  replace s18 := hn.keep _ _ rfl s18
  replace s168 := hn.keep _ _ rfl s168
  replace s169 := hn.keep _ _ rfl s169
  have s170 := hn.new
  clear hn
  refine n_pure (v := Value.slice (some ⟨PB, 2, none⟩) 1 1) (d := 171) (f_lo2 (wanted_some rfl (by kernel_rfl) s168) rfl s170.eval rfl) hsz rfl rfl ?_
  intro A83 hn
  replace hsz := hn.size
  replace hdf := hn.defers.trans hdf
  replace s3 := hn.keep _ _ rfl s3
  replace s4 := hn.keep _ _ rfl s4
  replace s18 := hn.keep _ _ rfl s18
  replace s168 := hn.keep _ _ rfl s168
  replace s169 := hn.keep _ _ rfl s169
  clear s170
  have s171 := hn.new
  clear hn
  refine n_call (f := 19) (args := #[Value.slice (a12) 1 c12, Value.slice (some ⟨PB, 2, none⟩) 1 1]) (R := fun v w' => v = Value.bool true ∧ Below V11.heap.size V11 w') (d := 172) (by kernel_rfl) (wanted_some rfl (by kernel_rfl) s168) (run_call rfl rfl (fun _ _ => by kernel_rfl) (by simp only [List.map_toArray, List.map_cons, List.map_nil, ev_const, s169.eval, s171.eval])) ((same12_is (b := true) (n := 1) (k := 1) rfl (RX.out.below hS) rfl (RD2.out.below hS) (by decide +kernel)).mono fun e w' ⟨he, hb⟩ => ⟨_, he, rfl, hb⟩) hsz rfl rfl ?_
  rintro _ V12 ⟨rfl, hq⟩
  refine ⟨hS.then hq, fun A84 hn => ?_⟩
  replace hS := hS.then hq
  replace N2 := N2.below hq
  replace N4 := N4.below hq
  replace N9 := N9.below hq
  clear hq
  replace hsz := hn.size
  replace hdf := hn.defers.trans hdf
  replace s3 := hn.keep _ _ rfl s3
  replace s4 := hn.keep _ _ rfl s4
  replace s18 := hn.keep _ _ rfl s18
  replace s168 := hn.keep _ _ rfl s168
  clear s169 s171
  have s172 := hn.new
  clear hn
  refine n_pure (v := Value.bool true) (d := 173) (y_pickT (wanted_none rfl) rfl s168.eval s172.eval) hsz rfl rfl ?_
  intro A85 hn
  replace hsz := hn.size
  replace hdf := hn.defers.trans hdf
  replace s3 := hn.keep _ _ rfl s3
  replace s4 := hn.keep _ _ rfl s4
  replace s18 := hn.keep _ _ rfl s18
  clear s168 s172
  have s173 := hn.new
  clear hn
  refine n_pure (v := Value.bool true) (d := 174) (y_move (wanted_none rfl) rfl s173.eval) hsz rfl rfl ?_
  intro A86 hn
  replace hsz := hn.size
  replace hdf := hn.defers.trans hdf
  replace s3 := hn.keep _ _ rfl s3
  replace s4 := hn.keep _ _ rfl s4
  replace s18 := hn.keep _ _ rfl s18
  clear s173
  have s174 := hn.new
  clear hn
  refine n_pure (v := Value.slice (a13) 1 c13) (d := 175) (y_move (wanted_some rfl (by kernel_rfl) s174) rfl s18.eval) hsz rfl rfl ?_
  intro A87 hn
  replace hsz := hn.size
  replace hdf := hn.defers.trans hdf
  replace s3 := hn.keep _ _ rfl s3
  replace s4 := hn.keep _ _ rfl s4
  replace s174 := hn.keep _ _ rfl s174
  clear s18
  have s175 := hn.new
  clear hn
  refine n_pure (v := Value.slice (some ⟨PB, 0, none⟩) 3 3) (d := 176) (y_move (wanted_some rfl (by kernel_rfl) s174) rfl s4.eval) hsz rfl rfl ?_
  intro A88 hn
  replace hsz := hn.size
  replace hdf := hn.defers.trans hdf
  replace s3 := hn.keep _ _ rfl s3
  replace s4 := hn.keep _ _ rfl s4
  replace s174 := hn.keep _ _ rfl s174
  replace s175 := hn.keep _ _ rfl s175
  have s176 := hn.new
  clear hn
  refine n_pure (v := Value.slice (some ⟨PB, 0, none⟩) 1 3) (d := 177) (f_hi1 (wanted_some rfl (by kernel_rfl) s174) rfl s176.eval rfl) hsz rfl rfl ?_
  intro A89 hn
  replace hsz := hn.size
  replace hdf := hn.defers.trans hdf
  replace s3 := hn.keep _ _ rfl s3
  replace s4 := hn.keep _ _ rfl s4
  replace s174 := hn.keep _ _ rfl s174
  replace s175 := hn.keep _ _ rfl s175
  clear s176
  have s177 := hn.new
  clear hn
  refine n_call (f := 19) (args := #[Value.slice (a13) 1 c13, Value.slice (some ⟨PB, 0, none⟩) 1 3]) (R := fun v w' => v = Value.bool true ∧ Below V12.heap.size V12 w') (d := 178) (by kernel_rfl) (wanted_some rfl (by kernel_rfl) s174) (run_call rfl rfl (fun _ _ => by kernel_rfl) (by simp only [List.map_toArray, List.map_cons, List.map_nil, ev_const, s175.eval, s177.eval])) ((same12_is (b := true) (n := 1) (k := 1) rfl (RY.out.below hS) rfl (RT1.out.below hS) (by decide +kernel)).mono fun e w' ⟨he, hb⟩ => ⟨_, he, rfl, hb⟩) hsz rfl rfl ?_
  rintro _ V13 ⟨rfl, hq⟩
  refine ⟨hS.then hq, fun A90 hn => ?_⟩
  replace hS := hS.then hq
  replace N2 := N2.below hq
  replace N4 := N4.below hq
  replace N9 := N9.below hq
  clear hq
  replace hsz := hn.size
  replace hdf := hn.defers.trans hdf
  replace s3 := hn.keep _ _ rfl s3
  replace s4 := hn.keep _ _ rfl s4
  replace s174 := hn.keep _ _ rfl s174
  clear s175 s177
  have s178 := hn.new
  clear hn
  refine n_pure (v := Value.bool true) (d := 179) (y_pickT (wanted_none rfl) rfl s174.eval s178.eval) hsz rfl rfl ?_
  intro A91 hn
  replace hsz := hn.size
  replace hdf := hn.defers.trans hdf
  replace s3 := hn.keep _ _ rfl s3
  replace s4 := hn.keep _ _ rfl s4
  clear s174 s178
  have s179 := hn.new
  clear hn
  refine n_pure (v := Value.bool true) (d := 180) (y_move (wanted_none rfl) rfl s179.eval) hsz rfl rfl ?_
  intro A92 hn
  replace hsz := hn.size
  replace hdf := hn.defers.trans hdf
  replace s3 := hn.keep _ _ rfl s3
  replace s4 := hn.keep _ _ rfl s4
  clear s179
  have s180 := hn.new
  clear hn
  refine n_pure (v := Value.slice (some ⟨PB, 0, none⟩) 3 3) (d := 181) (y_move (wanted_some rfl (by kernel_rfl) s180) rfl s4.eval) hsz rfl rfl ?_
  intro A93 hn
  replace hsz := hn.size
  replace hdf := hn.defers.trans hdf
  replace s3 := hn.keep _ _ rfl s3
  replace s4 := hn.keep _ _ rfl s4
  replace s180 := hn.keep _ _ rfl s180
  have s181 := hn.new
  clear hn
  refine n_pure (v := Value.agg #[.int .i64 1, .string ⟨#[]⟩, .int .i64 0]) (d := 182) (f_ldC (wanted_some rfl (by kernel_rfl) s180) rfl s3.eval (fun _ h => keep Z0.out h) (fun _ h => keep Z1.out h) (fun _ h => keep Z2.out h)) hsz rfl rfl ?_
  intro A94 hn
  replace hsz := hn.size
  replace hdf := hn.defers.trans hdf
  replace s3 := hn.keep _ _ rfl s3
  replace s4 := hn.keep _ _ rfl s4
  replace s180 := hn.keep _ _ rfl s180
  replace s181 := hn.keep _ _ rfl s181
  have s182 := hn.new
  clear hn
  refine n_pure (v := Value.slice (some ⟨PB, 0, none⟩) 3 3) (d := 186) (y_move (wanted_some rfl (by kernel_rfl) s180) rfl s4.eval) hsz rfl rfl ?_
  intro A95 hn
  replace hsz := hn.size
  replace hdf := hn.defers.trans hdf
  replace s3 := hn.keep _ _ rfl s3
  replace s4 := hn.keep _ _ rfl s4
  replace s180 := hn.keep _ _ rfl s180
  replace s181 := hn.keep _ _ rfl s181
  replace s182 := hn.keep _ _ rfl s182
  have s186 := hn.new
  clear hn
  refine n_pure (v := Value.slice (some ⟨PB, 0, none⟩) 2 3) (d := 187) (f_hi2 (wanted_some rfl (by kernel_rfl) s180) rfl s186.eval rfl) hsz rfl rfl ?_
  intro A96 hn
  replace hsz := hn.size
  replace hdf := hn.defers.trans hdf
  replace s3 := hn.keep _ _ rfl s3
  replace s4 := hn.keep _ _ rfl s4
  replace s180 := hn.keep _ _ rfl s180
  replace s181 := hn.keep _ _ rfl s181
  replace s182 := hn.keep _ _ rfl s182
  clear s186
  have s187 := hn.new
  clear hn
  refine n_alloc (v := Value.slice (some ⟨V13.heap.size, 0, none⟩) 1 1) (w' := V13.alloc (.cells #[.int .i64 1, .string ⟨#[]⟩, .int .i64 0] 42)) (d := 183) (by kernel_rfl) (wanted_some rfl (by kernel_rfl) s180) (run_slice rfl (by simp only [List.map_toArray, List.map_cons, List.map_nil, s182.eval]) (f_c1 _ 1 0 ⟨#[]⟩)) (hS.new _) hsz rfl rfl ?_
  intro A97 hn
  have N14 : Row (V13.alloc (.cells #[.int .i64 1, .string ⟨#[]⟩, .int .i64 0] 42)) (some ⟨V13.heap.size, 0, none⟩) 1 [cV] := rowC1 V13 cV cV_fit 42
  have hq : Below V13.heap.size V13 (V13.alloc (.cells #[.int .i64 1, .string ⟨#[]⟩, .int .i64 0] 42)) := (Below.refl _ _).new _
  replace N2 := N2.below hq
  replace N4 := N4.below hq
  replace N9 := N9.below hq
  replace hS := hS.new (.cells #[.int .i64 1, .string ⟨#[]⟩, .int .i64 0] 42)
  clear hq
  obtain ⟨V14, hW⟩ : ∃ V, V13.alloc (.cells #[.int .i64 1, .string ⟨#[]⟩, .int .i64 0] 42) = V := ⟨_, rfl⟩
  obtain ⟨G14, hG⟩ : ∃ V, V13.heap.size = V := ⟨_, rfl⟩
  rw [hW] at hS N14 N2 N4 N9 ⊢
  rw [hG] at N14 hn
  clear hW hG
  replace hsz := hn.size
  replace hdf := hn.defers.trans hdf
  replace s3 := hn.keep _ _ rfl s3
  replace s4 := hn.keep _ _ rfl s4
  replace s180 := hn.keep _ _ rfl s180
  replace s181 := hn.keep _ _ rfl s181
  replace s187 := hn.keep _ _ rfl s187
  clear s182
  have s183 := hn.new
  clear hn
  refine n_call (f := 27) (args := #[Value.string ⟨#[112]⟩, Value.slice (some ⟨G14, 0, none⟩) 1 1]) (R := fun v w' => ∃ p q, v = Value.slice p 2 q ∧ Row w' p q (⟨3, ⟨#[112]⟩, 1⟩ :: [cV]) ∧ Below V14.heap.size V14 w') (d := 184) (by kernel_rfl) (wanted_some rfl (by kernel_rfl) s180) (run_call rfl rfl (fun _ _ => by kernel_rfl) (by simp only [List.map_toArray, List.map_cons, List.map_nil, ev_const, s183.eval])) ((p12_is (nm := ⟨#[112]⟩) (cl := ⟨3, ⟨#[112]⟩, 1⟩) (j := 2) (by decide) rfl N14 (by decide) rfl rfl).mono fun e w' ⟨p, q, he, hr, hb⟩ => ⟨_, he, p, q, rfl, hr, hb⟩) hsz rfl rfl ?_
  rintro _ V15 ⟨p15, q15, rfl, N15, hq⟩
  refine ⟨hS.then hq, fun A98 hn => ?_⟩
  replace hS := hS.then hq
  replace N2 := N2.below hq
  replace N4 := N4.below hq
  replace N9 := N9.below hq
  replace N14 := N14.below hq
  clear hq
  replace hsz := hn.size
  replace hdf := hn.defers.trans hdf
  replace s3 := hn.keep _ _ rfl s3
  replace s4 := hn.keep _ _ rfl s4
  replace s180 := hn.keep _ _ rfl s180
  replace s181 := hn.keep _ _ rfl s181
  replace s187 := hn.keep _ _ rfl s187
  clear s183
  have s184 := hn.new
  clear hn
  refine n_call (f := 22) (args := #[Value.slice (some ⟨PB, 0, none⟩) 3 3, Value.slice (p15) 2 q15]) (R := fun v w' => ∃ p q, v = Value.slice p 2 q ∧ Row w' p q (l12.take 2) ∧ Below V15.heap.size V15 w') (d := 185) (by kernel_rfl) (wanted_some rfl (by kernel_rfl) s180) (run_call rfl rfl (fun _ _ => by kernel_rfl) (by simp only [List.map_toArray, List.map_cons, List.map_nil, ev_const, s181.eval, s184.eval])) ((find_is (n := 3) (k := 2) (j := 2) rfl (RL.out.below hS) rfl N15 l12_fr (by decide +kernel) k12_findp rfl).mono fun e w' ⟨p, q, he, hr, hb⟩ => ⟨_, he, p, q, rfl, hr, hb⟩) hsz rfl rfl ?_
  rintro _ V16 ⟨p16, q16, rfl, N16, hq⟩
  refine ⟨hS.then hq, fun A99 hn => ?_⟩
  replace hS := hS.then hq
  replace N2 := N2.below hq
  replace N4 := N4.below hq
  replace N9 := N9.below hq
  replace N14 := N14.below hq
  replace N15 := N15.below hq
  clear hq
  replace hsz := hn.size
  replace hdf := hn.defers.trans hdf
  replace s3 := hn.keep _ _ rfl s3
  replace s4 := hn.keep _ _ rfl s4
  replace s180 := hn.keep _ _ rfl s180
  replace s187 := hn.keep _ _ rfl s187
  clear s181 s184
  have s185 := hn.new
  clear hn
  refine n_call (f := 19) (args := #[Value.slice (p16) 2 q16, Value.slice (some ⟨PB, 0, none⟩) 2 3]) (R := fun v w' => v = Value.bool true ∧ Below V16.heap.size V16 w') (d := 188) (by kernel_rfl) (wanted_some rfl (by kernel_rfl) s180) (run_call rfl rfl (fun _ _ => by kernel_rfl) (by simp only [List.map_toArray, List.map_cons, List.map_nil, ev_const, s185.eval, s187.eval])) ((same12_is (b := true) (n := 2) (k := 2) rfl N16 rfl (RT2.out.below hS) (by decide +kernel)).mono fun e w' ⟨he, hb⟩ => ⟨_, he, rfl, hb⟩) hsz rfl rfl ?_
  rintro _ V17 ⟨rfl, hq⟩
  refine ⟨hS.then hq, fun A100 hn => ?_⟩
  replace hS := hS.then hq
  replace N2 := N2.below hq
  replace N4 := N4.below hq
  replace N9 := N9.below hq
  replace N14 := N14.below hq
  replace N15 := N15.below hq
  replace N16 := N16.below hq
  clear hq
  replace hsz := hn.size
  replace hdf := hn.defers.trans hdf
  replace s3 := hn.keep _ _ rfl s3
  replace s4 := hn.keep _ _ rfl s4
  replace s180 := hn.keep _ _ rfl s180
  clear s185 s187
  have s188 := hn.new
  clear hn
  refine n_pure (v := Value.bool true) (d := 189) (y_pickT (wanted_none rfl) rfl s180.eval s188.eval) hsz rfl rfl ?_
  intro A101 hn
  replace hsz := hn.size
  replace hdf := hn.defers.trans hdf
  replace s3 := hn.keep _ _ rfl s3
  replace s4 := hn.keep _ _ rfl s4
  clear s180 s188
  have s189 := hn.new
  clear hn
  refine n_pure (v := Value.bool true) (d := 190) (y_move (wanted_none rfl) rfl s189.eval) hsz rfl rfl ?_
  intro A102 hn
  replace hsz := hn.size
  replace hdf := hn.defers.trans hdf
  replace s3 := hn.keep _ _ rfl s3
  replace s4 := hn.keep _ _ rfl s4
  clear s189
  have s190 := hn.new
  clear hn
  refine n_pure (v := Value.slice (some ⟨PB, 0, none⟩) 3 3) (d := 191) (y_move (wanted_some rfl (by kernel_rfl) s190) rfl s4.eval) hsz rfl rfl ?_
  intro A103 hn
  replace hsz := hn.size
  replace hdf := hn.defers.trans hdf
  replace s3 := hn.keep _ _ rfl s3
  replace s4 := hn.keep _ _ rfl s4
  replace s190 := hn.keep _ _ rfl s190
  have s191 := hn.new
  clear hn
  refine n_pure (v := Value.agg #[.int .i64 1, .string ⟨#[]⟩, .int .i64 0]) (d := 192) (f_ldC (wanted_some rfl (by kernel_rfl) s190) rfl s3.eval (fun _ h => keep Z0.out h) (fun _ h => keep Z1.out h) (fun _ h => keep Z2.out h)) hsz rfl rfl ?_
  intro A104 hn
  replace hsz := hn.size
  replace hdf := hn.defers.trans hdf
  replace s3 := hn.keep _ _ rfl s3
  replace s4 := hn.keep _ _ rfl s4
  replace s190 := hn.keep _ _ rfl s190
  replace s191 := hn.keep _ _ rfl s191
  have s192 := hn.new
  clear hn
  refine n_pure (v := Value.agg #[.int .i64 1, .string ⟨#[]⟩, .int .i64 0]) (d := 193) (f_ldC (wanted_some rfl (by kernel_rfl) s190) rfl s3.eval (fun _ h => keep Z0.out h) (fun _ h => keep Z1.out h) (fun _ h => keep Z2.out h)) hsz rfl rfl ?_
  intro A105 hn
  replace hsz := hn.size
  replace hdf := hn.defers.trans hdf
  replace s3 := hn.keep _ _ rfl s3
  replace s4 := hn.keep _ _ rfl s4
  replace s190 := hn.keep _ _ rfl s190
  replace s191 := hn.keep _ _ rfl s191
  replace s192 := hn.keep _ _ rfl s192
  have s193 := hn.new
  clear hn
  refine n_pure (v := Value.slice (some ⟨PB, 0, none⟩) 3 3) (d := 197) (y_move (wanted_some rfl (by kernel_rfl) s190) rfl s4.eval) hsz rfl rfl ?_
  intro A106 hn
  replace hsz := hn.size
  replace hdf := hn.defers.trans hdf
  replace s3 := hn.keep _ _ rfl s3
  replace s4 := hn.keep _ _ rfl s4
  replace s190 := hn.keep _ _ rfl s190
  replace s191 := hn.keep _ _ rfl s191
  replace s192 := hn.keep _ _ rfl s192
  replace s193 := hn.keep _ _ rfl s193
  have s197 := hn.new
  clear hn
  refine n_pure (v := Value.slice (some ⟨PB, 2, none⟩) 1 1) (d := 198) (f_lo2 (wanted_some rfl (by kernel_rfl) s190) rfl s197.eval rfl) hsz rfl rfl ?_
  intro A107 hn
  replace hsz := hn.size
  replace hdf := hn.defers.trans hdf
  replace s3 := hn.keep _ _ rfl s3
  replace s4 := hn.keep _ _ rfl s4
  replace s190 := hn.keep _ _ rfl s190
  replace s191 := hn.keep _ _ rfl s191
  replace s192 := hn.keep _ _ rfl s192
  replace s193 := hn.keep _ _ rfl s193
  clear s197
  have s198 := hn.new
  clear hn
  refine n_alloc (v := Value.slice (some ⟨V17.heap.size, 0, none⟩) 2 2) (w' := V17.alloc (.cells #[.int .i64 1, .string ⟨#[]⟩, .int .i64 0, .int .i64 1, .string ⟨#[]⟩, .int .i64 0] 42)) (d := 194) (by kernel_rfl) (wanted_some rfl (by kernel_rfl) s190) (run_slice rfl (by simp only [List.map_toArray, List.map_cons, List.map_nil, s192.eval, s193.eval]) (f_c2 _ 1 0 1 0 ⟨#[]⟩ ⟨#[]⟩)) (hS.new _) hsz rfl rfl ?_
  intro A108 hn
  have N18 : Row (V17.alloc (.cells #[.int .i64 1, .string ⟨#[]⟩, .int .i64 0, .int .i64 1, .string ⟨#[]⟩, .int .i64 0] 42)) (some ⟨V17.heap.size, 0, none⟩) 2 [cV, cV] := rowC2 V17 cV cV cV_fit cV_fit 42
  have hq : Below V17.heap.size V17 (V17.alloc (.cells #[.int .i64 1, .string ⟨#[]⟩, .int .i64 0, .int .i64 1, .string ⟨#[]⟩, .int .i64 0] 42)) := (Below.refl _ _).new _
  replace N2 := N2.below hq
  replace N4 := N4.below hq
  replace N9 := N9.below hq
  replace N14 := N14.below hq
  replace N15 := N15.below hq
  replace N16 := N16.below hq
  replace hS := hS.new (.cells #[.int .i64 1, .string ⟨#[]⟩, .int .i64 0, .int .i64 1, .string ⟨#[]⟩, .int .i64 0] 42)
  clear hq
  obtain ⟨V18, hW⟩ : ∃ V, V17.alloc (.cells #[.int .i64 1, .string ⟨#[]⟩, .int .i64 0, .int .i64 1, .string ⟨#[]⟩, .int .i64 0] 42) = V := ⟨_, rfl⟩
  obtain ⟨G18, hG⟩ : ∃ V, V17.heap.size = V := ⟨_, rfl⟩
  rw [hW] at hS N18 N2 N4 N9 N14 N15 N16 ⊢
  rw [hG] at N18 hn
  clear hW hG
  replace hsz := hn.size
  replace hdf := hn.defers.trans hdf
  replace s3 := hn.keep _ _ rfl s3
  replace s4 := hn.keep _ _ rfl s4
  replace s190 := hn.keep _ _ rfl s190
  replace s191 := hn.keep _ _ rfl s191
  replace s198 := hn.keep _ _ rfl s198
  clear s192 s193
  have s194 := hn.new
  clear hn
  refine n_call (f := 27) (args := #[Value.string ⟨#[113]⟩, Value.slice (some ⟨G18, 0, none⟩) 2 2]) (R := fun v w' => ∃ p q, v = Value.slice p 3 q ∧ Row w' p q (⟨3, ⟨#[113]⟩, 2⟩ :: [cV, cV]) ∧ Below V18.heap.size V18 w') (d := 195) (by kernel_rfl) (wanted_some rfl (by kernel_rfl) s190) (run_call rfl rfl (fun _ _ => by kernel_rfl) (by simp only [List.map_toArray, List.map_cons, List.map_nil, ev_const, s194.eval])) ((p12_is (nm := ⟨#[113]⟩) (cl := ⟨3, ⟨#[113]⟩, 2⟩) (j := 3) (by decide) rfl N18 (by decide) rfl rfl).mono fun e w' ⟨p, q, he, hr, hb⟩ => ⟨_, he, p, q, rfl, hr, hb⟩) hsz rfl rfl ?_
  rintro _ V19 ⟨p19, q19, rfl, N19, hq⟩
  refine ⟨hS.then hq, fun A109 hn => ?_⟩
  replace hS := hS.then hq
  replace N2 := N2.below hq
  replace N4 := N4.below hq
  replace N9 := N9.below hq
  replace N14 := N14.below hq
  replace N15 := N15.below hq
  replace N16 := N16.below hq
  replace N18 := N18.below hq
  clear hq
  replace hsz := hn.size
  replace hdf := hn.defers.trans hdf
  replace s3 := hn.keep _ _ rfl s3
  replace s4 := hn.keep _ _ rfl s4
  replace s190 := hn.keep _ _ rfl s190
  replace s191 := hn.keep _ _ rfl s191
  replace s198 := hn.keep _ _ rfl s198
  clear s194
  have s195 := hn.new
  clear hn
  refine n_call (f := 22) (args := #[Value.slice (some ⟨PB, 0, none⟩) 3 3, Value.slice (p19) 3 q19]) (R := fun v w' => ∃ p q, v = Value.slice p 1 q ∧ Row w' p q (l12.drop 2) ∧ Below V19.heap.size V19 w') (d := 196) (by kernel_rfl) (wanted_some rfl (by kernel_rfl) s190) (run_call rfl rfl (fun _ _ => by kernel_rfl) (by simp only [List.map_toArray, List.map_cons, List.map_nil, ev_const, s191.eval, s195.eval])) ((find_is (n := 3) (k := 3) (j := 1) rfl (RL.out.below hS) rfl N19 l12_fr (by decide +kernel) k12_findq rfl).mono fun e w' ⟨p, q, he, hr, hb⟩ => ⟨_, he, p, q, rfl, hr, hb⟩) hsz rfl rfl ?_
  rintro _ V20 ⟨p20, q20, rfl, N20, hq⟩
  refine ⟨hS.then hq, fun A110 hn => ?_⟩
  replace hS := hS.then hq
  replace N2 := N2.below hq
  replace N4 := N4.below hq
  replace N9 := N9.below hq
  replace N14 := N14.below hq
  replace N15 := N15.below hq
  replace N16 := N16.below hq
  replace N18 := N18.below hq
  replace N19 := N19.below hq
  clear hq
  replace hsz := hn.size
  replace hdf := hn.defers.trans hdf
  replace s3 := hn.keep _ _ rfl s3
  replace s4 := hn.keep _ _ rfl s4
  replace s190 := hn.keep _ _ rfl s190
  replace s198 := hn.keep _ _ rfl s198
  clear s191 s195
  have s196 := hn.new
  clear hn
  refine n_call (f := 19) (args := #[Value.slice (p20) 1 q20, Value.slice (some ⟨PB, 2, none⟩) 1 1]) (R := fun v w' => v = Value.bool true ∧ Below V20.heap.size V20 w') (d := 199) (by kernel_rfl) (wanted_some rfl (by kernel_rfl) s190) (run_call rfl rfl (fun _ _ => by kernel_rfl) (by simp only [List.map_toArray, List.map_cons, List.map_nil, ev_const, s196.eval, s198.eval])) ((same12_is (b := true) (n := 1) (k := 1) rfl N20 rfl (RD2.out.below hS) (by decide +kernel)).mono fun e w' ⟨he, hb⟩ => ⟨_, he, rfl, hb⟩) hsz rfl rfl ?_
  rintro _ V21 ⟨rfl, hq⟩
  refine ⟨hS.then hq, fun A111 hn => ?_⟩
  replace hS := hS.then hq
  replace N2 := N2.below hq
  replace N4 := N4.below hq
  replace N9 := N9.below hq
  replace N14 := N14.below hq
  replace N15 := N15.below hq
  replace N16 := N16.below hq
  replace N18 := N18.below hq
  replace N19 := N19.below hq
  replace N20 := N20.below hq
  clear hq
  replace hsz := hn.size
  replace hdf := hn.defers.trans hdf
  replace s3 := hn.keep _ _ rfl s3
  replace s4 := hn.keep _ _ rfl s4
  replace s190 := hn.keep _ _ rfl s190
  clear s196 s198
  have s199 := hn.new
  clear hn
  refine n_pure (v := Value.bool true) (d := 200) (y_pickT (wanted_none rfl) rfl s190.eval s199.eval) hsz rfl rfl ?_
  intro A112 hn
  replace hsz := hn.size
  replace hdf := hn.defers.trans hdf
  replace s3 := hn.keep _ _ rfl s3
  replace s4 := hn.keep _ _ rfl s4
  clear s190 s199
  have s200 := hn.new
  clear hn
  refine n_pure (v := Value.bool true) (d := 201) (y_move (wanted_none rfl) rfl s200.eval) hsz rfl rfl ?_
  intro A113 hn
  replace hsz := hn.size
  replace hdf := hn.defers.trans hdf
  replace s3 := hn.keep _ _ rfl s3
  replace s4 := hn.keep _ _ rfl s4
  clear s200
  have s201 := hn.new
  clear hn
  refine n_pure (v := Value.slice (some ⟨PB, 0, none⟩) 3 3) (d := 202) (y_move (wanted_some rfl (by kernel_rfl) s201) rfl s4.eval) hsz rfl rfl ?_
  intro A114 hn
  replace hsz := hn.size
  replace hdf := hn.defers.trans hdf
  replace s3 := hn.keep _ _ rfl s3
  replace s4 := hn.keep _ _ rfl s4
  replace s201 := hn.keep _ _ rfl s201
  have s202 := hn.new
  clear hn
  refine n_pure (v := Value.slice (some ⟨PB, 0, none⟩) 3 3) (d := 203) (y_move (wanted_some rfl (by kernel_rfl) s201) rfl s4.eval) hsz rfl rfl ?_
  intro A115 hn
  replace hsz := hn.size
  replace hdf := hn.defers.trans hdf
  replace s3 := hn.keep _ _ rfl s3
  replace s4 := hn.keep _ _ rfl s4
  replace s201 := hn.keep _ _ rfl s201
  replace s202 := hn.keep _ _ rfl s202
  have s203 := hn.new
  clear hn
  refine n_pure (v := Value.pointer (some ⟨PB, 1, none⟩)) (d := 204) (f_idx 1 (by omega) (wanted_some rfl (by kernel_rfl) s201) rfl s203.eval rfl) hsz rfl rfl ?_
  intro A116 hn
  replace hsz := hn.size
  replace hdf := hn.defers.trans hdf
  replace s3 := hn.keep _ _ rfl s3
  replace s4 := hn.keep _ _ rfl s4
  replace s201 := hn.keep _ _ rfl s201
  replace s202 := hn.keep _ _ rfl s202
  clear s203
  have s204 := hn.new
  clear hn
  refine n_pure (v := Value.slice (a2) 2 c2) (d := 205) (f_ldR (wanted_some rfl (by kernel_rfl) s201) rfl s204.eval (fun _ h => keep D1.out h)) hsz rfl rfl ?_
  intro A117 hn
  replace hsz := hn.size
  replace hdf := hn.defers.trans hdf
  replace s3 := hn.keep _ _ rfl s3
  replace s4 := hn.keep _ _ rfl s4
  replace s201 := hn.keep _ _ rfl s201
  replace s202 := hn.keep _ _ rfl s202
  clear s204
  have s205 := hn.new
  clear hn
  refine n_call (f := 20) (args := #[Value.slice (some ⟨PB, 0, none⟩) 3 3, Value.slice (a2) 2 c2]) (R := fun v w' => v = Value.bool true ∧ Below V21.heap.size V21 w') (d := 206) (by kernel_rfl) (wanted_some rfl (by kernel_rfl) s201) (run_call rfl rfl (fun _ _ => by kernel_rfl) (by simp only [List.map_toArray, List.map_cons, List.map_nil, ev_const, s202.eval, s205.eval])) ((hasL_is (b := true) (n := 3) (k := 2) rfl (RL.out.below hS) rfl (R2.out.below hS) l12_fr (by decide +kernel)).mono fun e w' ⟨he, hb⟩ => ⟨_, he, rfl, hb⟩) hsz rfl rfl ?_
  rintro _ V22 ⟨rfl, hq⟩
  refine ⟨hS.then hq, fun A118 hn => ?_⟩
  replace hS := hS.then hq
  replace N2 := N2.below hq
  replace N4 := N4.below hq
  replace N9 := N9.below hq
  replace N14 := N14.below hq
  replace N15 := N15.below hq
  replace N16 := N16.below hq
  replace N18 := N18.below hq
  replace N19 := N19.below hq
  replace N20 := N20.below hq
  clear hq
  replace hsz := hn.size
  replace hdf := hn.defers.trans hdf
  replace s3 := hn.keep _ _ rfl s3
  replace s4 := hn.keep _ _ rfl s4
  replace s201 := hn.keep _ _ rfl s201
  clear s202 s205
  have s206 := hn.new
  clear hn
  refine n_pure (v := Value.bool true) (d := 207) (y_pickT (wanted_none rfl) rfl s201.eval s206.eval) hsz rfl rfl ?_
  intro A119 hn
  replace hsz := hn.size
  replace hdf := hn.defers.trans hdf
  replace s3 := hn.keep _ _ rfl s3
  replace s4 := hn.keep _ _ rfl s4
  clear s201 s206
  have s207 := hn.new
  clear hn
  refine n_pure (v := Value.bool true) (d := 208) (y_move (wanted_none rfl) rfl s207.eval) hsz rfl rfl ?_
  intro A120 hn
  replace hsz := hn.size
  replace hdf := hn.defers.trans hdf
  replace s3 := hn.keep _ _ rfl s3
  replace s4 := hn.keep _ _ rfl s4
  clear s207
  have s208 := hn.new
  clear hn
  refine n_pure (v := Value.slice (some ⟨PB, 0, none⟩) 3 3) (d := 209) (y_move (wanted_some rfl (by kernel_rfl) s208) rfl s4.eval) hsz rfl rfl ?_
  intro A121 hn
  replace hsz := hn.size
  replace hdf := hn.defers.trans hdf
  replace s3 := hn.keep _ _ rfl s3
  replace s208 := hn.keep _ _ rfl s208
  clear s4
  have s209 := hn.new
  clear hn
  refine n_pure (v := Value.agg #[.int .i64 1, .string ⟨#[]⟩, .int .i64 0]) (d := 210) (f_ldC (wanted_some rfl (by kernel_rfl) s208) rfl s3.eval (fun _ h => keep Z0.out h) (fun _ h => keep Z1.out h) (fun _ h => keep Z2.out h)) hsz rfl rfl ?_
  intro A122 hn
  replace hsz := hn.size
  replace hdf := hn.defers.trans hdf
  replace s208 := hn.keep _ _ rfl s208
  replace s209 := hn.keep _ _ rfl s209
  clear s3
  have s210 := hn.new
  clear hn
  refine n_alloc (v := Value.slice (some ⟨V22.heap.size, 0, none⟩) 1 1) (w' := V22.alloc (.cells #[.int .i64 1, .string ⟨#[]⟩, .int .i64 0] 42)) (d := 211) (by kernel_rfl) (wanted_some rfl (by kernel_rfl) s208) (run_slice rfl (by simp only [List.map_toArray, List.map_cons, List.map_nil, s210.eval]) (f_c1 _ 1 0 ⟨#[]⟩)) (hS.new _) hsz rfl rfl ?_
  intro A123 hn
  have N23 : Row (V22.alloc (.cells #[.int .i64 1, .string ⟨#[]⟩, .int .i64 0] 42)) (some ⟨V22.heap.size, 0, none⟩) 1 [cV] := rowC1 V22 cV cV_fit 42
  have hq : Below V22.heap.size V22 (V22.alloc (.cells #[.int .i64 1, .string ⟨#[]⟩, .int .i64 0] 42)) := (Below.refl _ _).new _
  replace N2 := N2.below hq
  replace N4 := N4.below hq
  replace N9 := N9.below hq
  replace N14 := N14.below hq
  replace N15 := N15.below hq
  replace N16 := N16.below hq
  replace N18 := N18.below hq
  replace N19 := N19.below hq
  replace N20 := N20.below hq
  replace hS := hS.new (.cells #[.int .i64 1, .string ⟨#[]⟩, .int .i64 0] 42)
  clear hq
  obtain ⟨V23, hW⟩ : ∃ V, V22.alloc (.cells #[.int .i64 1, .string ⟨#[]⟩, .int .i64 0] 42) = V := ⟨_, rfl⟩
  obtain ⟨G23, hG⟩ : ∃ V, V22.heap.size = V := ⟨_, rfl⟩
  rw [hW] at hS N23 N2 N4 N9 N14 N15 N16 N18 N19 N20 ⊢
  rw [hG] at N23 hn
  clear hW hG
  replace hsz := hn.size
  replace hdf := hn.defers.trans hdf
  replace s208 := hn.keep _ _ rfl s208
  replace s209 := hn.keep _ _ rfl s209
  clear s210
  have s211 := hn.new
  clear hn
  refine n_call (f := 27) (args := #[Value.string ⟨#[112]⟩, Value.slice (some ⟨G23, 0, none⟩) 1 1]) (R := fun v w' => ∃ p q, v = Value.slice p 2 q ∧ Row w' p q (⟨3, ⟨#[112]⟩, 1⟩ :: [cV]) ∧ Below V23.heap.size V23 w') (d := 212) (by kernel_rfl) (wanted_some rfl (by kernel_rfl) s208) (run_call rfl rfl (fun _ _ => by kernel_rfl) (by simp only [List.map_toArray, List.map_cons, List.map_nil, ev_const, s211.eval])) ((p12_is (nm := ⟨#[112]⟩) (cl := ⟨3, ⟨#[112]⟩, 1⟩) (j := 2) (by decide) rfl N23 (by decide) rfl rfl).mono fun e w' ⟨p, q, he, hr, hb⟩ => ⟨_, he, p, q, rfl, hr, hb⟩) hsz rfl rfl ?_
  rintro _ V24 ⟨p24, q24, rfl, N24, hq⟩
  refine ⟨hS.then hq, fun A124 hn => ?_⟩
  replace hS := hS.then hq
  replace N2 := N2.below hq
  replace N4 := N4.below hq
  replace N9 := N9.below hq
  replace N14 := N14.below hq
  replace N15 := N15.below hq
  replace N16 := N16.below hq
  replace N18 := N18.below hq
  replace N19 := N19.below hq
  replace N20 := N20.below hq
  replace N23 := N23.below hq
  clear hq
  replace hsz := hn.size
  replace hdf := hn.defers.trans hdf
  replace s208 := hn.keep _ _ rfl s208
  replace s209 := hn.keep _ _ rfl s209
  clear s211
  have s212 := hn.new
  clear hn
  refine n_call (f := 20) (args := #[Value.slice (some ⟨PB, 0, none⟩) 3 3, Value.slice (p24) 2 q24]) (R := fun v w' => v = Value.bool false ∧ Below V24.heap.size V24 w') (d := 213) (by kernel_rfl) (wanted_some rfl (by kernel_rfl) s208) (run_call rfl rfl (fun _ _ => by kernel_rfl) (by simp only [List.map_toArray, List.map_cons, List.map_nil, ev_const, s209.eval, s212.eval])) ((hasL_is (b := false) (n := 3) (k := 2) rfl (RL.out.below hS) rfl N24 l12_fr (by decide +kernel)).mono fun e w' ⟨he, hb⟩ => ⟨_, he, rfl, hb⟩) hsz rfl rfl ?_
  rintro _ V25 ⟨rfl, hq⟩
  refine ⟨hS.then hq, fun A125 hn => ?_⟩
  replace hS := hS.then hq
  replace N2 := N2.below hq
  replace N4 := N4.below hq
  replace N9 := N9.below hq
  replace N14 := N14.below hq
  replace N15 := N15.below hq
  replace N16 := N16.below hq
  replace N18 := N18.below hq
  replace N19 := N19.below hq
  replace N20 := N20.below hq
  replace N23 := N23.below hq
  replace N24 := N24.below hq
  clear hq
  replace hsz := hn.size
  replace hdf := hn.defers.trans hdf
  replace s208 := hn.keep _ _ rfl s208
  clear s209 s212
  have s213 := hn.new
  clear hn
  refine n_pure (v := Value.bool true) (d := 214) (f_not (b := false) (wanted_some rfl (by kernel_rfl) s208) rfl s213.eval) hsz rfl rfl ?_
  intro A126 hn
  replace hsz := hn.size
  replace hdf := hn.defers.trans hdf
  replace s208 := hn.keep _ _ rfl s208
  clear s213
  have s214 := hn.new
  clear hn
  refine n_pure (v := Value.bool true) (d := 215) (y_pickT (wanted_none rfl) rfl s208.eval s214.eval) hsz rfl rfl ?_
  intro A127 hn
  replace hsz := hn.size
  replace hdf := hn.defers.trans hdf
  clear s208 s214
  have s215 := hn.new
  clear hn
  refine n_pure (v := Value.bool true) (d := 0) (y_assign (wanted_none rfl) rfl s215.eval) hsz rfl rfl ?_
  intro A128 hn
  replace hsz := hn.size
  replace hdf := hn.defers.trans hdf
  clear s215
  have s0 := hn.new
  clear hn
  exact NoPanic.normal (hQ _ _ hdf s0 hS)
end Go.Proofs.YtmmnfkggfnokjaaGreat
