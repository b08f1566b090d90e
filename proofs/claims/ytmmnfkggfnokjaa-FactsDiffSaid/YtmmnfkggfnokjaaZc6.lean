/-
  Of layer 12 of sorrel: whatever arguments come in, the law FactsDiff returns true, and what was handed in reads as it did: with what Diff tells added to the one row, and dropped from it, it is the other one; of the other way round both rows are turned; of a row and itself there is none. No condition.
-/
import Derived.Test.YtmmnfkggfnokjaaZr8
namespace Go.Proofs.Ytmmnfkggfnokjaa
open Go.RowKit

theorem apart1 {A B : List (List Cel)} (hA : FR A) (hB : FR B) (h1 : A.length ≤ 40) (h2 : B.length ≤ 40) {k : Nat} (hk : k < (lessF B A).length) :
    decide ((lessF B A)[k] ∈ A) = false ∧ decide ((lessF B A)[k] ∈ B) = true ∧ addE (addsF A ((lessF B A).take k)) (lessF B A)[k] = 0 ∧ addF (addsF A ((lessF B A).take k)) (lessF B A)[k] = addsF A ((lessF B A).take (k + 1)) ∧ FR (addsF A ((lessF B A).take k)) := by
  obtain ⟨m1, m2⟩ := mem_lessF.1 (List.getElem_mem hk)
  have hl : (lessF B A).length ≤ B.length := List.length_filter_le _ _
  have hn := addsF_len ((lessF B A).take k) A
  rw [List.length_take] at hn
  exact ⟨decide_eq_false m2, decide_eq_true m1, addE_ok (hB.all _ m1) (by omega), (adds_take hk).symm, hA.adds⟩
theorem apart2 {A B : List (List Cel)} (hA : FR A) (hB : FR B) (h1 : A.length ≤ 40) (h2 : B.length ≤ 40) {k : Nat} (hk : k < (lessF A B).length) :
    dropE (dropsF (addsF A (lessF B A)) ((lessF A B).take k)) (lessF A B)[k] = 0 ∧ dropF (dropsF (addsF A (lessF B A)) ((lessF A B).take k)) (lessF A B)[k] = dropsF (addsF A (lessF B A)) ((lessF A B).take (k + 1)) ∧ FR (dropsF (addsF A (lessF B A)) ((lessF A B).take k)) := by
  have hmk := List.getElem_mem hk
  obtain ⟨m1, m2⟩ := mem_lessF.1 hmk
  have hl : (lessF B A).length ≤ B.length := List.length_filter_le _ _
  have hall : ∀ y, y ∈ addsF A (lessF B A) ↔ y ∈ lessF B A ∨ y ∈ A := fun y => mem_addsF (fun x hx => hB.all x (mem_lessF.1 hx).1) (by omega)
  have hin : (lessF A B)[k] ∈ dropsF (addsF A (lessF B A)) ((lessF A B).take k) := by
    rw [mem_dropsF (fun x hx => hA.all x (mem_lessF.1 (List.mem_of_mem_take hx)).1) (fun x hx => (hall x).2 (.inr (mem_lessF.1 (List.mem_of_mem_take hx)).1)) ((hA.less B).nodup.sublist (List.take_sublist _ _))]
    refine ⟨(hall _).2 (.inr m1), fun h => ?_⟩
    obtain ⟨j, hj, e⟩ := List.getElem_of_mem h
    rw [List.length_take] at hj
    rw [List.getElem_take] at e
    have := (hA.less B).nodup
    exact List.pairwise_iff_getElem.1 this j k (by omega) hk (by omega) e
  exact ⟨dropE_ok (hA.all _ m1) hin, (drops_take hk).symm, (hA.adds).drops⟩

set_option maxHeartbeats 4000000 in
set_option maxRecDepth 100000 in
theorem lawDiff_any (hH : Head12) (a : Option Addr) (cap : Nat) (l : List (List Cel)) (a' : Option Addr) (cap' : Nat) (l' : List (List Cel)) (w : World) (hr : Row w a cap l) (ht : Row w a' cap' l') :
    Calls Try.prog 10 #[.slice a l.length cap, .slice a' l'.length cap'] w fun e w' => e = .returned (.bool true) ∧ Below w.heap.size w w' := by
  have hm := hr.max
  have hm2 := hr.le
  have HH := mkHid hH
  clear hH
  go_enter Try.func10, Try.ntmps10
  go_wp2_with fail
  refine (HH.out _).mono ?_
  rintro e w1 ⟨rfl, hb1⟩
  go_wp2_with fail
  refine (row12_any a cap w1 l (hr.below hb1) 40 (by omega)).mono ?_
  rintro e w2 ⟨a2, c2, A, rfl, hr2, hFA, hlA, hb2⟩
  have hb12 := hb1.then hb2
  go_wp2_with fail
  refine (row12_any a' cap' w2 l' (ht.below hb12) 40 (by omega)).mono ?_
  rintro e w3 ⟨a3, c3, B, rfl, hr3, hFB, hlB, hb3⟩
  have rA := hr2.below hb3
  have hB3 := hb12.then hb3
  have FA := mkHid hFA
  have FB := mkHid hFB
  clear hb1 hb2 hb12 hb3 hr2 ht hr
  obtain ⟨X, hX⟩ : ∃ X, lessF B A = X := ⟨_, rfl⟩
  obtain ⟨Y, hY⟩ : ∃ Y, lessF A B = Y := ⟨_, rfl⟩
  have HX := mkHid hX
  have HY := mkHid hY
  have HZ : Hid (lessF A A = []) := less_self A
  have HBACK : Hid (dropsF (addsF A X) Y = B) := by rw [Hid, ← hX, ← hY]; exact apart_back hFA hFB (by omega)
  have H1 : Hid (∀ k (hk : k < X.length), decide (X[k] ∈ A) = false ∧ decide (X[k] ∈ B) = true ∧ addE (addsF A (X.take k)) X[k] = 0 ∧ addF (addsF A (X.take k)) X[k] = addsF A (X.take (k + 1)) ∧ FR (addsF A (X.take k))) := by
    subst hX; exact fun k hk => apart1 hFA hFB hlA hlB hk
  have H2 : Hid (∀ k (hk : k < Y.length), dropE (dropsF (addsF A X) (Y.take k)) Y[k] = 0 ∧ dropF (dropsF (addsF A X) (Y.take k)) Y[k] = dropsF (addsF A X) (Y.take (k + 1)) ∧ FR (dropsF (addsF A X) (Y.take k))) := by
    subst hX; subst hY; exact fun k hk => apart2 hFA hFB hlA hlB hk
  clear hX hY hFA hFB
  go_wp2_with fail
  refine (diffK rA hr3 FA FB HX HY).mono ?_
  rintro e w4 ⟨a4, c4, a5, c5, rfl, rX, rY, hb4⟩
  go_wp2_with fail
  refine (diffK (hr3.below hb4) (rA.below hb4) FB FA HY HX).mono ?_
  rintro e w5 ⟨a6, c6, a7, c7, rfl, rU, rV, hb5⟩
  have hb45 := hb4.then hb5
  go_wp2_with fail
  refine (diffK (rA.below hb45) (rA.below hb45) FA FA HZ HZ).mono ?_
  rintro e w6 ⟨a8, c8, a9, c9, rfl, _, _, hb6⟩
  have hb46 := hb45.then hb6
  have qA := rA.below hb46
  have qB := hr3.below hb46
  have qX := (rX.below hb5).below hb6
  have qY := (rY.below hb5).below hb6
  have qU := rU.below hb6
  have qV := rV.below hb6
  have hB6 := hB3.then hb46
  clear hb4 hb5 hb45 hb6 hb46 rA hr3 rX rY rU rV hB3
  have hx1 := qX.max
  have hx2 := qX.le
  have hy1 := qY.max
  have hy2 := qY.le
  go_wp2_with fail
  go_loopw [12, 13] (fun v i wr => ∃ (k : Nat) (M : List (List Cel)) (a1 : Option Addr) (c1 : Nat), k ≤ X.length ∧ i = .int .i64 k ∧ v = .slice a1 M.length c1 ∧ Row wr a1 c1 M ∧ Below w6.heap.size w6 wr ∧ Hid (addsF A (X.take k) = M)) (fun v i wr => X.length - (intOf i).toNat)
  case atStart => exact ⟨0, A, a2, c2, Nat.zero_le _, rfl, rfl, qA, Below.refl _ _, rfl⟩
  case round =>
    obtain ⟨k, M, a1, c1, hk, rfl, rfl, hM, hbl, HM⟩ := hrel
    by_cases hlt : k < X.length
    · obtain ⟨b, off, rfl, hb, hat⟩ := qX.cases.resolve_left (fun e => by simp [e] at hlt)
      obtain ⟨ax, cx, d0, rx⟩ := list_at hat hbl hlt
      have HS := mkHid (H1.out k hlt)
      have G1 : Hid (decide (X[k] ∈ A) = false) := HS.out.1
      have G2 : Hid (decide (X[k] ∈ B) = true) := HS.out.2.1
      have G3 : Hid (addE M X[k] = 0) := by have := HS.out.2.2.1; rwa [HM.out] at this
      obtain ⟨M2, hM2⟩ : ∃ M2, addF M X[k] = M2 := ⟨_, rfl⟩
      have G4 := mkHid hM2
      have G5 : Hid (addsF A (X.take (k + 1)) = M2) := by rw [Hid, ← HS.out.2.2.2.1, HM.out]; exact hM2
      have G6 : Hid (FR M) := by rw [Hid, ← HM.out]; exact HS.out.2.2.2.2
      clear hM2 HS HM
      go_wp2_with fail
      refine (refhasK (qA.below hbl) rx G1).mono ?_
      rintro e w7 ⟨rfl, hb7⟩
      have d1 := keep d0 hb7
      go_wp2_with fail
      refine (refhasK ((qB.below hbl).below hb7) (rx.below hb7) G2).mono ?_
      rintro e w8 ⟨rfl, hb8⟩
      have hb78 := hb7.then hb8
      have d2 := keep d0 hb78
      go_wp2_with fail
      refine (addK (hM.below hb78) (rx.below hb78) G6 G4 G3).mono ?_
      rintro e w9 ⟨a10, c10, rfl, r10, hb9⟩
      go_wp2_with fail
      go_round
      case rel => exact ⟨k + 1, M2, a10, c10, by omega, by go_num, rfl, r10, (hbl.then hb78).then hb9, G5⟩
      case measure => simp [intOf]; omega
    · have HMX : Hid (addsF A X = M) := by have := HM.out; rwa [List.take_of_length_le (by omega)] at this
      clear HM H1
      go_wp2_with fail
      go_loopw [12, 16] (fun v i wr2 => ∃ (k : Nat) (M : List (List Cel)) (a1 : Option Addr) (c1 : Nat), k ≤ Y.length ∧ i = .int .i64 k ∧ v = .slice a1 M.length c1 ∧ Row wr2 a1 c1 M ∧ Below w6.heap.size w6 wr2 ∧ Hid (dropsF (addsF A X) (Y.take k) = M)) (fun v i wr => Y.length - (intOf i).toNat)
      case atStart => exact ⟨0, M, a1, c1, Nat.zero_le _, rfl, rfl, hM, hbl, HMX.out⟩
      case round =>
        clear hM hbl HMX
        obtain ⟨k2, M, a1, c1, hk2, rfl, rfl, hM, hbl, HM⟩ := hrel
        by_cases hlt2 : k2 < Y.length
        · obtain ⟨b, off, rfl, hb, hat⟩ := qY.cases.resolve_left (fun e => by simp [e] at hlt2)
          obtain ⟨ax, cx, d0, rx⟩ := list_at hat hbl hlt2
          have HS := mkHid (H2.out k2 hlt2)
          have G3 : Hid (dropE M Y[k2] = 0) := by have := HS.out.1; rwa [HM.out] at this
          obtain ⟨M2, hM2⟩ : ∃ M2, dropF M Y[k2] = M2 := ⟨_, rfl⟩
          have G4 := mkHid hM2
          have G5 : Hid (dropsF (addsF A X) (Y.take (k2 + 1)) = M2) := by rw [Hid, ← HS.out.2.1, HM.out]; exact hM2
          have G6 : Hid (FR M) := by rw [Hid, ← HM.out]; exact HS.out.2.2
          clear hM2 HS HM
          go_wp2_with fail
          refine (dropK hM rx G6 G4 G3).mono ?_
          rintro e w9 ⟨a10, c10, rfl, r10, hb9⟩
          go_wp2_with fail
          go_round
          case rel => exact ⟨k2 + 1, M2, a10, c10, by omega, by go_num, rfl, r10, hbl.then hb9, G5⟩
          case measure => simp [intOf]; omega
        · have HE : Hid (decide (M = B) = true) := decide_eq_true (by rw [← HBACK.out, ← HM.out, List.take_of_length_le (by omega)])
          clear HM H2
          go_wp2_with fail
          refine (sameK hM (qB.below hbl) HE).mono ?_
          rintro e w7 ⟨rfl, hb7⟩
          have hbl7 := hbl.then hb7
          go_wp2_with fail
          refine (sameK (b := true) (qX.below hbl7) (qV.below hbl7) (by rw [Hid]; exact decide_eq_true rfl)).mono ?_
          rintro e w8 ⟨rfl, hb8⟩
          have hbl8 := hbl7.then hb8
          go_wp2_with fail
          refine (sameK (b := true) (qY.below hbl8) (qU.below hbl8) (by rw [Hid]; exact decide_eq_true rfl)).mono ?_
          rintro e w9 ⟨rfl, hb9⟩
          go_wp2_with fail
          go_ret
          exact ⟨rfl, hB6.then (hbl8.then hb9)⟩
end Go.Proofs.Ytmmnfkggfnokjaa
namespace Go.Proofs.Ytmmnfkggfnokjaa
open Go.RowKit Go.ChangeShapes Go.WideShapes Go.ChangeAt
open Go.ChangeMaps (open_string)

set_option maxRecDepth 100000 in
set_option maxHeartbeats 1000000 in
theorem FactsDiff_lifted (os : Os) (started : os.Started) (H : Type) (enc : TypeId × Value → H) :
    ReturnsInHanded {} Try.checked os 10 .any (Rows.factsDiffSpec.pre6 enc Try.prog Try.f10 Rows.factsDiffRow.domain false) (Rows.factsDiffSpec.post enc Try.prog Try.f10 false true false false) := by
  refine returnsInHanded_of_change (C := Try.checked) Try.own started (by kernel_rfl) Try.func10
    (ChangeSpec.witness6 (enc := enc) (C := Try.checked) false ⟨#[], #[.slice none 0 0, .slice none 0 0], []⟩ 8 (by kernel_rfl) (by kernel_rfl) (by kernel_rfl) (by kernel_rfl)) ?_
  intro W base args ds gs before hval0 hW hcnd _
  have hval : ∀ (j : Nat) t v, Try.f10.params[j]? = some t → args[j]? = some v → Value.okWide Try.prog W .any base t v := hval0
  have hW' := hW
  obtain ⟨p, q, hA0, hV, rfl, hfz, hnd⟩ := hW
  have hA : DataW.TrodAll enc Try.prog W 0 (fun _ => true) true Try.f10.params.toList args.toList ds p := hA0
  rw [Try.params10] at hA hval
  obtain ⟨v0, vs0, d0, ds0, p0, q0, hargs, rfl, rfl, h0, r0⟩ := trodAll_cons hA
  obtain ⟨v1, vs1, d1, ds1, p1, q1, rfl, rfl, rfl, h1, r1⟩ := trodAll_cons r0
  obtain ⟨rfl, rfl, rfl⟩ := trodAll_nil r1
  obtain rfl : args = #[v0, v1] := by cases args; simp_all
  obtain ⟨rfl, rfl⟩ := trodVars_none hV
  have k0 := h0
  have lt0 : ∀ x ∈ p0, x.block < W.heap.size := by obtain ⟨m, hm⟩ := k0; exact DataW.trod_lt m _ _ _ hm
  obtain ⟨a0, len0, cap0, rfl⟩ := okWide_slice Try.underlying68 (hval 0 68 v0 rfl rfl)
  obtain ⟨xs0, rfl, hr0⟩ : ∃ xs : List (List Cel), xs.length = len0 ∧ Row W a0 cap0 xs := by
    obtain ⟨fuel, hf⟩ := h0
    exact open_cellss hf
  have k1 := h1
  have lt1 : ∀ x ∈ p1, x.block < W.heap.size := by obtain ⟨m, hm⟩ := k1; exact DataW.trod_lt m _ _ _ hm
  obtain ⟨a1, len1, cap1, rfl⟩ := okWide_slice Try.underlying68 (hval 1 68 v1 rfl rfl)
  obtain ⟨xs1, rfl, hr1⟩ : ∃ xs : List (List Cel), xs.length = len1 ∧ Row W a1 cap1 xs := by
    obtain ⟨fuel, hf⟩ := h1
    exact open_cellss hf
  clear hA0 hval0
  refine (lawDiff_any head12_any a0 cap0 xs0 a1 cap1 xs1 W hr0 hr1).mono fun e W' ⟨he, bel⟩ => ?_
  subst he
  exact ⟨_, rfl, _, _, _, [], _, [], hW', trodAll_mk1 (shut_bool Try.underlying4 _), (trodAll_cons_mk (Below.trod Try.laidOut (by kernel_rfl) (of_decide_eq_true (by kernel_rfl)) k0 bel lt0) (trodAll_cons_mk (Below.trod Try.laidOut (by kernel_rfl) (of_decide_eq_true (by kernel_rfl)) k1 bel lt1) trodAll_mk0)), rfl, bel.frame _, fun h => by cases h⟩

theorem FactsDiff_over : Rows.factsDiffRow.holds Try.pinned (OpenSpec.ofChange Rows.factsDiffSpec) :=
  OpenClaim.holds_of_wide 10 Try.f10 rfl rfl rfl rfl rfl rfl rfl ⟨rfl, rfl, rfl, rfl, rfl⟩ rfl rfl rfl rfl rfl (by kernel_rfl) Try.func10 (by kernel_rfl)
    (of_decide_eq_true (by kernel_rfl)) (by unfold Func.isWrapper; first | (rw [if_pos (by decide +kernel)]; kernel_rfl) | (rw [if_neg (by decide +kernel)]; exact ⟨rfl, rfl⟩))
    (fun os started H enc _ => FactsDiff_lifted os started H enc)

theorem FactsDiff_holds : Rows.FactsDiffSaid := FactsDiff_over
end Go.Proofs.Ytmmnfkggfnokjaa
