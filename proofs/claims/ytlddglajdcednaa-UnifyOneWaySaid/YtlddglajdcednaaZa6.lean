/-
  Of layer 3 of sorrel: whatever arguments come in, the law UnifyOneWay returns true, and what was handed in reads as it did: where the second one has no variables, Match and Mgu are the same, or there is neither; what is matched is made of the first one. No condition.
-/
import Derived.Test.YtlddglajdcednaaZr10
namespace Go.Proofs.Ytlddglajdcednaa
open Go.RowKit

set_option maxRecDepth 100000 in
set_option maxHeartbeats 8000000 in
theorem lawOneWay_any (w : World) (xs ys : List Cel) (a : Option Addr) (cap : Nat) (a' : Option Addr) (cap' : Nat) (hx : Row w a cap xs) (hy : Row w a' cap' ys) :
    Calls Try.prog 8 #[.slice a xs.length cap, .slice a' ys.length cap'] w fun e w' => e = .returned (.bool true) ∧ Below w.heap.size w w' := by
  have HX := mkHid hx
  have HY := mkHid hy
  clear hx hy
  go_enter Try.func8, Try.ntmps8
  go_wp2_with fail
  refine (head_any _).mono ?_
  rintro e w1 ⟨rfl, hb1⟩
  go_wp2_with fail
  refine (umade (HX.out.below hb1) (by omega) (by omega)).mono ?_
  rintro e w2 ⟨a2, c2, p, rfl, hp, rp, p0, lp, hb2⟩
  have hb02 := hb1.then hb2
  go_wp2_with fail
  refine (umade (HY.out.below hb02) (by omega) (by omega)).mono ?_
  rintro e w3 ⟨a3, c3, q, rfl, hq, rq, q0, lq, hb3⟩
  have hb03 := hb02.then hb3
  have HP := mkHid (hp.below hb3)
  have HQ := mkHid hq
  have HRP := mkHid rp
  have HRQ := mkHid rq
  clear hp hq rp rq
  cases hm : matchB p q with
  | false =>
    have HM := mkHid hm
    have HL := mkHid (match_no hm)
    clear hm
    go_wp2_with fail
    refine (umatch HP.out HQ.out HRP.out HRQ.out HL.out HM.out).mono ?_
    rintro e w4 ⟨a4, c4, rfl, hx4, hb4⟩
    have hb04 := hb03.then hb4
    have HX4 := mkHid hx4
    clear hx4
    cases hg : groundB q with
    | false =>
      have HG := mkHid hg
      clear hg
      go_wp2_with fail
      refine (uground (HQ.out.below hb4) (by omega) HG.out).mono ?_
      rintro e w5 ⟨rfl, hb5⟩
      have hb05 := hb04.then hb5
      go_wp2_with fail
      go_ret
      exact ⟨rfl, hb05⟩
    | true =>
      have HO := mkHid (match_ground HRP.out HRQ.out hg)
      have HG := mkHid hg
      clear hg
      go_wp2_with fail
      refine (uground (HQ.out.below hb4) (by omega) HG.out).mono ?_
      rintro e w5 ⟨rfl, hb5⟩
      have hb05 := hb04.then hb5
      have hb45 := hb4.then hb5
      go_wp2_with fail
      refine (umgu (L := []) (E := 3) (HP.out.below hb45) (HQ.out.below hb45) HRP.out HRQ.out (by rw [HO.out, HM.out]; rfl) (by rw [HO.out, HM.out]; rfl)).mono ?_
      rintro e w6 ⟨a6, c6, rfl, hx6, hb6⟩
      have hb06 := hb05.then hb6
      have hx46 := (HX4.out.below hb5).below hb6
      have HX46 := mkHid hx46
      have HX6 := mkHid hx6
      clear hx46 hx6
      go_wp2_with fail
      refine (usame3 (b := true) HX6.out HX46.out rfl).mono ?_
      rintro e w7 ⟨rfl, hb7⟩
      have hb07 := hb06.then hb7
      go_wp2_with fail
      go_ret
      exact ⟨rfl, hb07⟩
  | true =>
    have HM := mkHid hm
    have HPUT := mkHid (match_put HRP.out HRQ.out hm)
    clear hm
    obtain ⟨L, hL⟩ : ∃ L, matchL p q = L := ⟨_, rfl⟩
    have HL := mkHid hL
    have HAB : Hid (apB L p = true) := by
      show apB L p = true
      unfold apB
      rw [← hL, HPUT.out.1]; simp; omega
    have HAL : Hid (apL L p = q) := by
      show apL L p = q
      rw [apL_yes HAB.out, ← hL, HPUT.out.1]
    have HR : Hid (rightS L = true) := by
      show rightS L = true
      rw [← hL]; exact HPUT.out.2.1
    have HLT : Hid (∀ x ∈ L, x.t.length ≤ 200) := by
      show ∀ x ∈ L, x.t.length ≤ 200
      rw [← hL]; exact HPUT.out.2.2
    clear hL
    go_wp2_with fail
    refine (umatch HP.out HQ.out HRP.out HRQ.out HL.out HM.out).mono ?_
    rintro e w4 ⟨a4, c4, rfl, hx4, hb4⟩
    have hb04 := hb03.then hb4
    have HX4 := mkHid hx4
    clear hx4
    go_wp2_with fail
    refine (uapply HX4.out (HP.out.below hb4) HLT.out (by omega) HAL.out HAB.out).mono ?_
    rintro e w5 ⟨a5, c5, rfl, hx5, hb5⟩
    have hb05 := hb04.then hb5
    have hb45 := hb4.then hb5
    have HX5 := mkHid hx5
    clear hx5
    go_wp2_with fail
    refine (usame1 (b := true) HX5.out (HQ.out.below hb45) (by simp)).mono ?_
    rintro e w6 ⟨rfl, hb6⟩
    have hb06 := hb05.then hb6
    have hb46 := hb45.then hb6
    have hb56 := hb5.then hb6
    go_wp2_with fail
    refine (uright2 (HX4.out.below hb56) HR.out).mono ?_
    rintro e w7 ⟨rfl, hb7⟩
    have hb07 := hb06.then hb7
    have hb47 := hb46.then hb7
    have hb57 := hb56.then hb7
    cases hg : groundB q with
    | false =>
      have HG := mkHid hg
      clear hg
      go_wp2_with fail
      refine (uground (HQ.out.below hb47) (by omega) HG.out).mono ?_
      rintro e w8 ⟨rfl, hb8⟩
      have hb08 := hb07.then hb8
      go_wp2_with fail
      go_ret
      exact ⟨rfl, hb08⟩
    | true =>
      have HO : Hid (mguL p q = some (some L)) := by
        show mguL p q = some (some L)
        rw [match_ground HRP.out HRQ.out hg, HM.out, HL.out]; rfl
      have HG := mkHid hg
      clear hg
      go_wp2_with fail
      refine (uground (HQ.out.below hb47) (by omega) HG.out).mono ?_
      rintro e w8 ⟨rfl, hb8⟩
      have hb08 := hb07.then hb8
      have hb48 := hb47.then hb8
      have hb58 := hb57.then hb8
      go_wp2_with fail
      refine (umgu (L := L) (E := 0) (HP.out.below hb48) (HQ.out.below hb48) HRP.out HRQ.out (by rw [HO.out]; rfl) (by rw [HO.out]; rfl)).mono ?_
      rintro e w9 ⟨a9, c9, rfl, hx9, hb9⟩
      have hb09 := hb08.then hb9
      have HX49 := mkHid ((HX4.out.below hb58).below hb9)
      have HX9 := mkHid hx9
      clear hx9
      go_wp2_with fail
      refine (usame3 (b := true) HX9.out HX49.out (by simp)).mono ?_
      rintro e w10 ⟨rfl, hb10⟩
      have hb010 := hb09.then hb10
      go_wp2_with fail
      go_ret
      exact ⟨rfl, hb010⟩
end Go.Proofs.Ytlddglajdcednaa
namespace Go.Proofs.Ytlddglajdcednaa
open Go.RowKit Go.ChangeShapes Go.WideShapes Go.ChangeAt
open Go.ChangeMaps (open_string)

set_option maxRecDepth 100000 in
set_option maxHeartbeats 1000000 in
theorem UnifyOneWay_lifted (os : Os) (started : os.Started) (H : Type) (enc : TypeId × Value → H) :
    ReturnsInHanded {} Try.checked os 8 .any (Rows.unifyOneWaySpec.pre6 enc Try.prog Try.f8 Rows.unifyOneWayRow.domain false) (Rows.unifyOneWaySpec.post enc Try.prog Try.f8 false true false false) := by
  refine returnsInHanded_of_change (C := Try.checked) Try.own started (by kernel_rfl) Try.func8
    (ChangeSpec.witness6 (enc := enc) (C := Try.checked) false ⟨#[], #[.slice none 0 0, .slice none 0 0], []⟩ 8 (by kernel_rfl) (by kernel_rfl) (by kernel_rfl) (by kernel_rfl)) ?_
  intro W base args ds gs before hval0 hW hcnd _
  have hval : ∀ (j : Nat) t v, Try.f8.params[j]? = some t → args[j]? = some v → Value.okWide Try.prog W .any base t v := hval0
  have hW' := hW
  obtain ⟨p, q, hA0, hV, rfl, hfz, hnd⟩ := hW
  have hA : DataW.TrodAll enc Try.prog W 0 (fun _ => true) true Try.f8.params.toList args.toList ds p := hA0
  rw [Try.params8] at hA hval
  obtain ⟨v0, vs0, d0, ds0, p0, q0, hargs, rfl, rfl, h0, r0⟩ := trodAll_cons hA
  obtain ⟨v1, vs1, d1, ds1, p1, q1, rfl, rfl, rfl, h1, r1⟩ := trodAll_cons r0
  obtain ⟨rfl, rfl, rfl⟩ := trodAll_nil r1
  obtain rfl : args = #[v0, v1] := by cases args; simp_all
  obtain ⟨rfl, rfl⟩ := trodVars_none hV
  have k0 := h0
  have lt0 : ∀ x ∈ p0, x.block < W.heap.size := by obtain ⟨m, hm⟩ := k0; exact DataW.trod_lt m _ _ _ hm
  obtain ⟨a0, len0, cap0, rfl⟩ := okWide_slice Try.underlying22 (hval 0 22 v0 rfl rfl)
  obtain ⟨xs0, rfl, hr0⟩ : ∃ xs : List Cel, xs.length = len0 ∧ Row W a0 cap0 xs := by
    obtain ⟨fuel, hf⟩ := h0
    exact open_cells hf
  have k1 := h1
  have lt1 : ∀ x ∈ p1, x.block < W.heap.size := by obtain ⟨m, hm⟩ := k1; exact DataW.trod_lt m _ _ _ hm
  obtain ⟨a1, len1, cap1, rfl⟩ := okWide_slice Try.underlying22 (hval 1 22 v1 rfl rfl)
  obtain ⟨xs1, rfl, hr1⟩ : ∃ xs : List Cel, xs.length = len1 ∧ Row W a1 cap1 xs := by
    obtain ⟨fuel, hf⟩ := h1
    exact open_cells hf
  clear hA0 hval0
  refine (lawOneWay_any W xs0 xs1 a0 cap0 a1 cap1 hr0 hr1).mono fun e W' ⟨he, bel⟩ => ?_
  subst he
  exact ⟨_, rfl, _, _, _, [], _, [], hW', trodAll_mk1 (shut_bool Try.underlying4 _), (trodAll_cons_mk (Below.trod Try.laidOut (by kernel_rfl) (of_decide_eq_true (by kernel_rfl)) k0 bel lt0) (trodAll_cons_mk (Below.trod Try.laidOut (by kernel_rfl) (of_decide_eq_true (by kernel_rfl)) k1 bel lt1) trodAll_mk0)), rfl, bel.frame _, fun h => by cases h⟩

theorem UnifyOneWay_over : Rows.unifyOneWayRow.holds Try.pinned (OpenSpec.ofChange Rows.unifyOneWaySpec) :=
  OpenClaim.holds_of_wide 8 Try.f8 rfl rfl rfl rfl rfl rfl rfl ⟨rfl, rfl, rfl, rfl, rfl⟩ rfl rfl rfl rfl rfl (by kernel_rfl) Try.func8 (by kernel_rfl)
    (of_decide_eq_true (by kernel_rfl)) (by unfold Func.isWrapper; first | (rw [if_pos (by decide +kernel)]; kernel_rfl) | (rw [if_neg (by decide +kernel)]; exact ⟨rfl, rfl⟩))
    (fun os started H enc _ => UnifyOneWay_lifted os started H enc)

theorem UnifyOneWay_holds : Rows.UnifyOneWaySaid := UnifyOneWay_over
end Go.Proofs.Ytlddglajdcednaa
