/-
  Of layer 3 of sorrel: whatever arguments come in, the law UnifyVariants returns true, and what was handed in reads as it did: a term with its variables shifted, or numbered, is a variant of it; each of two variants matches the other one; and variants of ones that are no variants are none. No condition.
-/
import Derived.Test.YtlddglajdcednaaZr10
namespace Go.Proofs.Ytlddglajdcednaa
open Go.RowKit

theorem var_shift {p P : List Cel} {n : Int} (rp : rightB p = true) (h0 : 0 ≤ n) (h1 : n ≤ 255) (e : shiftL p n = P) (hP : 0 < P.length) : numL p = numL P ∧ P.length ≤ 200 := by
  unfold shiftL at e
  split at e
  · next hr =>
    have hl := (isT_of_right hr).2.1
    rw [e] at hl
    rw [map_shift (by omega) (small_vars rp)] at e
    rw [← e]
    exact ⟨(num_shift p n).symm, by rw [← e] at hl; exact hl⟩
  · rw [← e] at hP; cases hP
theorem num_len (q : List Cel) : (numL q).length = q.length := by unfold numL; rw [List.length_map]
set_option maxRecDepth 100000 in
set_option maxHeartbeats 8000000 in
theorem lawVariants_any (w : World) (xs ys : List Cel) (a : Option Addr) (cap : Nat) (a' : Option Addr) (cap' : Nat) (hx : Row w a cap xs) (hy : Row w a' cap' ys) (n : Int) (hn : (Lit.int .u8 n).wf = true) :
    Calls Try.prog 9 #[.slice a xs.length cap, .slice a' ys.length cap', .int .u8 n] w fun e w' => e = .returned (.bool true) ∧ Below w.heap.size w w' := by
  have hlh : 0 ≤ n ∧ n ≤ 255 := by
    simp [Lit.wf, IntKind.min, IntKind.max, IntKind.signed, IntKind.bits] at hn
    omega
  obtain ⟨hlo, hhi⟩ := hlh
  clear hn
  have HX := mkHid hx
  have HY := mkHid hy
  clear hx hy
  go_enter Try.func9, Try.ntmps9
  go_wp2_with fail
  refine (head_any _).mono ?_
  rintro e w1 ⟨rfl, hb1⟩
  go_wp2_with fail
  refine (umade (HX.out.below hb1) (by omega) (by omega)).mono ?_
  rintro e w2 ⟨a2, c2, p, rfl, hp, rp, p0, lp, hb2⟩
  have hb02 := hb1.then hb2
  go_wp2_with fail
  refine (umade (HY.out.below hb02) (by omega) (by omega)).mono ?_
  rintro e w3 ⟨a3, c3, q, rfl, hq, rq, q0, lq, hb3⟩
  have hb03 := hb02.then hb3
  have HP := mkHid (hp.below hb3)
  have HQ := mkHid hq
  obtain ⟨P, hP⟩ : ∃ P, shiftL p n = P := ⟨_, rfl⟩
  obtain ⟨R, hR⟩ : ∃ R, numL q = R := ⟨_, rfl⟩
  obtain ⟨bv, hbv⟩ : ∃ b, decide (numL p = numL q) = b := ⟨_, rfl⟩
  obtain ⟨b1, hb1'⟩ : ∃ b, matchB p q = b := ⟨_, rfl⟩
  obtain ⟨b2, hb2'⟩ : ∃ b, matchB q p = b := ⟨_, rfl⟩
  obtain ⟨L1, hL1⟩ : ∃ L, matchL p q = L := ⟨_, rfl⟩
  obtain ⟨L2, hL2⟩ : ∃ L, matchL q p = L := ⟨_, rfl⟩
  have hboth : (b1 && b2) = bv := by rw [← hb1', ← hb2', ← hbv]; exact match_both rp rq
  have hV2 : decide (numL q = numL p) = bv := by rw [← hbv, decide_eq_decide]; exact eq_comm
  have hR0 : R.length = q.length := by rw [← hR]; exact num_len q
  have hRR : numL q = numL R := by rw [← hR]; exact (num_num q).symm
  have hV3 : decide (numL p = numL R) = bv := by rw [← hRR]; exact hbv
  have HSP := mkHid (fun h => var_shift rp hlo hhi hP h)
  have R0 : 0 < R.length := by omega
  have Rl : R.length ≤ 200 := by omega
  have HRP := mkHid rp
  have HRQ := mkHid rq
  have HSH := mkHid hP
  have HNU := mkHid hR
  have HBV := mkHid hbv
  have HB1 := mkHid hb1'
  have HB2 := mkHid hb2'
  have HL1 := mkHid hL1
  have HL2 := mkHid hL2
  have HV2 := mkHid hV2
  have HRR := mkHid hRR
  have HV3 := mkHid hV3
  clear hp hq hP hR hbv hb1' hb2' hL1 hL2 hV2 hRR hV3 hR0 rp rq
  go_wp2_with fail
  refine (ushift HP.out (by omega) p0 HSH.out).mono ?_
  rintro e w4 ⟨a4, c4, rfl, hx4, hb4⟩
  have hb04 := hb03.then hb4
  have HX4 := mkHid hx4
  clear hx4
  go_wp2_with fail
  refine (unumber (HQ.out.below hb4) (by omega) q0 HNU.out).mono ?_
  rintro e w5 ⟨a5, c5, rfl, hx5, hb5⟩
  have hb05 := hb04.then hb5
  have hb35 := hb4.then hb5
  have HX5 := mkHid hx5
  clear hx5
  go_wp2_with fail
  refine (uvariant (HP.out.below hb35) (HQ.out.below hb35) p0 q0 (by omega) (by omega) HBV.out).mono ?_
  rintro e w6 ⟨rfl, hb6⟩
  have hb06 := hb05.then hb6
  have hb36 := hb35.then hb6
  go_wp2_with fail
  refine (umatch (HP.out.below hb36) (HQ.out.below hb36) HRP.out HRQ.out HL1.out HB1.out).mono ?_
  rintro e w7 ⟨a7, c7, rfl, _, hb7⟩
  have hb07 := hb06.then hb7
  have hb37 := hb36.then hb7
  go_wp2_with fail
  refine (umatch (HQ.out.below hb37) (HP.out.below hb37) HRQ.out HRP.out HL2.out HB2.out).mono ?_
  rintro e w8 ⟨a8, c8, rfl, _, hb8⟩
  have hb08 := hb07.then hb8
  have hb38 := hb37.then hb8
  have HP8 := mkHid (HP.out.below hb38)
  have HQ8 := mkHid (HQ.out.below hb38)
  have HX48 := mkHid ((((HX4.out.below hb5).below hb6).below hb7).below hb8)
  have HX58 := mkHid (((HX5.out.below hb6).below hb7).below hb8)
  by_cases hP0 : 0 < P.length
  · obtain ⟨hnp, hPl⟩ := HSP.out hP0
    have HNP := mkHid hnp
    clear hnp
    have t43 : decide (0 < (P.length : Int)) = true := decide_eq_true (by omega)
    go_wp2_with fail
    refine (uvariant (b := true) HP8.out HX48.out p0 hP0 (by omega) hPl (by rw [HNP.out]; simp)).mono ?_
    rintro e w9 ⟨rfl, hb9⟩
    have hb09 := hb08.then hb9
    go_wp2_with fail
    refine (uvariant (b := true) (HP8.out.below hb9) (HP8.out.below hb9) p0 p0 (by omega) (by omega) (by simp)).mono ?_
    rintro e w10 ⟨rfl, hb10⟩
    have hb010 := hb09.then hb10
    have hb810 := hb9.then hb10
    go_wp2_with fail
    refine (uvariant (b := true) (HQ8.out.below hb810) (HX58.out.below hb810) q0 R0 (by omega) Rl (by rw [HRR.out]; simp)).mono ?_
    rintro e w11 ⟨rfl, hb11⟩
    have hb011 := hb010.then hb11
    have hb811 := hb810.then hb11
    go_wp2_with fail
    refine (uvariant (HQ8.out.below hb811) (HP8.out.below hb811) q0 p0 (by omega) (by omega) HV2.out).mono ?_
    rintro e w12 ⟨rfl, hb12⟩
    have hb012 := hb011.then hb12
    have hb812 := hb811.then hb12
    cases bv with
    | false =>
      go_wp2_with fail
      refine (uvariant (HP8.out.below hb812) (HX58.out.below hb812) p0 R0 (by omega) Rl HV3.out).mono ?_
      rintro e w13 ⟨rfl, hb13⟩
      have hb013 := hb012.then hb13
      cases b1 <;> cases b2 <;> first
        | exact absurd hboth (by decide)
        | (go_wp2_with fail; go_ret; exact ⟨rfl, hb013⟩)
    | true =>
      go_wp2_with fail
      refine (uvariant (HP8.out.below hb812) (HX58.out.below hb812) p0 R0 (by omega) Rl HV3.out).mono ?_
      rintro e w13 ⟨rfl, hb13⟩
      have hb013 := hb012.then hb13
      cases b1 <;> cases b2 <;> first
        | exact absurd hboth (by decide)
        | (go_wp2_with fail; go_ret; exact ⟨rfl, hb013⟩)
  · have t43 : decide (0 < (P.length : Int)) = false := decide_eq_false (by omega)
    go_wp2_with fail
    refine (uvariant (b := true) HP8.out HP8.out p0 p0 (by omega) (by omega) (by simp)).mono ?_
    rintro e w10 ⟨rfl, hb810⟩
    have hb010 := hb08.then hb810
    go_wp2_with fail
    refine (uvariant (b := true) (HQ8.out.below hb810) (HX58.out.below hb810) q0 R0 (by omega) Rl (by rw [HRR.out]; simp)).mono ?_
    rintro e w11 ⟨rfl, hb11⟩
    have hb011 := hb010.then hb11
    have hb811 := hb810.then hb11
    go_wp2_with fail
    refine (uvariant (HQ8.out.below hb811) (HP8.out.below hb811) q0 p0 (by omega) (by omega) HV2.out).mono ?_
    rintro e w12 ⟨rfl, hb12⟩
    have hb012 := hb011.then hb12
    have hb812 := hb811.then hb12
    cases bv with
    | false =>
      go_wp2_with fail
      refine (uvariant (HP8.out.below hb812) (HX58.out.below hb812) p0 R0 (by omega) Rl HV3.out).mono ?_
      rintro e w13 ⟨rfl, hb13⟩
      have hb013 := hb012.then hb13
      cases b1 <;> cases b2 <;> first
        | exact absurd hboth (by decide)
        | (go_wp2_with fail; go_ret; exact ⟨rfl, hb013⟩)
    | true =>
      go_wp2_with fail
      refine (uvariant (HP8.out.below hb812) (HX58.out.below hb812) p0 R0 (by omega) Rl HV3.out).mono ?_
      rintro e w13 ⟨rfl, hb13⟩
      have hb013 := hb012.then hb13
      cases b1 <;> cases b2 <;> first
        | exact absurd hboth (by decide)
        | (go_wp2_with fail; go_ret; exact ⟨rfl, hb013⟩)
end Go.Proofs.Ytlddglajdcednaa
namespace Go.Proofs.Ytlddglajdcednaa
open Go.RowKit Go.ChangeShapes Go.WideShapes Go.ChangeAt
open Go.ChangeMaps (open_string)

set_option maxRecDepth 100000 in
set_option maxHeartbeats 1000000 in
theorem UnifyVariants_lifted (os : Os) (started : os.Started) (H : Type) (enc : TypeId × Value → H) :
    ReturnsInHanded {} Try.checked os 9 .any (Rows.unifyVariantsSpec.pre6 enc Try.prog Try.f9 Rows.unifyVariantsRow.domain false) (Rows.unifyVariantsSpec.post enc Try.prog Try.f9 false true false false) := by
  refine returnsInHanded_of_change (C := Try.checked) Try.own started (by kernel_rfl) Try.func9
    (ChangeSpec.witness6 (enc := enc) (C := Try.checked) false ⟨#[], #[.slice none 0 0, .slice none 0 0, .int .u8 0], []⟩ 8 (by kernel_rfl) (by kernel_rfl) (by kernel_rfl) (by kernel_rfl)) ?_
  intro W base args ds gs before hval0 hW hcnd _
  have hval : ∀ (j : Nat) t v, Try.f9.params[j]? = some t → args[j]? = some v → Value.okWide Try.prog W .any base t v := hval0
  have hW' := hW
  obtain ⟨p, q, hA0, hV, rfl, hfz, hnd⟩ := hW
  have hA : DataW.TrodAll enc Try.prog W 0 (fun _ => true) true Try.f9.params.toList args.toList ds p := hA0
  rw [Try.params9] at hA hval
  obtain ⟨v0, vs0, d0, ds0, p0, q0, hargs, rfl, rfl, h0, r0⟩ := trodAll_cons hA
  obtain ⟨v1, vs1, d1, ds1, p1, q1, rfl, rfl, rfl, h1, r1⟩ := trodAll_cons r0
  obtain ⟨v2, vs2, d2, ds2, p2, q2, rfl, rfl, rfl, h2, r2⟩ := trodAll_cons r1
  obtain ⟨rfl, rfl, rfl⟩ := trodAll_nil r2
  obtain rfl : args = #[v0, v1, v2] := by cases args; simp_all
  obtain ⟨rfl, rfl⟩ := trodVars_none hV
  have k0 := h0
  have lt0 : ∀ x ∈ p0, x.block < W.heap.size := by obtain ⟨m, hm⟩ := k0; exact DataW.trod_lt m _ _ _ hm
  obtain ⟨a0, len0, cap0, rfl⟩ := okWide_slice Try.underlying22 (hval 0 22 v0 rfl rfl)
  obtain ⟨xs0, rfl, hr0⟩ : ∃ xs : List Cel, xs.length = len0 ∧ Row W a0 cap0 xs := by
    obtain ⟨fuel, hf⟩ := h0
    exact open_cells hf
  have k1 := h1
  have lt1 : ∀ x ∈ p1, x.block < W.heap.size := by obtain ⟨m, hm⟩ := k1; exact DataW.trod_lt m _ _ _ hm
  obtain ⟨a1, len1, cap1, rfl⟩ := okWide_slice Try.underlying22 (hval 1 22 v1 rfl rfl)
  obtain ⟨xs1, rfl, hr1⟩ : ∃ xs : List Cel, xs.length = len1 ∧ Row W a1 cap1 xs := by
    obtain ⟨fuel, hf⟩ := h1
    exact open_cells hf
  have k2 := h2
  have lt2 : ∀ x ∈ p2, x.block < W.heap.size := by obtain ⟨m, hm⟩ := k2; exact DataW.trod_lt m _ _ _ hm
  obtain ⟨n2, rfl, _, _, wf2⟩ := open_int Try.underlying5 (hval 2 5 v2 rfl rfl) h2
  clear hA0 hval0
  refine (lawVariants_any W xs0 xs1 a0 cap0 a1 cap1 hr0 hr1 n2 wf2).mono fun e W' ⟨he, bel⟩ => ?_
  subst he
  exact ⟨_, rfl, _, _, _, [], _, [], hW', trodAll_mk1 (shut_bool Try.underlying4 _), (trodAll_cons_mk (Below.trod Try.laidOut (by kernel_rfl) (of_decide_eq_true (by kernel_rfl)) k0 bel lt0) (trodAll_cons_mk (Below.trod Try.laidOut (by kernel_rfl) (of_decide_eq_true (by kernel_rfl)) k1 bel lt1) (trodAll_cons_mk (Below.trod Try.laidOut (by kernel_rfl) (of_decide_eq_true (by kernel_rfl)) k2 bel lt2) trodAll_mk0))), rfl, bel.frame _, fun h => by cases h⟩

theorem UnifyVariants_over : Rows.unifyVariantsRow.holds Try.pinned (OpenSpec.ofChange Rows.unifyVariantsSpec) :=
  OpenClaim.holds_of_wide 9 Try.f9 rfl rfl rfl rfl rfl rfl rfl ⟨rfl, rfl, rfl, rfl, rfl⟩ rfl rfl rfl rfl rfl (by kernel_rfl) Try.func9 (by kernel_rfl)
    (of_decide_eq_true (by kernel_rfl)) (by unfold Func.isWrapper; first | (rw [if_pos (by decide +kernel)]; kernel_rfl) | (rw [if_neg (by decide +kernel)]; exact ⟨rfl, rfl⟩))
    (fun os started H enc _ => UnifyVariants_lifted os started H enc)

theorem UnifyVariants_holds : Rows.UnifyVariantsSaid := UnifyVariants_over
end Go.Proofs.Ytlddglajdcednaa
