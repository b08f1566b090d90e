/-
  Of layer 7 of sorrel: whatever arguments come in, the law ProgTells returns true, and what was handed in reads as it did: whether any clause is safe, any clauses are right, and the predicates, links and levels of those that may be, are the document's. No condition.
-/
import Derived.Test.YtkgebkinlpmpnaaZr5
namespace Go.Proofs.Ytkgebkinlpmpnaa
open Go.RowKit Go.Shelf Go.Lib

set_option maxHeartbeats 16000000 in
set_option maxRecDepth 100000 in
theorem lawTells_any (w : World) (l : List Cl) (a : Option Addr) (cap : Nat) (hr : Row w a cap l) (p : Pd) (pf : p.fit) :
    Calls Try.prog 3 #[.slice a l.length cap, .agg #[.string p.s, .int .i64 p.n]] w fun e w' => e = .returned (.bool true) ∧ Below w.heap.size w w' := by
  have hm1 := hr.max
  have hm2 := hr.le
  have hb0 := (Below.refl w.heap.size w).new (.cells #[.string p.s, .int .i64 p.n] 24)
  have q0 : (w.alloc (.cells #[.string p.s, .int .i64 p.n] 24)).cell? ⟨w.heap.size, 0, none⟩ = some (.string p.s) := World.cell?_alloc_at _ _ _ 0 rfl
  have q1 : (w.alloc (.cells #[.string p.s, .int .i64 p.n] 24)).cell? ⟨w.heap.size, 1, none⟩ = some (.int .i64 p.n) := World.cell?_alloc_at _ _ _ 1 rfl
  cases hG : greatB l with
  | true =>
    have HG := mkHid hG
    clear hG
    go_enter Try.func3, Try.ntmps3
    go_wp2_with fail
    refine (head7_any _).mono ?_; rintro e w1 ⟨rfl, hb1⟩
    have hb := hb0.then hb1
    go_wp2_with fail
    refine (great_is (hr.below hb) HG).mono ?_; rintro e w2 ⟨rfl, rfl⟩
    go_wp2_with fail
    go_ret
    exact ⟨rfl, hb⟩
  | false =>
    have HG := mkHid hG
    have hl70 := great_len hG
    have HMM := mkHid (made_mays l)
    have hml := made_len l
    clear hG
    go_enter Try.func3, Try.ntmps3
    go_wp2_with fail
    refine (head7_any _).mono ?_; rintro e w1 ⟨rfl, hb1⟩
    have hb := hb0.then hb1
    have p0 := keep q0 hb1
    have p1 := keep q1 hb1
    clear q0 q1 hb0 hb1
    go_wp2_with fail
    refine (great_is (hr.below hb) HG).mono ?_; rintro e w2 ⟨rfl, rfl⟩
    go_wp2_with fail
    go_loopw [6] (fun i wr => ∃ k : Nat, k ≤ l.length ∧ i = .int .i64 k ∧ Below w1.heap.size w1 wr) (fun i wr => l.length - (intOf i).toNat)
    case atStart => exact ⟨0, Nat.zero_le _, rfl, Below.refl _ _⟩
    case round =>
      obtain ⟨k, hk, rfl, hbk⟩ := hrel
      have hbl := hb.then hbk
      by_cases hlt : k < l.length
      · obtain ⟨b, off, rfl, hbb, hat⟩ := hr.cases.resolve_left (fun e => by simp [e] at hlt)
        obtain ⟨a1, cap1, a2, cap2, c0, c1, hv⟩ := clv_at (cap := cap) hat hbl hlt
        obtain ⟨b0, hb0⟩ : ∃ b0, safeB l[k] = b0 := ⟨_, rfl⟩
        have HS := mkHid hb0
        have t1 : (b0 != b0) = false := by simp
        have l0 := keepL c0
        have l1 := keepL c1
        clear hb0 hat
        go_wp2_with fail
        refine wp_region_calm (by kernel_rfl) (by kernel_rfl) ?_
        repeat (go_big_quiet_step (first
          | exact Calls.calm_of (safep_is a1 cap1 a2 cap2 _ l[k] b0 (hv.below (Later.ok _)) HS)
          | exact Calls.calm_of (refsafe_is (hv.below (Later.ok _)) HS)))
        refine wpQuiet_nil ?_
        rintro _ ⟨y, rfl⟩
        have hy := y.ok
        go_wp2_with fail
        go_round
        case rel => exact ⟨k + 1, by omega, by go_num, hbk.then hy⟩
        case measure => simp [intOf]; omega
      · have s0 := keep p0 hbk
        have s1 := keep p1 hbk
        have hb := hbl
        have hrr := hr.below hbl
        obtain ⟨b0, hb0⟩ : ∃ b0, rightP l = b0 := ⟨_, rfl⟩
        have HRT := mkHid hb0
        have t1 : (b0 != b0) = false := by simp
        clear hb0 hbk hbl p0 p1
        go_wp2_with fail
        refine (rightp_is _ _ _ l b0 hrr HRT).mono ?_; rintro e w2 ⟨rfl, hb2⟩
        replace hrr := hrr.below hb2
        replace hb := hb.then hb2
        replace s0 := keep s0 hb2
        replace s1 := keep s1 hb2
        go_wp2_with fail
        refine (refright_is hrr HRT).mono ?_; rintro e w3 ⟨rfl, hb3⟩
        replace hrr := hrr.below hb3
        replace hb := hb.then hb3
        replace s0 := keep s0 hb3
        replace s1 := keep s1 hb3
        obtain ⟨m, hme⟩ : ∃ m, madeL l = m := ⟨_, rfl⟩
        have HME := mkHid hme
        rw [hme] at HMM hml
        clear hme hb2 hb3
        go_wp2_with fail
        refine (made_is hrr (by omega) HME).mono ?_; rintro e w4 ⟨am, cm, rfl, hrm, hb4⟩
        replace hb := hb.then hb4
        replace s0 := keep s0 hb4
        replace s1 := keep s1 hb4
        have HLV : Hid (lvL m = lvL m ∧ lvB m = lvB m) := ⟨rfl, rfl⟩
        obtain ⟨L, hL⟩ : ∃ L, lvL m = L := ⟨_, rfl⟩
        obtain ⟨B, hB⟩ : ∃ B, lvB m = B := ⟨_, rfl⟩
        replace HLV : Hid (lvL m = L ∧ lvB m = B) := ⟨hL, hB⟩
        clear hL hB hb4 hrr
        go_wp2_with fail
        refine (levelsp_lv hrm HMM (by omega) HLV).mono ?_; rintro e w5 ⟨aL, cL, rfl, hrL, hb5⟩
        replace hb := hb.then hb5
        replace s0 := keep s0 hb5
        replace s1 := keep s1 hb5
        replace hrm := hrm.below hb5
        go_wp2_with fail
        refine (reflevels_lv hrm HMM (by omega) HLV).mono ?_; rintro e w6 ⟨aM, cM, rfl, hrM, hb6⟩
        replace hb := hb.then hb6
        replace s0 := keep s0 hb6
        replace s1 := keep s1 hb6
        replace hrm := hrm.below hb6
        replace hrL := hrL.below hb6
        obtain ⟨P, hP⟩ : ∃ P, predsL m = P := ⟨_, rfl⟩
        have HP := mkHid hP
        clear hP hb5 hb6
        go_wp2_with fail
        refine (predsp_is _ _ _ m P hrm HMM (by omega) HP).mono ?_; rintro e w7 ⟨aP, cP, rfl, hrP, hb7⟩
        replace hb := hb.then hb7
        replace s0 := keep s0 hb7
        replace s1 := keep s1 hb7
        replace hrm := hrm.below hb7
        replace hrL := hrL.below hb7
        replace hrM := hrM.below hb7
        go_wp2_with fail
        refine (refpreds_is hrm HMM (by omega) HP).mono ?_; rintro e w8 ⟨aQ, cQ, rfl, hrQ, hb8⟩
        replace hb := hb.then hb8
        replace s0 := keep s0 hb8
        replace s1 := keep s1 hb8
        replace hrm := hrm.below hb8
        replace hrL := hrL.below hb8
        replace hrM := hrM.below hb8
        replace hrP := hrP.below hb8
        have hp1 := hrP.max
        have hp2 := hrP.le
        have hp3 := hrQ.max
        have hp4 := hrQ.le
        have t2 : ((P.length : Int) != (P.length : Int)) = false := by simp
        clear hb7 hb8
        go_wp2_with fail
        go_loopw [14] (fun i wr => ∃ k : Nat, k ≤ P.length ∧ i = .int .i64 k ∧ Below w8.heap.size w8 wr) (fun i wr => P.length - (intOf i).toNat)
        case atStart => exact ⟨0, Nat.zero_le _, rfl, Below.refl _ _⟩
        case round =>
          obtain ⟨k, hk, rfl, hbk⟩ := hrel
          by_cases hlt : k < P.length
          · obtain ⟨b, off, rfl, hbb, hat⟩ := hrP.cases.resolve_left (fun e => by simp [e] at hlt)
            obtain ⟨c0, c1, hfk⟩ := pd_at hat hbk hlt
            obtain ⟨b', off', rfl, hbb', hat'⟩ := hrQ.cases.resolve_left (fun e => by simp [e] at hlt)
            obtain ⟨d0, d1, _⟩ := pd_at hat' hbk hlt
            obtain ⟨L0, hL0⟩ : ∃ L0, ofL m P[k] = L0 := ⟨_, rfl⟩
            have HOF := mkHid hL0
            have hq : ∀ W, (binOp .neq 24 (.agg #[.string P[k].s, .int .i64 P[k].n]) (.agg #[.string P[k].s, .int .i64 P[k].n])).run Try.prog W = .ok (.bool false) W := fun W => by
              have := run_neq_pd P[k] P[k] W; rwa [decide_eq_true rfl] at this
            have hrmk := hrm.below (hbk.then (Below.refl _ _).drew)
            have HT : Hid (decide (L0 = L0) = true) := by rw [Hid]; exact decide_eq_true rfl
            have HI := mkHid (fun (W : World) (a1 : Option Addr) (k1 : Nat) (a2 : Option Addr) (k2 : Nat) (h1 : Row W a1 k1 L0) (h2 : Row W a2 k2 L0) => ints_is h1 h2 HT)
            clear hL0 hat hat' hbb hbb'
            go_wp2_with fail
            go_region_held3 (fun w' => w'.cell? ⟨b, off + k * 2, none⟩ = some (.string P[k].s) ∧ w'.cell? ⟨b, off + k * 2 + 1, none⟩ = some (.int .i64 P[k].n) ∧ w'.cell? ⟨b', off' + k * 2, none⟩ = some (.string P[k].s) ∧ w'.cell? ⟨b', off' + k * 2 + 1, none⟩ = some (.int .i64 P[k].n))
              (first | go_keep | exact ⟨e0, e1, e2, e3⟩ | exact ⟨f0, f1, f2, f3⟩ | exact ⟨g0, g1, g2, g3⟩)
              (first
                | (go_at_call 23; refine (ofp_is _ _ _ m P[k] L0 hrmk HMM (by omega) HOF).mono ?_; rintro e w9 ⟨a9, c9, rfl, hr9, hb9⟩; have e0 := keep (w := wr.drew) c0 hb9; have e1 := keep (w := wr.drew) c1 hb9; have e2 := keep (w := wr.drew) d0 hb9; have e3 := keep (w := wr.drew) d1 hb9)
                | (go_at_call 24; refine (refof_is (hrmk.below hb9) HMM (by omega) HOF).mono ?_; rintro e w10 ⟨a10, c10, rfl, hr10, hb10⟩; have f0 := keep e0 hb10; have f1 := keep e1 hb10; have f2 := keep e2 hb10; have f3 := keep e3 hb10)
                | (go_at_call 22; refine (HI.out _ _ _ _ _ (hr9.below hb10) hr10).mono ?_; rintro e w11 ⟨rfl, hb11⟩; have g0 := keep f0 hb11; have g1 := keep f1 hb11; have g2 := keep f2 hb11; have g3 := keep f3 hb11))
            go_wp2_with fail
            go_round
            case rel => exact ⟨k + 1, by omega, by go_num, hbk.then (((((Below.refl _ _).drew).then hb9).then hb10).then hb11)⟩
            case measure => simp [intOf]; omega
          · replace hb := hb.then hbk
            replace s0 := keep s0 hbk
            replace s1 := keep s1 hbk
            have hd : Below wr.heap.size wr wr.drew := (Below.refl _ _).drew
            have hrm2 := (hrm.below hbk).below hd
            have hrL2 := (hrL.below hbk).below hd
            have hrM2 := (hrM.below hbk).below hd
            have HT : Hid (decide (L = L) = true) := by rw [Hid]; exact decide_eq_true rfl
            have t3 : (B == B) = true := by simp
            obtain ⟨K, hK⟩ : ∃ K, linksL m = K := ⟨_, rfl⟩
            have HK := mkHid hK
            have HTK : Hid (decide (K = K) = true) := by rw [Hid]; exact decide_eq_true rfl
            obtain ⟨L0, hL0⟩ : ∃ L0, ofL m p = L0 := ⟨_, rfl⟩
            have HOF := mkHid hL0
            have HTO : Hid (decide (L0 = L0) = true) := by rw [Hid]; exact decide_eq_true rfl
            have HI := mkHid (fun (W : World) (a1 : Option Addr) (k1 : Nat) (a2 : Option Addr) (k2 : Nat) (h1 : Row W a1 k1 L) (h2 : Row W a2 k2 L) => ints_is h1 h2 HT)
            have HJ := mkHid (fun (W : World) (a1 : Option Addr) (k1 : Nat) (a2 : Option Addr) (k2 : Nat) (h1 : Row W a1 k1 K) (h2 : Row W a2 k2 K) => samelinks_is h1 h2 HTK)
            have HO := mkHid (fun (W : World) (a1 : Option Addr) (k1 : Nat) (a2 : Option Addr) (k2 : Nat) (h1 : Row W a1 k1 L0) (h2 : Row W a2 k2 L0) => ints_is h1 h2 HTO)
            clear hK hL0 hrm hrL hrM hbk
            go_wp2_with fail
            go_region_held3 (fun w' => w'.cell? ⟨w.heap.size, 0, none⟩ = some (.string p.s) ∧ w'.cell? ⟨w.heap.size, 1, none⟩ = some (.int .i64 p.n))
              (first | go_keep | exact ⟨e0, e1⟩ | exact ⟨f0, f1⟩ | exact ⟨g0, g1⟩ | exact ⟨x0, x1⟩ | exact ⟨y0, y1⟩ | exact ⟨z0, z1⟩ | exact ⟨u0, u1⟩)
              (first
                | (go_at_call 22; refine (HI.out _ _ _ _ _ hrL2 hrM2).mono ?_; rintro e w9 ⟨rfl, hb9⟩; clear HI; have e0 := keep (w := wr.drew) s0 hb9; have e1 := keep (w := wr.drew) s1 hb9)
                | (go_at_call 26; refine (linksp_is _ _ _ m K (hrm2.below hb9) HMM (by omega) HK).mono ?_; rintro e w10 ⟨a10, c10, rfl, hr10, hb10⟩; have f0 := keep e0 hb10; have f1 := keep e1 hb10)
                | (go_at_call 27; refine (reflinks_is ((hrm2.below hb9).below hb10) HMM (by omega) HK).mono ?_; rintro e w11 ⟨a11, c11, rfl, hr11, hb11⟩; have g0 := keep f0 hb11; have g1 := keep f1 hb11)
                | (go_at_call 25; refine (HJ.out _ _ _ _ _ (hr10.below hb11) hr11).mono ?_; rintro e w12 ⟨rfl, hb12⟩; have x0 := keep g0 hb12; have x1 := keep g1 hb12; have hrm3 := (((hrm2.below hb9).below hb10).below hb11).below hb12)
                | (go_at_call 23; refine (ofp_is _ _ _ m p L0 hrm3 HMM (by omega) HOF).mono ?_; rintro e w13 ⟨a13, c13, rfl, hr13, hb13⟩; have y0 := keep x0 hb13; have y1 := keep x1 hb13)
                | (go_at_call 24; refine (refof_is (hrm3.below hb13) HMM (by omega) HOF).mono ?_; rintro e w14 ⟨a14, c14, rfl, hr14, hb14⟩; have z0 := keep y0 hb14; have z1 := keep y1 hb14)
                | (go_at_call 22; refine (HO.out _ _ _ _ _ (hr13.below hb14) hr14).mono ?_; rintro e w15 ⟨rfl, hb15⟩; have u0 := keep z0 hb15; have u1 := keep z1 hb15))
            go_wp2_with fail
            go_ret
            exact ⟨rfl, hb.then (((((((hd.then hb9).then hb10).then hb11).then hb12).then hb13).then hb14).then hb15)⟩
end Go.Proofs.Ytkgebkinlpmpnaa
namespace Go.Proofs.Ytkgebkinlpmpnaa
open Go.RowKit Go.ChangeShapes Go.WideShapes Go.ChangeAt
open Go.ChangeMaps (open_string)

set_option maxRecDepth 100000 in
set_option maxHeartbeats 1000000 in
theorem ProgTells_lifted (os : Os) (started : os.Started) (H : Type) (enc : TypeId × Value → H) :
    ReturnsInHanded {} Try.checked os 3 .any (Rows.progTellsSpec.pre6 enc Try.prog Try.f3 Rows.progTellsRow.domain false) (Rows.progTellsSpec.post enc Try.prog Try.f3 false true false false) := by
  refine returnsInHanded_of_change (C := Try.checked) Try.own started (by kernel_rfl) Try.func3
    (ChangeSpec.witness6 (enc := enc) (C := Try.checked) false ⟨#[], #[.slice none 0 0, .agg #[.string ⟨#[]⟩, .int .i64 0]], []⟩ 8 (by kernel_rfl) (by kernel_rfl) (by kernel_rfl) (by kernel_rfl)) ?_
  intro W base args ds gs before hval0 hW hcnd _
  have hval : ∀ (j : Nat) t v, Try.f3.params[j]? = some t → args[j]? = some v → Value.okWide Try.prog W .any base t v := hval0
  have hW' := hW
  obtain ⟨p, q, hA0, hV, rfl, hfz, hnd⟩ := hW
  have hA : DataW.TrodAll enc Try.prog W 0 (fun _ => true) true Try.f3.params.toList args.toList ds p := hA0
  rw [Try.params3] at hA hval
  obtain ⟨v0, vs0, d0, ds0, p0, q0, hargs, rfl, rfl, h0, r0⟩ := trodAll_cons hA
  obtain ⟨v1, vs1, d1, ds1, p1, q1, rfl, rfl, rfl, h1, r1⟩ := trodAll_cons r0
  obtain ⟨rfl, rfl, rfl⟩ := trodAll_nil r1
  obtain rfl : args = #[v0, v1] := by cases args; simp_all
  obtain ⟨rfl, rfl⟩ := trodVars_none hV
  have k0 := h0
  have lt0 : ∀ x ∈ p0, x.block < W.heap.size := by obtain ⟨m, hm⟩ := k0; exact DataW.trod_lt m _ _ _ hm
  obtain ⟨a0, len0, cap0, rfl⟩ := okWide_slice Try.underlying22 (hval 0 22 v0 rfl rfl)
  obtain ⟨xs0, rfl, hr0⟩ : ∃ xs : List Cl, xs.length = len0 ∧ Row W a0 cap0 xs := by
    obtain ⟨fuel, hf⟩ := h0
    exact open_clauses7 hf
  have k1 := h1
  have lt1 : ∀ x ∈ p1, x.block < W.heap.size := by obtain ⟨m, hm⟩ := k1; exact DataW.trod_lt m _ _ _ hm
  obtain ⟨pd1, rfl, pf1⟩ : ∃ p : Pd, v1 = .agg #[.string p.s, .int .i64 p.n] ∧ p.fit := by
    obtain ⟨⟨l⟩, rfl⟩ := agg_pred (hval 1 24 v1 rfl rfl)
    obtain ⟨fuel, hf⟩ := h1
    obtain ⟨p, hc, hf2⟩ := open_pred7 hf
    have hc' : l = [.string p.s, .int .i64 p.n] := hc
    exact ⟨p, by rw [hc'], hf2⟩
  clear hA0 hval0
  refine (lawTells_any W xs0 a0 cap0 hr0 pd1 pf1).mono fun e W' ⟨he, bel⟩ => ?_
  subst he
  exact ⟨_, rfl, _, _, _, [], _, [], hW', trodAll_mk1 (shut_bool Try.underlying4 _), (trodAll_cons_mk (Below.trod Try.laidOut (by kernel_rfl) (of_decide_eq_true (by kernel_rfl)) k0 bel lt0) (trodAll_cons_mk (Below.trod Try.laidOut (by kernel_rfl) (of_decide_eq_true (by kernel_rfl)) k1 bel lt1) trodAll_mk0)), rfl, bel.frame _, fun h => by cases h⟩

theorem ProgTells_over : Rows.progTellsRow.holds Try.pinned (OpenSpec.ofChange Rows.progTellsSpec) :=
  OpenClaim.holds_of_wide 3 Try.f3 rfl rfl rfl rfl rfl rfl rfl ⟨rfl, rfl, rfl, rfl, rfl⟩ rfl rfl rfl rfl rfl (by kernel_rfl) Try.func3 (by kernel_rfl)
    (of_decide_eq_true (by kernel_rfl)) (by unfold Func.isWrapper; first | (rw [if_pos (by decide +kernel)]; kernel_rfl) | (rw [if_neg (by decide +kernel)]; exact ⟨rfl, rfl⟩))
    (fun os started H enc _ => ProgTells_lifted os started H enc)

theorem ProgTells_holds : Rows.ProgTellsSaid := ProgTells_over
end Go.Proofs.Ytkgebkinlpmpnaa
