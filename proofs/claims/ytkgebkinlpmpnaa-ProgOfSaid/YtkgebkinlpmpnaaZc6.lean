/-
  Of layer 7 of sorrel: whatever arguments come in, the law ProgOf returns true, and what was handed in reads as it did: each clause is one of just one predicate, which is one of Preds; a predicate that only bodies have has none. No condition.
-/
import Derived.Test.YtkgebkinlpmpnaaZr5
namespace Go.Proofs.Ytkgebkinlpmpnaa
open Go.RowKit Go.Shelf Go.Lib

theorem ofp_new {a : Option Addr} {cap : Nat} {w : World} {m : List Cl} {p : Pd} {L : List Int} (hr : Row w a cap m) (HM : Hid (Mays m)) (hl : m.length ≤ 1000) (H : Hid (ofL m p = L)) :
    Calls Try.prog 23 #[.slice a m.length cap, .agg #[.string p.s, .int .i64 p.n]] w fun e w' => ∃ a' c', e = .returned (.slice a' L.length c') ∧ NewRow w.heap.size w' a' c' L ∧ Below w.heap.size w w' :=
  (ofp_any a cap w m p hr HM hl).mono fun _ w' ⟨v, he, hacc, hb⟩ => by
    obtain ⟨a', c', rfl, hrow⟩ := acc_newI hacc
    rw [H.out] at he hrow
    exact ⟨a', c', he, hrow.mono (by omega), hb⟩

set_option maxHeartbeats 16000000 in
set_option maxRecDepth 100000 in
theorem lawOf_any (w : World) (l : List Cl) (a : Option Addr) (cap : Nat) (hr : Row w a cap l) :
    Calls Try.prog 8 #[.slice a l.length cap] w fun e w' => e = .returned (.bool true) ∧ Below w.heap.size w w' := by
  have hm1 := hr.max
  have hm2 := hr.le
  cases hG : greatB l with
  | true =>
    have HG := mkHid hG
    clear hG
    go_enter Try.func8, Try.ntmps8
    go_wp2_with fail
    refine (head7_any _).mono ?_; rintro e w1 ⟨rfl, hb⟩
    go_wp2_with fail
    refine (great_is (hr.below hb) HG).mono ?_; rintro e w2 ⟨rfl, rfl⟩
    go_wp2_with fail
    go_ret
    exact ⟨rfl, hb⟩
  | false =>
    have HG := mkHid hG
    have hl70 := great_len hG
    have HMM := mkHid (made_mays l)
    have hml := made_len l
    clear hG
    obtain ⟨m, hme⟩ : ∃ m, madeL l = m := ⟨_, rfl⟩
    have HME := mkHid hme
    rw [hme] at HMM hml
    clear hme
    have hpl := preds_len HMM.out
    obtain ⟨P, hP⟩ : ∃ P, predsL m = P := ⟨_, rfl⟩
    have HP := mkHid hP
    have HON : Hid (∀ c : Nat, c < m.length → (P.flatMap (ofL m)).count (c : Int) = 1) := fun c hc => hP ▸ ofs_one hc
    rw [hP] at hpl
    have HFL : Hid (∀ i, ((P.take i).flatMap (ofL m)).length ≤ 100000) := fun i => by
      have h1 := flat_len (P := P) (m := m) i
      have h2 : P.length * m.length ≤ 630 * 70 := Nat.mul_le_mul (by omega) (by omega)
      omega
    clear hP
    go_enter Try.func8, Try.ntmps8
    go_wp2_with fail
    refine (head7_any _).mono ?_; rintro e w1 ⟨rfl, hb⟩
    go_wp2_with fail
    refine (great_is (hr.below hb) HG).mono ?_; rintro e w2 ⟨rfl, rfl⟩
    go_wp2_with fail
    refine (made_is (hr.below hb) (by omega) HME).mono ?_; rintro e w2 ⟨am, cm, rfl, hrm, hb2⟩
    replace hb := hb.then hb2
    go_wp2_with fail
    refine (predsp_is _ _ _ m P hrm HMM (by omega) HP).mono ?_; rintro e w4 ⟨aP, cP, rfl, hrP, hb4⟩
    replace hb := hb.then hb4
    replace hrm := hrm.below hb4
    have hk1 := hrm.max
    have hk2 := hrm.le
    have hk3 := hrP.max
    have hk4 := hrP.le
    have hms := run_intsK m.length (by omega)
    have hz := RowU.madeK (w := w4) (n := m.length) rfl
    have hb7 := (Below.refl w4.heap.size w4).new (.cells (Array.replicate m.length (Value.int .i64 0)) 3)
    have hsz : w4.heap.size < (w4.alloc (.cells (Array.replicate m.length (Value.int .i64 0)) 3)).heap.size := by simp
    rw [← cnt_nil m.length] at hz
    clear hb2 hb4
    go_wp2_with fail
    generalize hw7 : w4.alloc (.cells (Array.replicate m.length (Value.int .i64 0)) 3) = W7 at *
    generalize hu : w4.heap.size = u at *
    have hwu : w.heap.size ≤ u := by rw [← hu]; exact hb.size
    have HZ := mkHid hz
    clear hz hms hw7
    go_loopw [7] (fun i wr => ∃ k : Nat, k ≤ P.length ∧ i = .int .i64 k ∧ Hid (RowU wr u (cntL m.length ((P.take k).flatMap (ofL m)))) ∧ Below u w4 wr ∧ u < wr.heap.size) (fun i wr => P.length - (intOf i).toNat)
    case atStart => exact ⟨0, Nat.zero_le _, rfl, HZ, hb7, hsz⟩
    case round =>
      clear HZ hb7 hsz
      obtain ⟨k, hk, rfl, HB, hb8, hs8⟩ := hrel
      have hb8' : Below w4.heap.size w4 wr := by rw [hu]; exact hb8
      by_cases hlt : k < P.length
      · obtain ⟨b, off, rfl, hbb, hat⟩ := hrP.cases.resolve_left (fun e => by simp [e] at hlt)
        obtain ⟨c0, c1, hfk⟩ := pd_at hat hb8' hlt
        obtain ⟨o, ho⟩ : ∃ o, ofL m P[k] = o := ⟨_, rfl⟩
        have HO := mkHid ho
        have hol := of_len m P[k]
        rw [ho] at hol
        have HAT : Hid (∀ j (hj : j < o.length), ∃ c : Nat, o[j] = (c : Int) ∧ ∃ h : c < m.length, predOf m[c].h = P[k]) := by subst ho; exact fun j hj => of_get hj
        have HUP : Hid (∀ j (hj : j + 1 < o.length), o[j] < o[j + 1]) := by subst ho; exact fun j hj => of_up_at hj
        have HNX : Hid ((P.take (k + 1)).flatMap (ofL m) = (P.take k).flatMap (ofL m) ++ o) := by rw [Hid, flat_next hlt, ho]
        obtain ⟨D, hD⟩ : ∃ D, (P.take k).flatMap (ofL m) = D := ⟨_, rfl⟩
        rw [hD] at HNX HB
        have hDl : D.length ≤ 100000 := hD ▸ HFL.out k
        have hrm8 := hrm.below hb8'
        clear ho hD hat hbb
        go_wp2_with fail
        refine (ofp_new hrm8 HMM (by omega) HO).mono ?_; rintro e w5 ⟨ao, co, rfl, hno, hb5⟩
        obtain ⟨Bn, hBn⟩ : ∃ Bn, wr.heap.size = Bn := ⟨_, rfl⟩
        have HB5 : Hid (RowU w5 u (cntL m.length D)) := HB.out.below hb5
        have hb9 : Below u w4 w5 := hb8.trans (hb5.mono (by omega))
        have hs5 := hb5.size
        rw [hBn] at hno hs8 hs5
        have p0 := keep c0 hb5
        have p1 := keep c1 hb5
        have hPb := cell_lt c0
        have ho1 := hno.row.max
        have ho2 := hno.row.le
        clear HB hb8 hb8' hb5 c0 c1 hrm8 hBn
        go_wp2_with fail
        go_loopw [9] (fun i wz => ∃ j : Nat, j ≤ o.length ∧ i = .int .i64 j ∧ Hid (RowU wz u (cntL m.length (D ++ o.take j))) ∧ NewRow Bn wz ao co o ∧ Below u w4 wz ∧ Bn ≤ wz.heap.size) (fun i wz => o.length - (intOf i).toNat)
        case atStart => exact ⟨0, Nat.zero_le _, rfl, by rw [List.take_zero, List.append_nil]; exact HB5, hno, hb9, hs5⟩
        case round =>
          clear HB5 hno hb9 hs5
          obtain ⟨j, hj, rfl, HBj, hnj, hbj, hzj⟩ := hrel
          have hbj' : Below w4.heap.size w4 wr := by rw [hu]; exact hbj
          by_cases hjl : j < o.length
          · obtain ⟨c, hc, hcm, hcp⟩ := HAT.out j hjl
            obtain ⟨bo, oo, rfl, hbo, hato⟩ := hnj.row.cases.resolve_left (fun e => by simp [e] at hjl)
            obtain ⟨g0, glo, ghi⟩ := int_at hato (Below.refl _ _) hjl
            rw [hc] at g0
            obtain ⟨bm, om, rfl, hbm, hatm⟩ := hrm.cases.resolve_left (fun e => by simp [e] at hcm)
            obtain ⟨a1, cap1, a2, cap2, d0, d1, hr1, hr2⟩ := cl_at hatm hbj' hcm
            obtain ⟨bp, op, hpe, hbp, hatp⟩ := hrP.cases.resolve_left (fun e => by simp [e] at hlt)
            injection hpe with hpe
            injection hpe with hpe1 hpe2
            subst hpe1; subst hpe2
            obtain ⟨q0, q1, _⟩ := pd_at hatp hbj' hlt
            have h0 := atom_ne (HMM.out.at_ hcm).2.2
            have hq : ∀ W, (binOp .neq 24 (.agg #[.string (predOf m[c].h).s, .int .i64 (predOf m[c].h).n]) (.agg #[.string P[k].s, .int .i64 P[k].n])).run Try.prog W = .ok (.bool false) W := fun W => by
              have := run_neq_pd (predOf m[c].h) P[k] W
              rwa [decide_eq_true hcp] at this
            have e0 := keepL d0
            have e1 := keepL g0
            have e2 := keepL q0
            have e3 := keepL q1
            have hc0 : (0 : Int) ≤ (c : Int) := by omega
            have hc1 : (c : Int) < (m.length : Int) := by omega
            have y1 : decide ((c : Int) < 0) = false := decide_eq_false (by omega)
            have y2 : decide ((m.length : Int) ≤ (c : Int)) = false := decide_eq_false (by omega)
            have y3 : decide (m.length ≤ c) = false := decide_eq_false (by omega)
            have hT : RowU wr u (cntL m.length (D ++ o.take j)) := HBj.out
            have hcl : c < (cntL m.length (D ++ o.take j)).length := by rw [cnt_len]; exact hcm
            have t0 := hT.read hcl
            rw [cnt_get hcl] at t0
            have HST : Hid ((cntL m.length (D ++ o.take j)).set c ((((D ++ o.take j).count (c : Int) : Nat) : Int) + 1) = cntL m.length (D ++ o.take (j + 1))) := by
              rw [Hid, cnt_step hcm, List.append_assoc, List.take_succ_eq_append_getElem hjl, hc]
            have hcnt := List.count_le_length (a := (c : Int)) (l := D ++ o.take j)
            rw [List.length_append, List.length_take] at hcnt
            generalize (D ++ o.take j).count (c : Int) = X at *
            have hX : X ≤ 200000 := by omega
            clear hcnt hatm hbm hatp hbp d0 hcl
            by_cases hj0 : j = 0
            · subst hj0
              replace g0 : wr.cell? ⟨bo, oo, none⟩ = some (.int .i64 (c : Int)) := g0
              replace e1 : ∀ y : Later wr, y.w'.cell? ⟨bo, oo, none⟩ = some (.int .i64 (c : Int)) := keepL g0
              clear HUP hato hbo
              go_wp2_with fail
              refine wp_region_calm (by kernel_rfl) (by kernel_rfl) ?_
              repeat (go_big_quiet_step (exact Calls.calm_of (refpred_any a1 cap1 _ m[c].h (hr1.below (Later.ok _)) h0)))
              refine wpQuiet_nil ?_
              rintro _ ⟨x, rfl⟩
              have hx := x.ok
              have f0 := keep g0 hx
              have f1 := keep t0 hx
              have HT2 : Hid (RowU x.w' u (cntL m.length (D ++ o.take 0))) := hT.below hx
              have f2 := HT2.out.free c
              have hnx := hnj.below hx
              have hbx : Below u w4 x.w' := hbj.trans (hx.mono (by have := hT.lt; omega))
              have hzx := Nat.le_trans hzj hx.size
              generalize x.w' = W at *
              clear e0 e1 e2 e3 hx
              go_wp2_with fail
              go_round
              case rel => exact ⟨1, by omega, by go_num, by rw [← HST.out]; exact HT2.out.set c _, hnx.grown (grown_setK _ _ _ _) (fun g e => by injection e with e; omega), hbx.setCell (p := ⟨u, c, none⟩) (Nat.le_refl _) _, by simpa [World.setCell] using hzx⟩
              case measure => simp [intOf]; omega
            · obtain ⟨i, hij⟩ : ∃ i, i + 1 = j := ⟨j - 1, by omega⟩
              have hil : i < o.length := by omega
              obtain ⟨c', hc', hcm', _⟩ := HAT.out i hil
              obtain ⟨g1, _, _⟩ := int_at hato (Below.refl _ _) hil
              have hup := HUP.out i (by omega)
              have hcc : c' < c := by
                have h1 : o[i] < o[j] := by subst hij; exact hup
                rw [hc, hc'] at h1; omega
              rw [hc'] at g1
              have w1 : IntKind.i64.wrap ((j : Int) - 1) = (i : Int) := by rw [show (j : Int) - 1 = (i : Int) by omega]; exact IntWalk.i64_in _ (by omega)
              have v0 : (0 : Int) < (j : Int) := by omega
              have v1 : decide ((0 : Int) < (j : Int)) = true := decide_eq_true (by omega)
              have v2 : decide (0 < j) = true := decide_eq_true (by omega)
              have v3 : (i : Int) < (o.length : Int) := by omega
              have v4 : (0 : Int) ≤ (i : Int) := by omega
              have v5 : decide ((c : Int) ≤ (c' : Int)) = false := decide_eq_false (by omega)
              have v6 : decide (c ≤ c') = false := decide_eq_false (by omega)
              have e5 := keepL g1
              clear HUP hato hbo hup hij hj0 hc' g1
              go_wp2_with fail
              refine wp_region_calm (by kernel_rfl) (by kernel_rfl) ?_
              repeat (go_big_quiet_step (exact Calls.calm_of (refpred_any a1 cap1 _ m[c].h (hr1.below (Later.ok _)) h0)))
              refine wpQuiet_nil ?_
              rintro _ ⟨x, rfl⟩
              have hx := x.ok
              have f0 := keep g0 hx
              have f1 := keep t0 hx
              have HT2 : Hid (RowU x.w' u (cntL m.length (D ++ o.take j))) := hT.below hx
              have f2 := HT2.out.free c
              have hnx := hnj.below hx
              have hbx : Below u w4 x.w' := hbj.trans (hx.mono (by have := hT.lt; omega))
              have hzx := Nat.le_trans hzj hx.size
              generalize x.w' = W at *
              clear e0 e1 e2 e3 hx
              go_wp2_with fail
              go_round
              case rel => exact ⟨j + 1, by omega, by go_num, by rw [← HST.out]; exact HT2.out.set c _, hnx.grown (grown_setK _ _ _ _) (fun g e => by injection e with e; omega), hbx.setCell (p := ⟨u, c, none⟩) (Nat.le_refl _) _, by simpa [World.setCell] using hzx⟩
              case measure => simp [intOf]; omega
          · have HE : Hid (RowU wr u (cntL m.length ((P.take (k + 1)).flatMap (ofL m)))) := by
              have h1 := HBj.out
              rw [List.take_of_length_le (by omega)] at h1
              rw [Hid, HNX.out]; exact h1
            clear HBj hnj
            go_wp2_with fail
            go_round
            case rel => exact ⟨k + 1, by omega, by go_num, HE, hbj, by omega⟩
            case measure => simp [intOf]; omega
      · have HE : Hid (RowU wr u (cntL m.length (P.flatMap (ofL m)))) := by
          have h1 := HB.out
          rw [List.take_of_length_le (by omega)] at h1
          exact h1
        clear HB
        go_wp2_with fail
        go_loopw [10] (fun i wz => ∃ j : Nat, j ≤ m.length ∧ i = .int .i64 j ∧ wz = wr) (fun i wz => m.length - (intOf i).toNat)
        case atStart => exact ⟨0, Nat.zero_le _, rfl, rfl⟩
        case round =>
          obtain ⟨j, hj, rfl, rfl⟩ := hrel
          by_cases hjm : j < m.length
          · have hjc : j < (cntL m.length (P.flatMap (ofL m))).length := by rw [cnt_len]; exact hjm
            have e0 := HE.out.read hjc
            rw [cnt_get hjc, HON.out j hjm] at e0
            have e1 : wr.cell? ⟨u, j, none⟩ = some (.int .i64 1) := e0
            clear e0 hjc
            go_wp2_with fail
            go_round
            case rel => exact ⟨j + 1, by omega, by go_num, (by trivial)⟩
            case measure => simp [intOf]; omega
          · go_wp2_with fail
            go_ret
            exact ⟨rfl, hb.then hb8'⟩
end Go.Proofs.Ytkgebkinlpmpnaa
namespace Go.Proofs.Ytkgebkinlpmpnaa
open Go.RowKit Go.ChangeShapes Go.WideShapes Go.ChangeAt
open Go.ChangeMaps (open_string)

set_option maxRecDepth 100000 in
set_option maxHeartbeats 1000000 in
theorem ProgOf_lifted (os : Os) (started : os.Started) (H : Type) (enc : TypeId × Value → H) :
    ReturnsInHanded {} Try.checked os 8 .any (Rows.progOfSpec.pre6 enc Try.prog Try.f8 Rows.progOfRow.domain false) (Rows.progOfSpec.post enc Try.prog Try.f8 false true false false) := by
  refine returnsInHanded_of_change (C := Try.checked) Try.own started (by kernel_rfl) Try.func8
    (ChangeSpec.witness6 (enc := enc) (C := Try.checked) false ⟨#[], #[.slice none 0 0], []⟩ 8 (by kernel_rfl) (by kernel_rfl) (by kernel_rfl) (by kernel_rfl)) ?_
  intro W base args ds gs before hval0 hW hcnd _
  have hval : ∀ (j : Nat) t v, Try.f8.params[j]? = some t → args[j]? = some v → Value.okWide Try.prog W .any base t v := hval0
  have hW' := hW
  obtain ⟨p, q, hA0, hV, rfl, hfz, hnd⟩ := hW
  have hA : DataW.TrodAll enc Try.prog W 0 (fun _ => true) true Try.f8.params.toList args.toList ds p := hA0
  rw [Try.params8] at hA hval
  obtain ⟨v0, vs0, d0, ds0, p0, q0, hargs, rfl, rfl, h0, r0⟩ := trodAll_cons hA
  obtain ⟨rfl, rfl, rfl⟩ := trodAll_nil r0
  obtain rfl : args = #[v0] := by cases args; simp_all
  obtain ⟨rfl, rfl⟩ := trodVars_none hV
  have k0 := h0
  have lt0 : ∀ x ∈ p0, x.block < W.heap.size := by obtain ⟨m, hm⟩ := k0; exact DataW.trod_lt m _ _ _ hm
  obtain ⟨a0, len0, cap0, rfl⟩ := okWide_slice Try.underlying22 (hval 0 22 v0 rfl rfl)
  obtain ⟨xs0, rfl, hr0⟩ : ∃ xs : List Cl, xs.length = len0 ∧ Row W a0 cap0 xs := by
    obtain ⟨fuel, hf⟩ := h0
    exact open_clauses7 hf
  clear hA0 hval0
  refine (lawOf_any W xs0 a0 cap0 hr0).mono fun e W' ⟨he, bel⟩ => ?_
  subst he
  exact ⟨_, rfl, _, _, _, [], _, [], hW', trodAll_mk1 (shut_bool Try.underlying4 _), (trodAll_cons_mk (Below.trod Try.laidOut (by kernel_rfl) (of_decide_eq_true (by kernel_rfl)) k0 bel lt0) trodAll_mk0), rfl, bel.frame _, fun h => by cases h⟩

theorem ProgOf_over : Rows.progOfRow.holds Try.pinned (OpenSpec.ofChange Rows.progOfSpec) :=
  OpenClaim.holds_of_wide 8 Try.f8 rfl rfl rfl rfl rfl rfl rfl ⟨rfl, rfl, rfl, rfl, rfl⟩ rfl rfl rfl rfl rfl (by kernel_rfl) Try.func8 (by kernel_rfl)
    (of_decide_eq_true (by kernel_rfl)) (by unfold Func.isWrapper; first | (rw [if_pos (by decide +kernel)]; kernel_rfl) | (rw [if_neg (by decide +kernel)]; exact ⟨rfl, rfl⟩))
    (fun os started H enc _ => ProgOf_lifted os started H enc)

theorem ProgOf_holds : Rows.ProgOfSaid := ProgOf_over
end Go.Proofs.Ytkgebkinlpmpnaa
