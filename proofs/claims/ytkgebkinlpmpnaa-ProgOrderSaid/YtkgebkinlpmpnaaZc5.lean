/-
  Of layer 7 of sorrel: whatever arguments come in, the law ProgOrder returns true, and what was handed in reads as it did: the order of clauses, and how often each stands there, play no part for predicates, links and levels. No condition.
-/
import Derived.Test.YtkgebkinlpmpnaaZr5
namespace Go.Proofs.Ytkgebkinlpmpnaa
open Go.RowKit Go.Shelf Go.Lib

theorem preds_same {m N : List Cl} (h : ∀ c, c ∈ N ↔ c ∈ m) : predsL N = predsL m :=
  pd_lo.unique _ _ (preds_up N) (preds_up m) fun p => by
    rw [mem_preds, mem_preds, mem_allP, mem_allP]
    exact ⟨fun ⟨c, hc, h2⟩ => ⟨c, (h c).1 hc, h2⟩, fun ⟨c, hc, h2⟩ => ⟨c, (h c).2 hc, h2⟩⟩
theorem links_same {m N : List Cl} (h : ∀ c, c ∈ N ↔ c ∈ m) : linksL N = linksL m :=
  lk_lo.unique _ _ (links_up N) (links_up m) fun x => by
    rw [mem_links, mem_links, preds_same h]
    unfold allK
    rw [List.mem_flatMap, List.mem_flatMap]
    exact ⟨fun ⟨c, hc, h2⟩ => ⟨c, (h c).1 hc, h2⟩, fun ⟨c, hc, h2⟩ => ⟨c, (h c).2 hc, h2⟩⟩
theorem levels_same7 {m N : List Cl} (h : ∀ c, c ∈ N ↔ c ∈ m) : levelsL N = levelsL m := by
  unfold levelsL
  rw [preds_same h, links_same h]

set_option maxHeartbeats 16000000 in
set_option maxRecDepth 100000 in
theorem lawOrder_any (w : World) (l : List Cl) (a : Option Addr) (cap : Nat) (hr : Row w a cap l) (n : Int) (hn : (Lit.int .u8 n).wf = true) (tw : Bool) :
    Calls Try.prog 7 #[.slice a l.length cap, .int .u8 n, .bool tw] w fun e w' => e = .returned (.bool true) ∧ Below w.heap.size w w' := by
  have hm1 := hr.max
  have hm2 := hr.le
  cases hG : greatB l with
  | true =>
    have HG := mkHid hG
    clear hG
    go_enter Try.func7, Try.ntmps7
    go_wp2_with fail
    refine (head7_any _).mono ?_; rintro e w1 ⟨rfl, hb⟩
    go_wp2_with fail
    refine (great_is (hr.below hb) HG).mono ?_; rintro e w2 ⟨rfl, rfl⟩
    go_wp2_with fail
    go_ret
    exact ⟨rfl, hb⟩
  | false =>
    have HG := mkHid hG
    have hl70 := great_len hG
    have HMM := mkHid (made_mays l)
    have hml := made_len l
    clear hG
    obtain ⟨m, hme⟩ : ∃ m, madeL l = m := ⟨_, rfl⟩
    have HME := mkHid hme
    rw [hme] at HMM hml
    clear hme
    obtain ⟨P, hP⟩ : ∃ P, predsL m = P := ⟨_, rfl⟩
    have HP := mkHid hP
    have HUP : Hid (∀ j (hj : j + 1 < P.length), pdLt P[j] P[j + 1] = true) := by
      intro j hj
      have h1 := preds_up m
      rw [hP] at h1
      exact List.pairwise_iff_getElem.1 h1 j (j + 1) (by omega) hj (by omega)
    obtain ⟨K, hK⟩ : ∃ K, linksL m = K := ⟨_, rfl⟩
    have HK := mkHid hK
    obtain ⟨L, hL⟩ : ∃ L, lvL m = L := ⟨_, rfl⟩
    obtain ⟨B, hB⟩ : ∃ B, lvB m = B := ⟨_, rfl⟩
    have HLV : Hid (lvL m = L ∧ lvB m = B) := ⟨hL, hB⟩
    have HTK : Hid (decide (K = K) = true) := by rw [Hid]; exact decide_eq_true rfl
    have HTL : Hid (decide (L = L) = true) := by rw [Hid]; exact decide_eq_true rfl
    clear hP hK hL hB
    go_enter Try.func7, Try.ntmps7
    go_wp2_with fail
    refine (head7_any _).mono ?_; rintro e w1 ⟨rfl, hb⟩
    go_wp2_with fail
    refine (great_is (hr.below hb) HG).mono ?_; rintro e w2 ⟨rfl, rfl⟩
    go_wp2_with fail
    refine (made_is (hr.below hb) (by omega) HME).mono ?_; rintro e w2 ⟨am, cm, rfl, hrm, hb2⟩
    replace hb := hb.then hb2
    have hmx := hrm.max
    have hmy := hrm.le
    clear hb2
    by_cases h0 : m = []
    · have HBN := hb
      have HBM : Below w2.heap.size w2 w2 := Below.refl _ _
      have hm0l : m.length = 0 := by rw [h0]; rfl
      have x1 : ((m.length : Int) == 0) = true := by rw [hm0l]; rfl
      have x2 : decide ((0 : Int) < (m.length : Int)) = false := decide_eq_false (by omega)
      have x3 : decide (0 < m.length) = false := decide_eq_false (by omega)
      have hturn : Calls Try.prog 34 #[.slice am m.length cm, .int .u8 n] w2 fun e w' => e = .returned (.slice am m.length cm) ∧ w' = w2 := by
        clear hb HBN HBM HG HP HUP HK HLV HTK HTL HMM HME hrm h0 hm0l
        go_enter Try.func34, Try.ntmps34
        go_wp2
        go_ret
        exact ⟨rfl, rfl⟩
      have HTU := mkHid hturn
      clear hturn h0 hm0l
      have HPN := HP
      have HKN := HK
      have HLN := HLV
      have HMN := HMM
      go_wp2_with fail
      refine HTU.out.mono ?_; rintro e WN ⟨rfl, rfl⟩
      have hrm0 := hrm
      have hrN0 := hrm
      have hNl0 : m.length ≤ 1000 := by omega
      cases tw with
      | true =>
        have hb9 : Below w.heap.size w WN := HBN
        have hrmN := hrm0.below HBM
        have hrN := hrN0
        have hNl := hNl0
        clear hrm0 hrN0 hNl0
        go_wp2_with fail
        refine (predsp_is _ _ _ m P hrmN HMM (by omega) HP).mono ?_; rintro e w7 ⟨aP, cP, rfl, hrP, hb7⟩
        replace hb9 := hb9.then hb7
        replace hrmN := hrmN.below hb7
        replace hrN := hrN.below hb7
        go_wp2_with fail
        refine (predsp_is _ _ _ m P hrN HMN (by omega) HPN).mono ?_; rintro e w8 ⟨aQ, cQ, rfl, hrQ, hb8⟩
        replace hb9 := hb9.then hb8
        replace hrmN := hrmN.below hb8
        replace hrN := hrN.below hb8
        replace hrP := hrP.below hb8
        have hp1 := hrP.max
        have hp2 := hrP.le
        have hp3 := hrQ.max
        have hp4 := hrQ.le
        have t2 : ((P.length : Int) != (P.length : Int)) = false := by simp
        clear hb7 hb8
        go_wp2_with fail
        refine (linksp_is _ _ _ m K hrmN HMM (by omega) HK).mono ?_; rintro e w10 ⟨aK, cK, rfl, hrK, hb10⟩
        replace hb9 := hb9.then hb10
        replace hrmN := hrmN.below hb10
        replace hrN := hrN.below hb10
        replace hrP := hrP.below hb10
        replace hrQ := hrQ.below hb10
        go_wp2_with fail
        refine (linksp_is _ _ _ m K hrN HMN (by omega) HKN).mono ?_; rintro e w11 ⟨aJ, cJ, rfl, hrJ, hb11⟩
        replace hb9 := hb9.then hb11
        replace hrmN := hrmN.below hb11
        replace hrN := hrN.below hb11
        replace hrP := hrP.below hb11
        replace hrQ := hrQ.below hb11
        replace hrK := hrK.below hb11
        clear hb10 hb11
        have hz := samelinks_is hrK hrJ (show Hid (decide (K = K) = true) from decide_eq_true rfl)
        go_wp2_with fail
        refine hz.mono ?_; rintro e w12 ⟨rfl, hb12⟩
        replace hb9 := hb9.then hb12
        replace hrmN := hrmN.below hb12
        replace hrN := hrN.below hb12
        replace hrP := hrP.below hb12
        replace hrQ := hrQ.below hb12
        clear hz hb12 hrK hrJ
        go_wp2_with fail
        go_loopw [12] (fun i wr => ∃ k : Nat, k ≤ P.length ∧ i = .int .i64 k ∧ Below w12.heap.size w12 wr) (fun i wr => P.length - (intOf i).toNat)
        case atStart => exact ⟨0, Nat.zero_le _, rfl, Below.refl _ _⟩
        case round =>
          obtain ⟨k, hk, rfl, hbk⟩ := hrel
          by_cases hlt : k < P.length
          · obtain ⟨b, off, rfl, hbb, hat⟩ := hrP.cases.resolve_left (fun e => by simp [e] at hlt)
            obtain ⟨c0, c1, hfk⟩ := pd_at hat hbk hlt
            obtain ⟨b', off', rfl, hbb', hat'⟩ := hrQ.cases.resolve_left (fun e => by simp [e] at hlt)
            obtain ⟨d0, d1, _⟩ := pd_at hat' hbk hlt
            have hq : ∀ W, (binOp .neq 24 (.agg #[.string P[k].s, .int .i64 P[k].n]) (.agg #[.string P[k].s, .int .i64 P[k].n])).run Try.prog W = .ok (.bool false) W := fun W => by
              have := run_neq_pd P[k] P[k] W; rwa [decide_eq_true rfl] at this
            by_cases hk0 : k = 0
            · subst hk0
              rw [Nat.zero_mul, Nat.add_zero] at c0 c1 d0 d1
              clear hat hat' hbb hbb'
              go_wp2_with fail
              go_quiet (fail)
              go_wp2_with fail
              exact ⟨⟨1, by omega, by go_num, hbk.then (drewN_below _ _)⟩, by simp [intOf]; omega⟩
            · obtain ⟨j, hkj⟩ : ∃ j, j + 1 = k := ⟨k - 1, by omega⟩
              have hjl : j < P.length := by omega
              obtain ⟨g0, g1, hfj⟩ := pd_at hat hbk hjl
              have w1 : IntKind.i64.wrap ((k : Int) - 1) = (j : Int) := by rw [show (k : Int) - 1 = (j : Int) by omega]; exact IntWalk.i64_in _ (by omega)
              have hj0 : (0 : Int) < (k : Int) := by omega
              have hj1 : decide ((0 : Int) < (k : Int)) = true := decide_eq_true (by omega)
              have hj2 : decide (0 < k) = true := decide_eq_true (by omega)
              have hji : (j : Int) < (P.length : Int) := by omega
              have hji0 : (0 : Int) ≤ (j : Int) := by omega
              have hup : pdLt P[j] P[k] = true := by
                have := HUP.out j (by omega)
                simpa [hkj] using this
              clear hat hat' hbb hbb' hkj hk0
              rcases pd_lt_yes hup with h1 | ⟨h1, h2, h3⟩
              · have y1 : Op.bytesLess P[k].s.toList P[j].s.toList = false := by
                  cases e : Op.bytesLess P[k].s.toList P[j].s.toList with
                  | false => rfl
                  | true => have := bl_tr _ _ _ h1 e; rw [bl_irr] at this; cases this
                have y2 : (P[j].s.toList == P[k].s.toList) = false := by
                  apply beq_false_of_ne
                  intro e; rw [e, bl_irr] at h1; cases h1
                clear hup
                go_wp2_with fail
                go_quiet (fail)
                go_wp2_with fail
                exact ⟨⟨k + 1, by omega, by go_num, hbk.then (drewN_below _ _)⟩, by simp [intOf]; omega⟩
              · have y1 : Op.bytesLess P[k].s.toList P[j].s.toList = false := by rw [h2]; exact bl_irr _
                have y2 : (P[j].s.toList == P[k].s.toList) = true := by rw [h2]; simp
                have y3 : decide (P[k].n ≤ P[j].n) = false := decide_eq_false (by omega)
                clear hup h2
                go_wp2_with fail
                go_quiet (fail)
                go_wp2_with fail
                exact ⟨⟨k + 1, by omega, by go_num, hbk.then (drewN_below _ _)⟩, by simp [intOf]; omega⟩
          · replace hb9 := hb9.then hbk
            replace hrmN := hrmN.below hbk
            replace hrN := hrN.below hbk
            have t3 : (B == B) = true := by simp
            go_wp2_with fail
            refine (levelsp_lv hrmN HMM (by omega) HLV).mono ?_; rintro e w13 ⟨aL, cL, rfl, hrL, hb13⟩
            replace hb9 := hb9.then hb13
            replace hrN := hrN.below hb13
            go_wp2_with fail
            refine (levelsp_lv hrN HMN (by omega) HLN).mono ?_; rintro e w14 ⟨aM, cM, rfl, hrM, hb14⟩
            replace hb9 := hb9.then hb14
            replace hrL := hrL.below hb14
            have hz := ints_is hrL hrM (show Hid (decide (L = L) = true) from decide_eq_true rfl)
            go_wp2_with fail
            refine hz.mono ?_; rintro e w15 ⟨rfl, hb15⟩
            go_wp2_with fail
            go_ret
            exact ⟨rfl, hb9.then hb15⟩
      | false =>
        have hb9 : Below w.heap.size w WN := HBN
        have hrmN := hrm0.below HBM
        have hrN := hrN0
        have hNl := hNl0
        clear hrm0 hrN0 hNl0
        go_wp2_with fail
        refine (predsp_is _ _ _ m P hrmN HMM (by omega) HP).mono ?_; rintro e w7 ⟨aP, cP, rfl, hrP, hb7⟩
        replace hb9 := hb9.then hb7
        replace hrmN := hrmN.below hb7
        replace hrN := hrN.below hb7
        go_wp2_with fail
        refine (predsp_is _ _ _ m P hrN HMN (by omega) HPN).mono ?_; rintro e w8 ⟨aQ, cQ, rfl, hrQ, hb8⟩
        replace hb9 := hb9.then hb8
        replace hrmN := hrmN.below hb8
        replace hrN := hrN.below hb8
        replace hrP := hrP.below hb8
        have hp1 := hrP.max
        have hp2 := hrP.le
        have hp3 := hrQ.max
        have hp4 := hrQ.le
        have t2 : ((P.length : Int) != (P.length : Int)) = false := by simp
        clear hb7 hb8
        go_wp2_with fail
        refine (linksp_is _ _ _ m K hrmN HMM (by omega) HK).mono ?_; rintro e w10 ⟨aK, cK, rfl, hrK, hb10⟩
        replace hb9 := hb9.then hb10
        replace hrmN := hrmN.below hb10
        replace hrN := hrN.below hb10
        replace hrP := hrP.below hb10
        replace hrQ := hrQ.below hb10
        go_wp2_with fail
        refine (linksp_is _ _ _ m K hrN HMN (by omega) HKN).mono ?_; rintro e w11 ⟨aJ, cJ, rfl, hrJ, hb11⟩
        replace hb9 := hb9.then hb11
        replace hrmN := hrmN.below hb11
        replace hrN := hrN.below hb11
        replace hrP := hrP.below hb11
        replace hrQ := hrQ.below hb11
        replace hrK := hrK.below hb11
        clear hb10 hb11
        have hz := samelinks_is hrK hrJ (show Hid (decide (K = K) = true) from decide_eq_true rfl)
        go_wp2_with fail
        refine hz.mono ?_; rintro e w12 ⟨rfl, hb12⟩
        replace hb9 := hb9.then hb12
        replace hrmN := hrmN.below hb12
        replace hrN := hrN.below hb12
        replace hrP := hrP.below hb12
        replace hrQ := hrQ.below hb12
        clear hz hb12 hrK hrJ
        go_wp2_with fail
        go_loopw [12] (fun i wr => ∃ k : Nat, k ≤ P.length ∧ i = .int .i64 k ∧ Below w12.heap.size w12 wr) (fun i wr => P.length - (intOf i).toNat)
        case atStart => exact ⟨0, Nat.zero_le _, rfl, Below.refl _ _⟩
        case round =>
          obtain ⟨k, hk, rfl, hbk⟩ := hrel
          by_cases hlt : k < P.length
          · obtain ⟨b, off, rfl, hbb, hat⟩ := hrP.cases.resolve_left (fun e => by simp [e] at hlt)
            obtain ⟨c0, c1, hfk⟩ := pd_at hat hbk hlt
            obtain ⟨b', off', rfl, hbb', hat'⟩ := hrQ.cases.resolve_left (fun e => by simp [e] at hlt)
            obtain ⟨d0, d1, _⟩ := pd_at hat' hbk hlt
            have hq : ∀ W, (binOp .neq 24 (.agg #[.string P[k].s, .int .i64 P[k].n]) (.agg #[.string P[k].s, .int .i64 P[k].n])).run Try.prog W = .ok (.bool false) W := fun W => by
              have := run_neq_pd P[k] P[k] W; rwa [decide_eq_true rfl] at this
            by_cases hk0 : k = 0
            · subst hk0
              rw [Nat.zero_mul, Nat.add_zero] at c0 c1 d0 d1
              clear hat hat' hbb hbb'
              go_wp2_with fail
              go_quiet (fail)
              go_wp2_with fail
              exact ⟨⟨1, by omega, by go_num, hbk.then (drewN_below _ _)⟩, by simp [intOf]; omega⟩
            · obtain ⟨j, hkj⟩ : ∃ j, j + 1 = k := ⟨k - 1, by omega⟩
              have hjl : j < P.length := by omega
              obtain ⟨g0, g1, hfj⟩ := pd_at hat hbk hjl
              have w1 : IntKind.i64.wrap ((k : Int) - 1) = (j : Int) := by rw [show (k : Int) - 1 = (j : Int) by omega]; exact IntWalk.i64_in _ (by omega)
              have hj0 : (0 : Int) < (k : Int) := by omega
              have hj1 : decide ((0 : Int) < (k : Int)) = true := decide_eq_true (by omega)
              have hj2 : decide (0 < k) = true := decide_eq_true (by omega)
              have hji : (j : Int) < (P.length : Int) := by omega
              have hji0 : (0 : Int) ≤ (j : Int) := by omega
              have hup : pdLt P[j] P[k] = true := by
                have := HUP.out j (by omega)
                simpa [hkj] using this
              clear hat hat' hbb hbb' hkj hk0
              rcases pd_lt_yes hup with h1 | ⟨h1, h2, h3⟩
              · have y1 : Op.bytesLess P[k].s.toList P[j].s.toList = false := by
                  cases e : Op.bytesLess P[k].s.toList P[j].s.toList with
                  | false => rfl
                  | true => have := bl_tr _ _ _ h1 e; rw [bl_irr] at this; cases this
                have y2 : (P[j].s.toList == P[k].s.toList) = false := by
                  apply beq_false_of_ne
                  intro e; rw [e, bl_irr] at h1; cases h1
                clear hup
                go_wp2_with fail
                go_quiet (fail)
                go_wp2_with fail
                exact ⟨⟨k + 1, by omega, by go_num, hbk.then (drewN_below _ _)⟩, by simp [intOf]; omega⟩
              · have y1 : Op.bytesLess P[k].s.toList P[j].s.toList = false := by rw [h2]; exact bl_irr _
                have y2 : (P[j].s.toList == P[k].s.toList) = true := by rw [h2]; simp
                have y3 : decide (P[k].n ≤ P[j].n) = false := decide_eq_false (by omega)
                clear hup h2
                go_wp2_with fail
                go_quiet (fail)
                go_wp2_with fail
                exact ⟨⟨k + 1, by omega, by go_num, hbk.then (drewN_below _ _)⟩, by simp [intOf]; omega⟩
          · replace hb9 := hb9.then hbk
            replace hrmN := hrmN.below hbk
            replace hrN := hrN.below hbk
            have t3 : (B == B) = true := by simp
            go_wp2_with fail
            refine (levelsp_lv hrmN HMM (by omega) HLV).mono ?_; rintro e w13 ⟨aL, cL, rfl, hrL, hb13⟩
            replace hb9 := hb9.then hb13
            replace hrN := hrN.below hb13
            go_wp2_with fail
            refine (levelsp_lv hrN HMN (by omega) HLN).mono ?_; rintro e w14 ⟨aM, cM, rfl, hrM, hb14⟩
            replace hb9 := hb9.then hb14
            replace hrL := hrL.below hb14
            have hz := ints_is hrL hrM (show Hid (decide (L = L) = true) from decide_eq_true rfl)
            go_wp2_with fail
            refine hz.mono ?_; rintro e w15 ⟨rfl, hb15⟩
            go_wp2_with fail
            go_ret
            exact ⟨rfl, hb9.then hb15⟩
    · have hmp : 0 < m.length := List.length_pos_iff.2 h0
      have x2 : decide ((0 : Int) < (m.length : Int)) = true := decide_eq_true (by omega)
      have x3 : decide (0 < m.length) = true := decide_eq_true (by omega)
      go_wp2_with fail
      refine (turn_any hrm hn (by omega) hmp).mono ?_; rintro e w3 ⟨k, v, rfl, hacc, hb3⟩
      have hTm := turnK_mem m k
      have hTl := turnK_len m k
      have HBM1 := hb3
      have hb0x := hb
      replace hb := hb.then hb3
      cases tw with
      | false =>
        obtain ⟨aN, cN, rfl, hrN0⟩ := hacc.row
        obtain ⟨N, hN⟩ : ∃ N, turnK m k = N := ⟨_, rfl⟩
        rw [hN] at hrN0 hTm hTl
        rw [hN]
        have hNl0 : N.length ≤ 1000 := by omega
        have hNm := hTm
        have HMN : Hid (Mays N) := fun c hc => HMM.out c ((hNm c).1 hc)
        have HPN : Hid (predsL N = P) := (preds_same hNm).trans HP.out
        have HKN : Hid (linksL N = K) := (links_same hNm).trans HK.out
        have HLN : Hid (lvL N = L ∧ lvB N = B) := by
          have h1 : levelsL N = levelsL m := levels_same7 hNm
          have h2 := HLV.out
          unfold lvL lvB at h2 ⊢
          rw [h1]; exact h2
        clear hNm
        have HBN := hb
        have HBM := HBM1
        have hrm0 := hrm
        clear hacc hN hTm hTl h0 hb3
        generalize w3 = WN at *
        have hb9 : Below w.heap.size w WN := HBN
        have hrmN := hrm0.below HBM
        have hrN := hrN0
        have hNl := hNl0
        clear hrm0 hrN0 hNl0
        go_wp2_with fail
        refine (predsp_is _ _ _ m P hrmN HMM (by omega) HP).mono ?_; rintro e w7 ⟨aP, cP, rfl, hrP, hb7⟩
        replace hb9 := hb9.then hb7
        replace hrmN := hrmN.below hb7
        replace hrN := hrN.below hb7
        go_wp2_with fail
        refine (predsp_is _ _ _ N P hrN HMN (by omega) HPN).mono ?_; rintro e w8 ⟨aQ, cQ, rfl, hrQ, hb8⟩
        replace hb9 := hb9.then hb8
        replace hrmN := hrmN.below hb8
        replace hrN := hrN.below hb8
        replace hrP := hrP.below hb8
        have hp1 := hrP.max
        have hp2 := hrP.le
        have hp3 := hrQ.max
        have hp4 := hrQ.le
        have t2 : ((P.length : Int) != (P.length : Int)) = false := by simp
        clear hb7 hb8
        go_wp2_with fail
        refine (linksp_is _ _ _ m K hrmN HMM (by omega) HK).mono ?_; rintro e w10 ⟨aK, cK, rfl, hrK, hb10⟩
        replace hb9 := hb9.then hb10
        replace hrmN := hrmN.below hb10
        replace hrN := hrN.below hb10
        replace hrP := hrP.below hb10
        replace hrQ := hrQ.below hb10
        go_wp2_with fail
        refine (linksp_is _ _ _ N K hrN HMN (by omega) HKN).mono ?_; rintro e w11 ⟨aJ, cJ, rfl, hrJ, hb11⟩
        replace hb9 := hb9.then hb11
        replace hrmN := hrmN.below hb11
        replace hrN := hrN.below hb11
        replace hrP := hrP.below hb11
        replace hrQ := hrQ.below hb11
        replace hrK := hrK.below hb11
        clear hb10 hb11
        have hz := samelinks_is hrK hrJ (show Hid (decide (K = K) = true) from decide_eq_true rfl)
        go_wp2_with fail
        refine hz.mono ?_; rintro e w12 ⟨rfl, hb12⟩
        replace hb9 := hb9.then hb12
        replace hrmN := hrmN.below hb12
        replace hrN := hrN.below hb12
        replace hrP := hrP.below hb12
        replace hrQ := hrQ.below hb12
        clear hz hb12 hrK hrJ
        go_wp2_with fail
        go_loopw [12] (fun i wr => ∃ k : Nat, k ≤ P.length ∧ i = .int .i64 k ∧ Below w12.heap.size w12 wr) (fun i wr => P.length - (intOf i).toNat)
        case atStart => exact ⟨0, Nat.zero_le _, rfl, Below.refl _ _⟩
        case round =>
          obtain ⟨k, hk, rfl, hbk⟩ := hrel
          by_cases hlt : k < P.length
          · obtain ⟨b, off, rfl, hbb, hat⟩ := hrP.cases.resolve_left (fun e => by simp [e] at hlt)
            obtain ⟨c0, c1, hfk⟩ := pd_at hat hbk hlt
            obtain ⟨b', off', rfl, hbb', hat'⟩ := hrQ.cases.resolve_left (fun e => by simp [e] at hlt)
            obtain ⟨d0, d1, _⟩ := pd_at hat' hbk hlt
            have hq : ∀ W, (binOp .neq 24 (.agg #[.string P[k].s, .int .i64 P[k].n]) (.agg #[.string P[k].s, .int .i64 P[k].n])).run Try.prog W = .ok (.bool false) W := fun W => by
              have := run_neq_pd P[k] P[k] W; rwa [decide_eq_true rfl] at this
            by_cases hk0 : k = 0
            · subst hk0
              rw [Nat.zero_mul, Nat.add_zero] at c0 c1 d0 d1
              clear hat hat' hbb hbb'
              go_wp2_with fail
              go_quiet (fail)
              go_wp2_with fail
              exact ⟨⟨1, by omega, by go_num, hbk.then (drewN_below _ _)⟩, by simp [intOf]; omega⟩
            · obtain ⟨j, hkj⟩ : ∃ j, j + 1 = k := ⟨k - 1, by omega⟩
              have hjl : j < P.length := by omega
              obtain ⟨g0, g1, hfj⟩ := pd_at hat hbk hjl
              have w1 : IntKind.i64.wrap ((k : Int) - 1) = (j : Int) := by rw [show (k : Int) - 1 = (j : Int) by omega]; exact IntWalk.i64_in _ (by omega)
              have hj0 : (0 : Int) < (k : Int) := by omega
              have hj1 : decide ((0 : Int) < (k : Int)) = true := decide_eq_true (by omega)
              have hj2 : decide (0 < k) = true := decide_eq_true (by omega)
              have hji : (j : Int) < (P.length : Int) := by omega
              have hji0 : (0 : Int) ≤ (j : Int) := by omega
              have hup : pdLt P[j] P[k] = true := by
                have := HUP.out j (by omega)
                simpa [hkj] using this
              clear hat hat' hbb hbb' hkj hk0
              rcases pd_lt_yes hup with h1 | ⟨h1, h2, h3⟩
              · have y1 : Op.bytesLess P[k].s.toList P[j].s.toList = false := by
                  cases e : Op.bytesLess P[k].s.toList P[j].s.toList with
                  | false => rfl
                  | true => have := bl_tr _ _ _ h1 e; rw [bl_irr] at this; cases this
                have y2 : (P[j].s.toList == P[k].s.toList) = false := by
                  apply beq_false_of_ne
                  intro e; rw [e, bl_irr] at h1; cases h1
                clear hup
                go_wp2_with fail
                go_quiet (fail)
                go_wp2_with fail
                exact ⟨⟨k + 1, by omega, by go_num, hbk.then (drewN_below _ _)⟩, by simp [intOf]; omega⟩
              · have y1 : Op.bytesLess P[k].s.toList P[j].s.toList = false := by rw [h2]; exact bl_irr _
                have y2 : (P[j].s.toList == P[k].s.toList) = true := by rw [h2]; simp
                have y3 : decide (P[k].n ≤ P[j].n) = false := decide_eq_false (by omega)
                clear hup h2
                go_wp2_with fail
                go_quiet (fail)
                go_wp2_with fail
                exact ⟨⟨k + 1, by omega, by go_num, hbk.then (drewN_below _ _)⟩, by simp [intOf]; omega⟩
          · replace hb9 := hb9.then hbk
            replace hrmN := hrmN.below hbk
            replace hrN := hrN.below hbk
            have t3 : (B == B) = true := by simp
            go_wp2_with fail
            refine (levelsp_lv hrmN HMM (by omega) HLV).mono ?_; rintro e w13 ⟨aL, cL, rfl, hrL, hb13⟩
            replace hb9 := hb9.then hb13
            replace hrN := hrN.below hb13
            go_wp2_with fail
            refine (levelsp_lv hrN HMN (by omega) HLN).mono ?_; rintro e w14 ⟨aM, cM, rfl, hrM, hb14⟩
            replace hb9 := hb9.then hb14
            replace hrL := hrL.below hb14
            have hz := ints_is hrL hrM (show Hid (decide (L = L) = true) from decide_eq_true rfl)
            go_wp2_with fail
            refine hz.mono ?_; rintro e w15 ⟨rfl, hb15⟩
            go_wp2_with fail
            go_ret
            exact ⟨rfl, hb9.then hb15⟩
      | true =>
        obtain ⟨b0, off0, rfl, hbb0, hat0⟩ := hrm.cases.resolve_left (fun e => by simp [e] at hmp)
        obtain ⟨a5, cap5, a6, cap6, cw0, cw1, hr5, hr6⟩ := cl_at hat0 (Below.refl _ _) hmp
        rw [Nat.zero_mul, Nat.add_zero] at cw0 cw1
        have c0 := keep cw0 hb3
        have c1 := keep cw1 hb3
        have hk3 := hacc.fresh hb3
        have hNm : ∀ c, c ∈ turnK m k ++ [m[0]] ↔ c ∈ m := fun c => by
          rw [List.mem_append, hTm, List.mem_singleton]
          exact ⟨fun h => h.elim id (fun e => e ▸ List.getElem_mem hmp), .inl⟩
        have hNl0 : (turnK m k ++ [m[0]]).length ≤ 1000 := by rw [List.length_append, hTl, List.length_singleton]; omega
        clear hat0 hbb0 cw0 cw1
        go_wp2_with (at_builtin; refine wpList_acc (α := Cl) rfl _ _ 22 rfl w2.heap.size 31 48 _ Try.underlying22 Try.infoClause rfl (by decide) _ (turnK m k) hacc (by rfl) _ #[.slice a5 m[0].h.length cap5, .slice a6 m[0].b.length cap6] m[0] ⟨a5, cap5, a6, cap6, rfl, hr5.keeps hk3, hr6.keeps hk3⟩ (by rfl) (by omega) hb3.size ?_; intro v' WN hacc3 hb4)
        obtain ⟨aN, cN, rfl, hrN0⟩ := hacc3.row
        obtain ⟨N, hN⟩ : ∃ N, turnK m k ++ [m[0]] = N := ⟨_, rfl⟩
        rw [hN] at hrN0 hNm hNl0
        rw [hN]
        have HMN : Hid (Mays N) := fun c hc => HMM.out c ((hNm c).1 hc)
        have HPN : Hid (predsL N = P) := (preds_same hNm).trans HP.out
        have HKN : Hid (linksL N = K) := (links_same hNm).trans HK.out
        have HLN : Hid (lvL N = L ∧ lvB N = B) := by
          have h1 : levelsL N = levelsL m := levels_same7 hNm
          have h2 := HLV.out
          unfold lvL lvB at h2 ⊢
          rw [h1]; exact h2
        clear hNm
        have HBM := hb3.trans hb4
        have HBN := (hb0x.then HBM)
        have hrm0 := hrm
        clear hacc hacc3 hN hTm hTl h0 hb3 hb4 c0 c1 hr5 hr6 hk3
        have hb9 : Below w.heap.size w WN := HBN
        have hrmN := hrm0.below HBM
        have hrN := hrN0
        have hNl := hNl0
        clear hrm0 hrN0 hNl0
        go_wp2_with fail
        refine (predsp_is _ _ _ m P hrmN HMM (by omega) HP).mono ?_; rintro e w7 ⟨aP, cP, rfl, hrP, hb7⟩
        replace hb9 := hb9.then hb7
        replace hrmN := hrmN.below hb7
        replace hrN := hrN.below hb7
        go_wp2_with fail
        refine (predsp_is _ _ _ N P hrN HMN (by omega) HPN).mono ?_; rintro e w8 ⟨aQ, cQ, rfl, hrQ, hb8⟩
        replace hb9 := hb9.then hb8
        replace hrmN := hrmN.below hb8
        replace hrN := hrN.below hb8
        replace hrP := hrP.below hb8
        have hp1 := hrP.max
        have hp2 := hrP.le
        have hp3 := hrQ.max
        have hp4 := hrQ.le
        have t2 : ((P.length : Int) != (P.length : Int)) = false := by simp
        clear hb7 hb8
        go_wp2_with fail
        refine (linksp_is _ _ _ m K hrmN HMM (by omega) HK).mono ?_; rintro e w10 ⟨aK, cK, rfl, hrK, hb10⟩
        replace hb9 := hb9.then hb10
        replace hrmN := hrmN.below hb10
        replace hrN := hrN.below hb10
        replace hrP := hrP.below hb10
        replace hrQ := hrQ.below hb10
        go_wp2_with fail
        refine (linksp_is _ _ _ N K hrN HMN (by omega) HKN).mono ?_; rintro e w11 ⟨aJ, cJ, rfl, hrJ, hb11⟩
        replace hb9 := hb9.then hb11
        replace hrmN := hrmN.below hb11
        replace hrN := hrN.below hb11
        replace hrP := hrP.below hb11
        replace hrQ := hrQ.below hb11
        replace hrK := hrK.below hb11
        clear hb10 hb11
        have hz := samelinks_is hrK hrJ (show Hid (decide (K = K) = true) from decide_eq_true rfl)
        go_wp2_with fail
        refine hz.mono ?_; rintro e w12 ⟨rfl, hb12⟩
        replace hb9 := hb9.then hb12
        replace hrmN := hrmN.below hb12
        replace hrN := hrN.below hb12
        replace hrP := hrP.below hb12
        replace hrQ := hrQ.below hb12
        clear hz hb12 hrK hrJ
        go_wp2_with fail
        go_loopw [12] (fun i wr => ∃ k : Nat, k ≤ P.length ∧ i = .int .i64 k ∧ Below w12.heap.size w12 wr) (fun i wr => P.length - (intOf i).toNat)
        case atStart => exact ⟨0, Nat.zero_le _, rfl, Below.refl _ _⟩
        case round =>
          obtain ⟨k, hk, rfl, hbk⟩ := hrel
          by_cases hlt : k < P.length
          · obtain ⟨b, off, rfl, hbb, hat⟩ := hrP.cases.resolve_left (fun e => by simp [e] at hlt)
            obtain ⟨c0, c1, hfk⟩ := pd_at hat hbk hlt
            obtain ⟨b', off', rfl, hbb', hat'⟩ := hrQ.cases.resolve_left (fun e => by simp [e] at hlt)
            obtain ⟨d0, d1, _⟩ := pd_at hat' hbk hlt
            have hq : ∀ W, (binOp .neq 24 (.agg #[.string P[k].s, .int .i64 P[k].n]) (.agg #[.string P[k].s, .int .i64 P[k].n])).run Try.prog W = .ok (.bool false) W := fun W => by
              have := run_neq_pd P[k] P[k] W; rwa [decide_eq_true rfl] at this
            by_cases hk0 : k = 0
            · subst hk0
              rw [Nat.zero_mul, Nat.add_zero] at c0 c1 d0 d1
              clear hat hat' hbb hbb'
              go_wp2_with fail
              go_quiet (fail)
              go_wp2_with fail
              exact ⟨⟨1, by omega, by go_num, hbk.then (drewN_below _ _)⟩, by simp [intOf]; omega⟩
            · obtain ⟨j, hkj⟩ : ∃ j, j + 1 = k := ⟨k - 1, by omega⟩
              have hjl : j < P.length := by omega
              obtain ⟨g0, g1, hfj⟩ := pd_at hat hbk hjl
              have w1 : IntKind.i64.wrap ((k : Int) - 1) = (j : Int) := by rw [show (k : Int) - 1 = (j : Int) by omega]; exact IntWalk.i64_in _ (by omega)
              have hj0 : (0 : Int) < (k : Int) := by omega
              have hj1 : decide ((0 : Int) < (k : Int)) = true := decide_eq_true (by omega)
              have hj2 : decide (0 < k) = true := decide_eq_true (by omega)
              have hji : (j : Int) < (P.length : Int) := by omega
              have hji0 : (0 : Int) ≤ (j : Int) := by omega
              have hup : pdLt P[j] P[k] = true := by
                have := HUP.out j (by omega)
                simpa [hkj] using this
              clear hat hat' hbb hbb' hkj hk0
              rcases pd_lt_yes hup with h1 | ⟨h1, h2, h3⟩
              · have y1 : Op.bytesLess P[k].s.toList P[j].s.toList = false := by
                  cases e : Op.bytesLess P[k].s.toList P[j].s.toList with
                  | false => rfl
                  | true => have := bl_tr _ _ _ h1 e; rw [bl_irr] at this; cases this
                have y2 : (P[j].s.toList == P[k].s.toList) = false := by
                  apply beq_false_of_ne
                  intro e; rw [e, bl_irr] at h1; cases h1
                clear hup
                go_wp2_with fail
                go_quiet (fail)
                go_wp2_with fail
                exact ⟨⟨k + 1, by omega, by go_num, hbk.then (drewN_below _ _)⟩, by simp [intOf]; omega⟩
              · have y1 : Op.bytesLess P[k].s.toList P[j].s.toList = false := by rw [h2]; exact bl_irr _
                have y2 : (P[j].s.toList == P[k].s.toList) = true := by rw [h2]; simp
                have y3 : decide (P[k].n ≤ P[j].n) = false := decide_eq_false (by omega)
                clear hup h2
                go_wp2_with fail
                go_quiet (fail)
                go_wp2_with fail
                exact ⟨⟨k + 1, by omega, by go_num, hbk.then (drewN_below _ _)⟩, by simp [intOf]; omega⟩
          · replace hb9 := hb9.then hbk
            replace hrmN := hrmN.below hbk
            replace hrN := hrN.below hbk
            have t3 : (B == B) = true := by simp
            go_wp2_with fail
            refine (levelsp_lv hrmN HMM (by omega) HLV).mono ?_; rintro e w13 ⟨aL, cL, rfl, hrL, hb13⟩
            replace hb9 := hb9.then hb13
            replace hrN := hrN.below hb13
            go_wp2_with fail
            refine (levelsp_lv hrN HMN (by omega) HLN).mono ?_; rintro e w14 ⟨aM, cM, rfl, hrM, hb14⟩
            replace hb9 := hb9.then hb14
            replace hrL := hrL.below hb14
            have hz := ints_is hrL hrM (show Hid (decide (L = L) = true) from decide_eq_true rfl)
            go_wp2_with fail
            refine hz.mono ?_; rintro e w15 ⟨rfl, hb15⟩
            go_wp2_with fail
            go_ret
            exact ⟨rfl, hb9.then hb15⟩
end Go.Proofs.Ytkgebkinlpmpnaa
namespace Go.Proofs.Ytkgebkinlpmpnaa
open Go.RowKit Go.ChangeShapes Go.WideShapes Go.ChangeAt
open Go.ChangeMaps (open_string)

set_option maxRecDepth 100000 in
set_option maxHeartbeats 1000000 in
theorem ProgOrder_lifted (os : Os) (started : os.Started) (H : Type) (enc : TypeId × Value → H) :
    ReturnsInHanded {} Try.checked os 7 .any (Rows.progOrderSpec.pre6 enc Try.prog Try.f7 Rows.progOrderRow.domain false) (Rows.progOrderSpec.post enc Try.prog Try.f7 false true false false) := by
  refine returnsInHanded_of_change (C := Try.checked) Try.own started (by kernel_rfl) Try.func7
    (ChangeSpec.witness6 (enc := enc) (C := Try.checked) false ⟨#[], #[.slice none 0 0, .int .u8 0, .bool false], []⟩ 8 (by kernel_rfl) (by kernel_rfl) (by kernel_rfl) (by kernel_rfl)) ?_
  intro W base args ds gs before hval0 hW hcnd _
  have hval : ∀ (j : Nat) t v, Try.f7.params[j]? = some t → args[j]? = some v → Value.okWide Try.prog W .any base t v := hval0
  have hW' := hW
  obtain ⟨p, q, hA0, hV, rfl, hfz, hnd⟩ := hW
  have hA : DataW.TrodAll enc Try.prog W 0 (fun _ => true) true Try.f7.params.toList args.toList ds p := hA0
  rw [Try.params7] at hA hval
  obtain ⟨v0, vs0, d0, ds0, p0, q0, hargs, rfl, rfl, h0, r0⟩ := trodAll_cons hA
  obtain ⟨v1, vs1, d1, ds1, p1, q1, rfl, rfl, rfl, h1, r1⟩ := trodAll_cons r0
  obtain ⟨v2, vs2, d2, ds2, p2, q2, rfl, rfl, rfl, h2, r2⟩ := trodAll_cons r1
  obtain ⟨rfl, rfl, rfl⟩ := trodAll_nil r2
  obtain rfl : args = #[v0, v1, v2] := by cases args; simp_all
  obtain ⟨rfl, rfl⟩ := trodVars_none hV
  have k0 := h0
  have lt0 : ∀ x ∈ p0, x.block < W.heap.size := by obtain ⟨m, hm⟩ := k0; exact DataW.trod_lt m _ _ _ hm
  obtain ⟨a0, len0, cap0, rfl⟩ := okWide_slice Try.underlying22 (hval 0 22 v0 rfl rfl)
  obtain ⟨xs0, rfl, hr0⟩ : ∃ xs : List Cl, xs.length = len0 ∧ Row W a0 cap0 xs := by
    obtain ⟨fuel, hf⟩ := h0
    exact open_clauses7 hf
  have k1 := h1
  have lt1 : ∀ x ∈ p1, x.block < W.heap.size := by obtain ⟨m, hm⟩ := k1; exact DataW.trod_lt m _ _ _ hm
  obtain ⟨n1, rfl, _, _, wf1⟩ := open_int Try.underlying5 (hval 1 5 v1 rfl rfl) h1
  have k2 := h2
  have lt2 : ∀ x ∈ p2, x.block < W.heap.size := by obtain ⟨m, hm⟩ := k2; exact DataW.trod_lt m _ _ _ hm
  obtain ⟨b2, rfl⟩ := okWide_bool Try.underlying4 (hval 2 4 v2 rfl rfl)
  clear hA0 hval0
  refine (lawOrder_any W xs0 a0 cap0 hr0 n1 wf1 b2).mono fun e W' ⟨he, bel⟩ => ?_
  subst he
  exact ⟨_, rfl, _, _, _, [], _, [], hW', trodAll_mk1 (shut_bool Try.underlying4 _), (trodAll_cons_mk (Below.trod Try.laidOut (by kernel_rfl) (of_decide_eq_true (by kernel_rfl)) k0 bel lt0) (trodAll_cons_mk (Below.trod Try.laidOut (by kernel_rfl) (of_decide_eq_true (by kernel_rfl)) k1 bel lt1) (trodAll_cons_mk (Below.trod Try.laidOut (by kernel_rfl) (of_decide_eq_true (by kernel_rfl)) k2 bel lt2) trodAll_mk0))), rfl, bel.frame _, fun h => by cases h⟩

theorem ProgOrder_over : Rows.progOrderRow.holds Try.pinned (OpenSpec.ofChange Rows.progOrderSpec) :=
  OpenClaim.holds_of_wide 7 Try.f7 rfl rfl rfl rfl rfl rfl rfl ⟨rfl, rfl, rfl, rfl, rfl⟩ rfl rfl rfl rfl rfl (by kernel_rfl) Try.func7 (by kernel_rfl)
    (of_decide_eq_true (by kernel_rfl)) (by unfold Func.isWrapper; first | (rw [if_pos (by decide +kernel)]; kernel_rfl) | (rw [if_neg (by decide +kernel)]; exact ⟨rfl, rfl⟩))
    (fun os started H enc _ => ProgOrder_lifted os started H enc)

theorem ProgOrder_holds : Rows.ProgOrderSaid := ProgOrder_over
end Go.Proofs.Ytkgebkinlpmpnaa
