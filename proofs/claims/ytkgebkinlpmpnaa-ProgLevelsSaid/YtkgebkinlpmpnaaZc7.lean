/-
  Of layer 7 of sorrel: whatever arguments come in, the law ProgLevels returns true, and what was handed in reads as it did: there are levels just if no predicate leads back to itself through a negation; each link goes no higher, a negative one lower; and each predicate above 0 has a link that asks for its level. No condition.
-/
import Derived.Test.YtkgebkinlpmpnaaZr5
namespace Go.Proofs.Ytkgebkinlpmpnaa
open Go.RowKit Go.Shelf Go.Lib

set_option maxHeartbeats 16000000 in
set_option maxRecDepth 100000 in
theorem lawLevels_any (w : World) (l : List Cl) (a : Option Addr) (cap : Nat) (hr : Row w a cap l) :
    Calls Try.prog 9 #[.slice a l.length cap] w fun e w' => e = .returned (.bool true) ∧ Below w.heap.size w w' := by
  have hm1 := hr.max
  have hm2 := hr.le
  cases hG : greatB l with
  | true =>
    have HG := mkHid hG
    clear hG
    go_enter Try.func9, Try.ntmps9
    go_wp2_with fail
    refine (head7_any _).mono ?_; rintro e w1 ⟨rfl, hb⟩
    go_wp2_with fail
    refine (great_is (hr.below hb) HG).mono ?_; rintro e w2 ⟨rfl, rfl⟩
    go_wp2_with fail
    go_ret
    exact ⟨rfl, hb⟩
  | false =>
    have HG := mkHid hG
    have hl70 := great_len hG
    have HMM := mkHid (made_mays l)
    have hml := made_len l
    clear hG
    obtain ⟨m, hme⟩ : ∃ m, madeL l = m := ⟨_, rfl⟩
    have HME := mkHid hme
    rw [hme] at HMM hml
    clear hme
    have hpl := preds_len HMM.out
    have HLK := mkHid (links_lkin m)
    have HRD := mkHid (lv_round m)
    have HLE : Hid (lvB m = true → Least (predsL m).length (linksL m) (lvL m)) := lv_least
    have HNO : Hid (lvB m = false → lvL m = []) := lv_none
    obtain ⟨P, hP⟩ : ∃ P, predsL m = P := ⟨_, rfl⟩
    have HP := mkHid hP
    obtain ⟨K, hK⟩ : ∃ K, linksL m = K := ⟨_, rfl⟩
    have HK := mkHid hK
    rw [hP] at hpl HLK HRD HLE
    rw [hK] at HLK HRD HLE
    obtain ⟨L, hL⟩ : ∃ L, lvL m = L := ⟨_, rfl⟩
    obtain ⟨B, hB⟩ : ∃ B, lvB m = B := ⟨_, rfl⟩
    have HLV : Hid (lvL m = L ∧ lvB m = B) := ⟨hL, hB⟩
    rw [hL] at HLE HNO
    rw [hB] at HLE HNO HRD
    clear hP hK hL hB
    go_enter Try.func9, Try.ntmps9
    go_wp2_with fail
    refine (head7_any _).mono ?_; rintro e w1 ⟨rfl, hb⟩
    go_wp2_with fail
    refine (great_is (hr.below hb) HG).mono ?_; rintro e w2 ⟨rfl, rfl⟩
    go_wp2_with fail
    refine (made_is (hr.below hb) (by omega) HME).mono ?_; rintro e w2 ⟨am, cm, rfl, hrm, hb2⟩
    replace hb := hb.then hb2
    go_wp2_with fail
    refine (linksp_is _ _ _ m K hrm HMM (by omega) HK).mono ?_; rintro e w3 ⟨aK, cK, rfl, hrK, hb3⟩
    replace hb := hb.then hb3
    replace hrm := hrm.below hb3
    go_wp2_with fail
    refine (predsp_is _ _ _ m P hrm HMM (by omega) HP).mono ?_; rintro e w4 ⟨aP, cP, rfl, hrP, hb4⟩
    replace hb := hb.then hb4
    replace hrm := hrm.below hb4
    replace hrK := hrK.below hb4
    obtain ⟨n, hn⟩ : ∃ n, P.length = n := ⟨_, rfl⟩
    rw [hn] at hpl HLK HRD HLE
    rw [hn]
    clear hrP hn hb2 hb3 hb4
    have hk1 := hrK.max
    have hk2 := hrK.le
    go_wp2_with fail
    go_loopw [8] (fun i wr => ∃ k : Nat, k ≤ K.length ∧ i = .int .i64 k ∧ wr = w4) (fun i wr => K.length - (intOf i).toNat)
    case atStart => exact ⟨0, Nat.zero_le _, rfl, rfl⟩
    case round =>
      obtain ⟨k, hk, rfl, rfl⟩ := hrel
      by_cases hlt : k < K.length
      · obtain ⟨b, off, rfl, hbb, hat⟩ := hrK.cases.resolve_left (fun e => by simp [e] at hlt)
        obtain ⟨c0, c1, c2, hlf⟩ := lk_at hat (Below.refl _ _) hlt
        obtain ⟨f1, f2, t1, t2⟩ := HLK.out _ (List.getElem_mem hlt)
        have x1 : decide (K[k].f < 0) = false := by simp; omega
        have x2 : decide ((n : Int) ≤ K[k].f) = false := by simp; omega
        have x3 : decide (K[k].t < 0) = false := by simp; omega
        have x4 : decide ((n : Int) ≤ K[k].t) = false := by simp; omega
        clear hlf hat hbb
        go_wp2_with fail
        go_round
        case rel => exact ⟨k + 1, by omega, by go_num, (by trivial)⟩
        case measure => simp [intOf]; omega
      · go_wp2_with fail
        go_loopw [7, 9] (fun r i w5 => ∃ (k : Nat) (rb : Bool), k ≤ K.length ∧ i = .int .i64 k ∧ r = .bool rb ∧ Hid ((K.take k).any (roundAt n K) = rb) ∧ Below wr.heap.size wr w5) (fun r i w5 => K.length - (intOf i).toNat)
        case atStart => exact ⟨0, false, Nat.zero_le _, rfl, rfl, rfl, Below.refl _ _⟩
        case round =>
          obtain ⟨k2, rb, hk2', rfl, rfl, HR, hb5⟩ := hrel
          by_cases hlt2 : k2 < K.length
          · obtain ⟨b, off, rfl, hbb, hat⟩ := hrK.cases.resolve_left (fun e => by simp [e] at hlt2)
            obtain ⟨c0, c1, c2, hlf⟩ := lk_at hat hb5 hlt2
            obtain ⟨f1, f2, t1, t2⟩ := HLK.out _ (List.getElem_mem hlt2)
            obtain ⟨f, hf⟩ : ∃ f : Nat, K[k2].f = f := ⟨K[k2].f.toNat, by omega⟩
            obtain ⟨t, ht⟩ : ∃ t : Nat, K[k2].t = t := ⟨K[k2].t.toNat, by omega⟩
            have hfn : f < n := by omega
            have htn : t < n := by omega
            have hrt : roundAt n K K[k2] = (K[k2].neg && (decide (t = f) || BG (leadsL K t n) f)) := by
              unfold roundAt
              rw [hf, ht]
              have : decide ((t : Int) = (f : Int)) = decide (t = f) := by rw [decide_eq_decide]; omega
              rw [this]
            have hrK5 := hrK.below hb5
            have hnx : (K.take (k2 + 1)).any (roundAt n K) = (rb || roundAt n K K[k2]) := by rw [any_next hlt2, HR.out]
            rw [hf] at c0
            rw [ht] at c1
            rw [hrt] at hnx
            clear hlf hat hbb HR hrt hf ht
            go_wp2_with fail
            refine (leads_any hrK5 (by omega) HLK).mono ?_; rintro e w6 ⟨u, rfl, hu, hb6⟩
            have d0 := keep c0 hb6
            have d1 := keep c1 hb6
            have d2 := keep c2 hb6
            have hul : (leadsL K t n).length = n := by unfold leadsL; rw [leadsGo_len]; simp
            have e0 := hu.read (k := f) (by rw [hul]; exact hfn)
            have hgg : BG (leadsL K t n) f = (leadsL K t n)[f]'(by rw [hul]; exact hfn) := BG_get (by rw [hul]; exact hfn)
            rw [← hgg] at e0
            obtain ⟨s0, hs0⟩ : ∃ s0, BG (leadsL K t n) f = s0 := ⟨_, rfl⟩
            rw [hs0] at e0 hnx
            have hf0 : (0 : Int) ≤ (f : Int) := by omega
            have hf1 : (f : Int) < (n : Int) := by omega
            have hNN : ∃ nn, K[k2].neg = nn := ⟨_, rfl⟩
            obtain ⟨nn, hnn⟩ := hNN
            rw [hnn] at d2 hnx
            have HNX := mkHid hnx
            have hb56 := hb5.then hb6
            clear hgg hs0 hul hu hnx c0 c1 c2 hnn hrK5 f1 f2 t1 t2
            cases rb with
            | true =>
              have HT : Hid ((K.take (k2 + 1)).any (roundAt n K) = true) := by rw [Hid, HNX.out]; rfl
              go_wp2_with fail
              go_quiet (fail)
              go_wp2_with fail
              exact ⟨⟨k2 + 1, true, by omega, by go_num, rfl, HT, hb56.trans ((drewN_below _ _).mono hb56.size)⟩, by simp [intOf]; omega⟩
            | false =>
              cases nn with
              | false =>
                have HT : Hid ((K.take (k2 + 1)).any (roundAt n K) = false) := by rw [Hid, HNX.out]; rfl
                go_wp2_with fail
                go_quiet (fail)
                go_wp2_with fail
                exact ⟨⟨k2 + 1, false, by omega, by go_num, rfl, HT, hb56.trans ((drewN_below _ _).mono hb56.size)⟩, by simp [intOf]; omega⟩
              | true =>
                by_cases htf : t = f
                · have HT : Hid ((K.take (k2 + 1)).any (roundAt n K) = true) := by rw [Hid, HNX.out, decide_eq_true htf]; rfl
                  have y1 : decide ((t : Int) = (f : Int)) = true := by simp [htf]
                  have y2 : ((t : Int) == (f : Int)) = true := by simp [htf]
                  clear htf
                  go_wp2_with fail
                  go_quiet (fail)
                  go_wp2_with fail
                  exact ⟨⟨k2 + 1, true, by omega, by go_num, rfl, HT, hb56.trans ((drewN_below _ _).mono hb56.size)⟩, by simp [intOf]; omega⟩
                · have HT : Hid ((K.take (k2 + 1)).any (roundAt n K) = s0) := by rw [Hid, HNX.out, decide_eq_false htf]; simp
                  have y1 : decide ((t : Int) = (f : Int)) = false := by simp; omega
                  have y2 : ((t : Int) == (f : Int)) = false := by simp; omega
                  clear htf
                  go_wp2_with fail
                  go_quiet (fail)
                  go_wp2_with fail
                  exact ⟨⟨k2 + 1, s0, by omega, by go_num, rfl, HT, hb56.trans ((drewN_below _ _).mono hb56.size)⟩, by simp [intOf]; omega⟩
          · have HRB : Hid (B = !rb) := by
              rw [Hid, HRD.out]
              have h1 := HR.out
              rw [List.take_of_length_le (by omega)] at h1
              rw [h1]
            replace hb := hb.then hb5
            replace hrm := hrm.below hb5
            replace hrK := hrK.below hb5
            clear HR HRD hb5 hk hlt
            go_wp2_with fail
            refine (levelsp_lv hrm HMM (by omega) HLV).mono ?_; rintro e w6 ⟨aL, cL, rfl, hrL, hb6⟩
            replace hb := hb.then hb6
            replace hrK := hrK.below hb6
            have hL1 := hrL.max
            have hL2 := hrL.le
            clear hb6 hrm
            cases rb with
            | true =>
              obtain rfl : B = false := HRB.out
              obtain rfl : L = [] := HNO.out rfl
              go_wp2_with fail
              go_ret
              exact ⟨rfl, hb⟩
            | false =>
              obtain rfl : B = true := HRB.out
              have hLe := HLE.out rfl
              have HLS := mkHid hLe
              have HLN : Hid (L.length = n) := hLe.sat.len
              have z1 : ((L.length : Int) != (n : Int)) = false := by have := HLN.out; simp; omega
              have hLl : L.length ≤ n := by have := HLN.out; omega
              have hLg : n ≤ L.length := by have := HLN.out; omega
              have hms := run_bools7 n (by omega)
              have hz := RowB.made w6 n
              have hb7 := (Below.refl w6.heap.size w6).new (.cells (Array.replicate n (Value.bool false)) 4)
              have HRL0 : Hid ((List.replicate n false).length = n) := List.length_replicate
              clear hLe HLE HNO HRB hlt2 hk2'
              go_wp2_with fail
              generalize hw7 : w6.alloc (.cells (Array.replicate n (Value.bool false)) 4) = W7 at *
              have hsz7 : w6.heap.size < W7.heap.size := by rw [← hw7]; simp
              generalize hu : w6.heap.size = u at *
              have hwu : w.heap.size ≤ u := by rw [← hu]; exact hb.size
              have HZ := mkHid hz
              clear hz hms hw7
              go_loopw [14] (fun i wr => ∃ (k : Nat) (so : List Bool), k ≤ K.length ∧ i = .int .i64 k ∧ Hid (RowB wr u so) ∧ Hid (so.length = n) ∧ Hid (askL L K (List.replicate n false) = askL L (K.drop k) so) ∧ Below u w6 wr) (fun i wr => K.length - (intOf i).toNat)
              case atStart => exact ⟨0, _, Nat.zero_le _, rfl, HZ, HRL0, rfl, hb7⟩
              case round =>
                clear HZ HRL0 hb7 hsz7
                obtain ⟨k3, so, hk3, rfl, HB, HSL, HS, hb8⟩ := hrel
                have hb8' : Below w6.heap.size w6 wr := by rw [hu]; exact hb8
                by_cases hlt3 : k3 < K.length
                · obtain ⟨b, off, rfl, hbb, hat⟩ := hrK.cases.resolve_left (fun e => by simp [e] at hlt3)
                  obtain ⟨c0, c1, c2, hlf⟩ := lk_at hat hb8' hlt3
                  have hmem := List.getElem_mem hlt3
                  obtain ⟨f1, f2, t1, t2⟩ := HLK.out _ hmem
                  have hsat := HLS.out.sat.lk _ hmem
                  obtain ⟨f, hf⟩ : ∃ f : Nat, K[k3].f = f := ⟨K[k3].f.toNat, by omega⟩
                  obtain ⟨t, ht⟩ : ∃ t : Nat, K[k3].t = t := ⟨K[k3].t.toNat, by omega⟩
                  have hfn : f < L.length := by omega
                  have htn : t < L.length := by omega
                  obtain ⟨bL, oL, rfl, hbL, hatL⟩ := hrL.cases.resolve_left (fun e => by simp [e] at hfn)
                  obtain ⟨g0, glo, ghi⟩ := int_at hatL hb8' hfn
                  obtain ⟨g1, tlo, thi⟩ := int_at hatL hb8' htn
                  have hgf : G L f = L[f] := G_get hfn
                  have hgt : G L t = L[t] := G_get htn
                  have htop := HLS.out.top t ⟨by omega, by omega⟩
                  have e1 := HB.out.free f
                  have hul := HB.out.lt
                  obtain ⟨old, hold⟩ : ∃ old, wr.cell? ⟨u, f, none⟩ = some old := ⟨_, HB.out.read (k := f) (by have := HSL.out; omega)⟩
                  have hst := ask_step (L := L) (so := so) hlt3
                  have hb9 : Below u w6 (wr.setCell ⟨u, f, none⟩ (.bool true)) := hb8.setCell (p := ⟨u, f, none⟩) (Nat.le_refl _) _
                  have HB2 : Hid (RowB (wr.setCell ⟨u, f, none⟩ (.bool true)) u (so.set f true)) := HB.out.set f true
                  have HL2 : Hid ((so.set f true).length = n) := by rw [Hid, List.length_set]; exact HSL.out
                  have ha1 : ask1 L so K[k3] = if L[f] = L[t] + negI K[k3].neg then so.set f true else so := by
                    unfold ask1; rw [hf, ht, hgf, hgt]; rfl
                  rw [ha1] at hst
                  rw [hf, ht, hgf, hgt] at hsat
                  rw [hgt] at htop
                  rw [hf] at c0
                  rw [ht] at c1
                  have hf0 : (0 : Int) ≤ (f : Int) := by omega
                  have hf1 : (f : Int) < (L.length : Int) := by omega
                  have hf2 : (f : Int) < (n : Int) := by omega
                  have ht0 : (0 : Int) ≤ (t : Int) := by omega
                  have ht1 : (t : Int) < (L.length : Int) := by omega
                  generalize L[f] = X at *
                  generalize L[t] = Y at *
                  obtain ⟨nn, hnn⟩ : ∃ nn, K[k3].neg = nn := ⟨_, rfl⟩
                  rw [hnn] at c2 hst hsat
                  clear hlf hat hbb hatL hgf hgt ha1 hf ht hnn hmem hbL f1 f2 t1 t2
                  by_cases he : X = Y + negI nn
                  · have HT : Hid (askL L K (List.replicate n false) = askL L (K.drop (k3 + 1)) (so.set f true)) := by rw [Hid, HS.out, hst, if_pos he]
                    clear hst HS
                    cases nn with
                    | true =>
                      have he2 : X = Y + 1 := by simpa [negI] using he
                      have y1 : decide (X < Y + 1) = false := by simp; omega
                      have y2 : decide (X = Y + 1) = true := by simp [he2]
                      have y3 : (X == Y + 1) = true := by simp [he2]
                      clear he he2 hsat
                      go_wp2_with fail
                      go_round
                      case rel => exact ⟨k3 + 1, _, by omega, by go_num, HB2, HL2, HT, hb9⟩
                      case measure => simp [intOf]; omega
                    | false =>
                      have he2 : X = Y := by simpa [negI] using he
                      have y1 : decide (X < Y) = false := by simp; omega
                      have y2 : decide (X = Y) = true := by simp [he2]
                      have y3 : (X == Y) = true := by simp [he2]
                      clear he he2 hsat
                      go_wp2_with fail
                      go_round
                      case rel => exact ⟨k3 + 1, _, by omega, by go_num, HB2, HL2, HT, hb9⟩
                      case measure => simp [intOf]; omega
                  · have HT : Hid (askL L K (List.replicate n false) = askL L (K.drop (k3 + 1)) so) := by rw [Hid, HS.out, hst, if_neg he]
                    clear hst HS
                    cases nn with
                    | true =>
                      have hs2 : Y + 1 ≤ X := by simpa [negI] using hsat
                      have he2 : ¬ X = Y + 1 := by simpa [negI] using he
                      have y1 : decide (X < Y + 1) = false := by simp; omega
                      have y2 : decide (X = Y + 1) = false := by simp; omega
                      have y3 : (X == Y + 1) = false := by simp; omega
                      clear he hsat
                      go_wp2_with fail
                      go_round
                      case rel => exact ⟨k3 + 1, _, by omega, by go_num, HB, HSL, HT, hb8⟩
                      case measure => simp [intOf]; omega
                    | false =>
                      have hs2 : Y ≤ X := by simpa [negI] using hsat
                      have he2 : ¬ X = Y := by simpa [negI] using he
                      have y1 : decide (X < Y) = false := by simp; omega
                      have y2 : decide (X = Y) = false := by simp; omega
                      have y3 : (X == Y) = false := by simp; omega
                      clear he hsat
                      go_wp2_with fail
                      go_round
                      case rel => exact ⟨k3 + 1, _, by omega, by go_num, HB, HSL, HT, hb8⟩
                      case measure => simp [intOf]; omega
                · have HAS : Hid (∀ i (hi : i < n) (h2 : i < L.length) (h3 : i < so.length), 0 ≤ L[i] ∧ (0 < L[i] → so[i] = true)) := fun i hi h2 h3 => by
                    have h1 := HS.out
                    rw [List.drop_eq_nil_of_le (by omega)] at h1
                    have h1' : askL L K (List.replicate n false) = so := h1
                    have hin : In n (i : Int) := ⟨by omega, by omega⟩
                    have hgi : G L i = L[i] := G_get h2
                    refine ⟨by rw [← hgi]; exact HLS.out.sat.pos _ hin, fun h0 => ?_⟩
                    obtain ⟨x, hx, e1, e2⟩ := HLS.out.asked HLK.out hin (by rw [hgi]; exact h0)
                    have h5 := askL_on (L := L) K HLK.out (List.length_replicate (n := n) (a := false)) x hx (by rw [e1]; exact e2)
                    rw [h1', e1] at h5
                    rwa [BG_get h3] at h5
                  clear HS
                  go_wp2_with fail
                  go_loopw [17] (fun i wz => ∃ k : Nat, k ≤ n ∧ i = .int .i64 k ∧ wz = wr) (fun i wz => n - (intOf i).toNat)
                  case atStart => exact ⟨0, Nat.zero_le _, rfl, rfl⟩
                  case round =>
                    obtain ⟨k4, hk4, rfl, rfl⟩ := hrel
                    by_cases hlt4 : k4 < n
                    · have hL4 : k4 < L.length := by omega
                      have hs4 : k4 < so.length := by have := HSL.out; omega
                      obtain ⟨bL, oL, rfl, hbL, hatL⟩ := hrL.cases.resolve_left (fun e => by simp [e] at hL4)
                      obtain ⟨g0, glo, ghi⟩ := int_at hatL hb8' hL4
                      have e0 := HB.out.read hs4
                      obtain ⟨h01, h02⟩ := HAS.out k4 hlt4 hL4 hs4
                      have hk0 : (0 : Int) ≤ (k4 : Int) := by omega
                      have hk1' : (k4 : Int) < (L.length : Int) := by omega
                      have hk3' : (k4 : Int) < (n : Int) := by omega
                      have y1 : decide (L[k4] < 0) = false := by simp; omega
                      generalize L[k4] = X at *
                      generalize so[k4] = sv at *
                      by_cases h0 : 0 < X
                      · have y2 : decide (0 < X) = true := by simpa using h0
                        rw [h02 h0] at e0
                        clear h02 hatL hbL
                        go_wp2_with fail
                        go_round
                        case rel => exact ⟨k4 + 1, by omega, by go_num, (by trivial)⟩
                        case measure => simp [intOf]; omega
                      · have y2 : decide (0 < X) = false := by simpa using h0
                        clear h02 hatL hbL
                        go_wp2_with fail
                        go_round
                        case rel => exact ⟨k4 + 1, by omega, by go_num, (by trivial)⟩
                        case measure => simp [intOf]; omega
                    · go_wp2_with fail
                      go_ret
                      exact ⟨rfl, hb.then hb8'⟩
end Go.Proofs.Ytkgebkinlpmpnaa
namespace Go.Proofs.Ytkgebkinlpmpnaa
open Go.RowKit Go.ChangeShapes Go.WideShapes Go.ChangeAt
open Go.ChangeMaps (open_string)

set_option maxRecDepth 100000 in
set_option maxHeartbeats 1000000 in
theorem ProgLevels_lifted (os : Os) (started : os.Started) (H : Type) (enc : TypeId × Value → H) :
    ReturnsInHanded {} Try.checked os 9 .any (Rows.progLevelsSpec.pre6 enc Try.prog Try.f9 Rows.progLevelsRow.domain false) (Rows.progLevelsSpec.post enc Try.prog Try.f9 false true false false) := by
  refine returnsInHanded_of_change (C := Try.checked) Try.own started (by kernel_rfl) Try.func9
    (ChangeSpec.witness6 (enc := enc) (C := Try.checked) false ⟨#[], #[.slice none 0 0], []⟩ 8 (by kernel_rfl) (by kernel_rfl) (by kernel_rfl) (by kernel_rfl)) ?_
  intro W base args ds gs before hval0 hW hcnd _
  have hval : ∀ (j : Nat) t v, Try.f9.params[j]? = some t → args[j]? = some v → Value.okWide Try.prog W .any base t v := hval0
  have hW' := hW
  obtain ⟨p, q, hA0, hV, rfl, hfz, hnd⟩ := hW
  have hA : DataW.TrodAll enc Try.prog W 0 (fun _ => true) true Try.f9.params.toList args.toList ds p := hA0
  rw [Try.params9] at hA hval
  obtain ⟨v0, vs0, d0, ds0, p0, q0, hargs, rfl, rfl, h0, r0⟩ := trodAll_cons hA
  obtain ⟨rfl, rfl, rfl⟩ := trodAll_nil r0
  obtain rfl : args = #[v0] := by cases args; simp_all
  obtain ⟨rfl, rfl⟩ := trodVars_none hV
  have k0 := h0
  have lt0 : ∀ x ∈ p0, x.block < W.heap.size := by obtain ⟨m, hm⟩ := k0; exact DataW.trod_lt m _ _ _ hm
  obtain ⟨a0, len0, cap0, rfl⟩ := okWide_slice Try.underlying22 (hval 0 22 v0 rfl rfl)
  obtain ⟨xs0, rfl, hr0⟩ : ∃ xs : List Cl, xs.length = len0 ∧ Row W a0 cap0 xs := by
    obtain ⟨fuel, hf⟩ := h0
    exact open_clauses7 hf
  clear hA0 hval0
  refine (lawLevels_any W xs0 a0 cap0 hr0).mono fun e W' ⟨he, bel⟩ => ?_
  subst he
  exact ⟨_, rfl, _, _, _, [], _, [], hW', trodAll_mk1 (shut_bool Try.underlying4 _), (trodAll_cons_mk (Below.trod Try.laidOut (by kernel_rfl) (of_decide_eq_true (by kernel_rfl)) k0 bel lt0) trodAll_mk0), rfl, bel.frame _, fun h => by cases h⟩

theorem ProgLevels_over : Rows.progLevelsRow.holds Try.pinned (OpenSpec.ofChange Rows.progLevelsSpec) :=
  OpenClaim.holds_of_wide 9 Try.f9 rfl rfl rfl rfl rfl rfl rfl ⟨rfl, rfl, rfl, rfl, rfl⟩ rfl rfl rfl rfl rfl (by kernel_rfl) Try.func9 (by kernel_rfl)
    (of_decide_eq_true (by kernel_rfl)) (by unfold Func.isWrapper; first | (rw [if_pos (by decide +kernel)]; kernel_rfl) | (rw [if_neg (by decide +kernel)]; exact ⟨rfl, rfl⟩))
    (fun os started H enc _ => ProgLevels_lifted os started H enc)

theorem ProgLevels_holds : Rows.ProgLevelsSaid := ProgLevels_over
end Go.Proofs.Ytkgebkinlpmpnaa
