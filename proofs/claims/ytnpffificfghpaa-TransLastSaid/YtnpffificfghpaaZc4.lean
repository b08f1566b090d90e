/-
  Of layer 13 of sorrel: whatever arguments come in, the law TransLast returns true, and what was handed in reads as it did: of changes of one fact the last one alone counts: behind a commit just those are there that it adds, and those that were there of which none was told. No condition.
-/
import Derived.Test.YtnpffificfghpaaZr6
set_option linter.unusedVariables false
namespace Go.Proofs.Ytnpffificfghpaa
open Go.RowKit

set_option maxHeartbeats 6400000 in
set_option maxRecDepth 100000 in
theorem lawTLast_any (hH : Head13) (a : Option Addr) (cap : Nat) (l : List (List Cel)) (a' : Option Addr) (cap' : Nat) (cs : List Lt) (w : World) (hr : Row w a cap l) (hc : Row w a' cap' cs) :
    Calls Try.prog 6 #[.slice a l.length cap, .slice a' cs.length cap'] w fun e w' => e = .returned (.bool true) ∧ Below w.heap.size w w' := by
  have HH := mkHid hH
  clear hH
  have hlm := hr.max
  have hll := hr.le
  have hcm := hc.max
  have hcl := hc.le
  have HB := mkHid (Below.refl w.heap.size w)
  have HL := mkHid hr
  have HC := mkHid hc
  clear hr hc
  go_enter Try.func6, Try.ntmps6
  go_wp2_with fail
  refine (HH.out _).mono ?_
  rintro e w1 ⟨rfl, hq⟩
  replace HL := mkHid (HL.out.below hq)
  replace HC := mkHid (HC.out.below hq)
  replace HB := mkHid (HB.out.then hq)
  clear hq
  go_wp2_with fail
  refine (great13_any a cap l a' cap' cs _ HL.out HC.out).mono ?_
  rintro e w2 ⟨⟨b, rfl, hg⟩, hq⟩
  replace HL := mkHid (HL.out.below hq)
  replace HC := mkHid (HC.out.below hq)
  replace HB := mkHid (HB.out.then hq)
  clear hq
  cases b with
  | true =>
    go_wp2_with fail
    go_ret
    exact ⟨rfl, HB.out⟩
  | false =>
    obtain ⟨hl60, hc60⟩ := hg rfl
    clear hg
    go_wp2_with fail
    refine (made13_any a cap l _ HL.out).mono ?_
    rintro e w3 ⟨a3, c3, f, rfl, hf, hF, hf40, hq⟩
    replace HL := mkHid (HL.out.below hq)
    replace HC := mkHid (HC.out.below hq)
    replace HB := mkHid (HB.out.then hq)
    clear hq
    have RF := mkHid hf
    clear hf
    have HF := mkHid hF
    clear hF
    have RF0 : Hid (BR w3 a3 c3 f none 0 []) := ⟨RF.out, nilRow _⟩
    have hbx : Below w3.heap.size w3 (w3.alloc (.cells #[.slice a3 f.length c3, .int .i64 0, .bool false, .slice none 0 0] 25)) := (Below.refl _ _).new _
    have X6 : Hid (BX (w3.alloc (.cells #[.slice a3 f.length c3, .int .i64 0, .bool false, .slice none 0 0] 25)) w3.heap.size a3 c3 f 0 false none 0 []) := BX.madeK RF0.out rfl rfl
    replace HL := mkHid (HL.out.below hbx)
    replace HC := mkHid (HC.out.below hbx)
    replace RF := mkHid (RF.out.below hbx)
    replace HB := mkHid (HB.out.then hbx)
    clear hbx
    clear RF0
    clear RF
    obtain ⟨CS, hCS⟩ : ∃ CS, (cs.take 60).map madeC = CS := ⟨_, rfl⟩
    have HCS := mkHid hCS
    have hn0 : CS.length = cs.length := by rw [← hCS, made60 hc60, List.length_map]
    have hcn : CS.length ≤ 60 := by omega
    clear hCS hn0
    obtain ⟨X6c0, X6c1, X6c2, X6c3⟩ := X6.out.cellsK (n := f.length) (k := 0) rfl rfl
    go_wp2_with fail
    refine (begun_any _ a3 c3 f 0 none 0 a' cap' cs ⟨X6.out.2.f, X6.out.2.t⟩ HF.out HC.out CS HCS).mono ?_
    rintro e w4 ⟨a5, c5, b5, d5, p5, q5, rfl, hbr, hdn, hfa, hq⟩
    clear X6c0 X6c1 X6c2 X6c3
    replace HL := mkHid (HL.out.below hq)
    replace HC := mkHid (HC.out.below hq)
    replace X6 := mkHid (X6.out.below hq)
    replace HB := mkHid (HB.out.then hq)
    clear hq
    have RD := mkHid hdn
    clear hdn
    have HFA := mkHid hfa
    have R5 := mkHid hbr
    clear hbr hfa
    obtain ⟨x5, hx5⟩ : ∃ X, (w4.alloc (.cells #[.slice a5 f.length c5, .int .i64 0, .bool true, .slice b5 CS.length d5] 25)) = X := ⟨_, rfl⟩
    have hbx : Below w4.heap.size w4 x5 := by rw [← hx5]; exact (Below.refl _ _).new _
    have X7 : Hid (BX x5 w4.heap.size a5 c5 f 0 true b5 d5 CS) := by rw [Hid, ← hx5]; exact BX.madeK R5.out rfl rfl
    replace HL := mkHid (HL.out.below hbx)
    replace HC := mkHid (HC.out.below hbx)
    replace X6 := mkHid (X6.out.below hbx)
    replace RD := mkHid (RD.out.below hbx)
    replace HB := mkHid (HB.out.then hbx)
    clear hbx
    clear R5
    have OK : Hid (OkB f CS) := ⟨HF.out, HFA.out, by omega⟩
    have HBG : Hid (bigF f CS = false) := big_room HFA.out (by omega)
    obtain ⟨m, hm⟩ : ∃ m, nowF f CS = m := ⟨_, rfl⟩
    have HM := mkHid hm
    have HFM : Hid (FR m) := by rw [Hid, ← hm]; exact HF.out.now
    clear hm
    obtain ⟨X7c0, X7c1, X7c2, X7c3⟩ := X7.out.cellsK (n := f.length) (k := CS.length) rfl rfl
    go_wp2_with fail
    first | rw [hx5] | skip
    clear hx5
    refine (commit_okK (n := f.length) (k := CS.length) (u := 1) X7.out.2 OK.out HBG.out (by omega) (by omega) HM (x := lessF m f) (z := lessF f m) rfl rfl rfl rfl rfl rfl rfl rfl).mono ?_
    rintro e w6 ⟨a9, c9, a10, c10, a11, c11, rfl, h9, h10, h11, hq⟩
    clear X7c0 X7c1 X7c2 X7c3
    replace HL := mkHid (HL.out.below hq)
    replace HC := mkHid (HC.out.below hq)
    replace X6 := mkHid (X6.out.below hq)
    replace RD := mkHid (RD.out.below hq)
    replace X7 := mkHid (X7.out.below hq)
    replace HB := mkHid (HB.out.then hq)
    clear hq
    have R9 : Hid (BR w6 a9 c9 m none 0 []) := ⟨h9, nilRow _⟩
    clear h9 h10 h11
    have hbx : Below w6.heap.size w6 (w6.alloc (.cells #[.slice a9 m.length c9, .int .i64 1, .bool false, .slice none 0 0] 25)) := (Below.refl _ _).new _
    have X9 : Hid (BX (w6.alloc (.cells #[.slice a9 m.length c9, .int .i64 1, .bool false, .slice none 0 0] 25)) w6.heap.size a9 c9 m 1 false none 0 []) := BX.madeK R9.out rfl rfl
    replace HL := mkHid (HL.out.below hbx)
    replace HC := mkHid (HC.out.below hbx)
    replace X6 := mkHid (X6.out.below hbx)
    replace RD := mkHid (RD.out.below hbx)
    replace X7 := mkHid (X7.out.below hbx)
    replace HB := mkHid (HB.out.then hbx)
    clear hbx
    clear R9
    obtain ⟨X9c0, X9c1, X9c2, X9c3⟩ := X9.out.cellsK (n := m.length) (k := 0) rfl rfl
    obtain ⟨X6c0, X6c1, X6c2, X6c3⟩ := X6.out.cellsK (n := f.length) (k := 0) rfl rfl
    have hdm := RD.out.max
    have hdl := RD.out.le
    have hfm := X6.out.2.f.max
    have hfl := X6.out.2.f.le
    go_wp2_with fail
    go_loopw [13] (fun i wr => ∃ k : Nat, k ≤ CS.length ∧ i = .int .i64 k ∧ Hid (Below (w6.alloc (.cells #[.slice a9 m.length c9, .int .i64 1, .bool false, .slice none 0 0] 25)).heap.size (w6.alloc (.cells #[.slice a9 m.length c9, .int .i64 1, .bool false, .slice none 0 0] 25)) wr)) (fun i wr => CS.length - (intOf i).toNat)
    case atStart => exact ⟨0, Nat.zero_le _, rfl, Below.refl _ _⟩
    case round =>
      obtain ⟨k, hk, rfl, HBL⟩ := hrel
      by_cases hlt : k < CS.length
      · skip
        obtain ⟨b, off, e0, hb, hat⟩ := RD.out.cases.resolve_left (fun e => by simp [e] at hlt)
        obtain ⟨ya, yc, d0, d1, hry⟩ := lt_at hat HBL.out hlt
        obtain ⟨y, hy⟩ : ∃ y, CS[k].t = y := ⟨_, rfl⟩
        rw [hy] at d1 hry
        obtain ⟨q, hq⟩ : ∃ q, lastG 0 CS y = q := ⟨_, rfl⟩
        have HQ := mkHid hq
        obtain ⟨s, hs⟩ : ∃ s, decide (y ∈ m) = s := ⟨_, rfl⟩
        have HS := mkHid hs
        have hsq : s = (q == 2) := by
          have h1 := mem_last y HF.out HFA.out HBG.out
          rw [HM.out] at h1
          obtain ⟨h2, h3⟩ := last_some (cs := CS) (y := y) 0 0 ⟨CS[k], List.getElem_mem hlt, hy⟩
          rw [hq] at h1 h3
          rw [← hs]
          rcases h3 with h3 | h3
          · rw [h3] at h1 ⊢
            exact decide_eq_false fun h => by rcases h1.1 h with h | ⟨h, _⟩ <;> omega
          · rw [h3] at h1 ⊢
            exact decide_eq_true (h1.2 (.inl rfl))
        have f1 : ∀ x : Later wr, x.w'.cell? ⟨b, off + k * 2 + 1, none⟩ = some (.slice ya y.length yc) := keepL d1
        clear hq hs hy
        obtain rfl := e0
        by_cases hq : q = 2
        · have tq : (q == 2) = true := by rw [hq]; rfl
          rw [tq] at hsq
          subst hsq hq
          have g9 := (X9.out.below HBL.out).cellsK (n := m.length) (k := 0) rfl rfl
          have e9 : ∀ x : Later wr, x.w'.cell? ⟨w6.heap.size, 0, none⟩ = some (.slice a9 m.length c9) := keepL g9.1
          have hc1 : ∀ x : Later wr, Calls Try.prog 34 #[.slice a9 m.length c9, .slice ya y.length yc] x.w' fun e w'' => e = .returned (.bool true) ∧ Below x.w'.heap.size x.w' w'' := fun x => hasK ((X9.out.below HBL.out).2.f.below x.ok) (hry.below x.ok) HFM HS
          have hc2 : ∀ x : Later wr, Calls Try.prog 35 #[.slice (some ⟨b, off, none⟩) CS.length q5, .slice ya y.length yc] x.w' fun e w'' => e = .returned (.int .i64 2) ∧ Below x.w'.heap.size x.w' w'' := fun x => last13_any _ _ CS _ _ y x.w' ((RD.out.below HBL.out).below x.ok) (hry.below x.ok) 2 HQ
          clear g9 hat
          go_wp2
          refine wp_region_calm (by kernel_rfl) (by kernel_rfl) ?_
          repeat (go_big_quiet_step (first | with_reducible exact Calls.calm_of (hc1 _) | with_reducible exact Calls.calm_of (hc2 _)))
          refine wpQuiet_nil ?_
          rintro _ ⟨x, rfl⟩
          have HB2 := mkHid (HBL.out.then x.ok)
          go_wp2
          go_round
          case rel => exact ⟨k + 1, by omega, by go_num, HB2⟩
          case measure => simp [intOf]; omega
        · have tq : (q == 2) = false := by simp [hq]
          rw [tq] at hsq
          subst hsq
          have g9 := (X9.out.below HBL.out).cellsK (n := m.length) (k := 0) rfl rfl
          have e9 : ∀ x : Later wr, x.w'.cell? ⟨w6.heap.size, 0, none⟩ = some (.slice a9 m.length c9) := keepL g9.1
          have hc1 : ∀ x : Later wr, Calls Try.prog 34 #[.slice a9 m.length c9, .slice ya y.length yc] x.w' fun e w'' => e = .returned (.bool false) ∧ Below x.w'.heap.size x.w' w'' := fun x => hasK ((X9.out.below HBL.out).2.f.below x.ok) (hry.below x.ok) HFM HS
          have hc2 : ∀ x : Later wr, Calls Try.prog 35 #[.slice (some ⟨b, off, none⟩) CS.length q5, .slice ya y.length yc] x.w' fun e w'' => e = .returned (.int .i64 q) ∧ Below x.w'.heap.size x.w' w'' := fun x => last13_any _ _ CS _ _ y x.w' ((RD.out.below HBL.out).below x.ok) (hry.below x.ok) q HQ
          clear g9 hat
          go_wp2
          refine wp_region_calm (by kernel_rfl) (by kernel_rfl) ?_
          repeat (go_big_quiet_step (first | with_reducible exact Calls.calm_of (hc1 _) | with_reducible exact Calls.calm_of (hc2 _)))
          refine wpQuiet_nil ?_
          rintro _ ⟨x, rfl⟩
          have HB2 := mkHid (HBL.out.then x.ok)
          go_wp2
          go_round
          case rel => exact ⟨k + 1, by omega, by go_num, HB2⟩
          case measure => simp [intOf]; omega
      · skip
        clear X9c0 X9c1 X9c2 X9c3
        clear X6c0 X6c1 X6c2 X6c3
        replace HL := mkHid (HL.out.below HBL.out)
        replace HC := mkHid (HC.out.below HBL.out)
        replace X6 := mkHid (X6.out.below HBL.out)
        replace RD := mkHid (RD.out.below HBL.out)
        replace X7 := mkHid (X7.out.below HBL.out)
        replace X9 := mkHid (X9.out.below HBL.out)
        replace HB := mkHid (HB.out.then HBL.out)
        obtain ⟨X9c0, X9c1, X9c2, X9c3⟩ := X9.out.cellsK (n := m.length) (k := 0) rfl rfl
        obtain ⟨X6c0, X6c1, X6c2, X6c3⟩ := X6.out.cellsK (n := f.length) (k := 0) rfl rfl
        go_wp2
        go_loopw [14] (fun i wr2 => ∃ k : Nat, k ≤ f.length ∧ i = .int .i64 k ∧ Hid (Below wr.heap.size wr wr2)) (fun i wr2 => f.length - (intOf i).toNat)
        case atStart => exact ⟨0, Nat.zero_le _, rfl, Below.refl _ _⟩
        case round =>
          obtain ⟨k, hk, rfl, HBL⟩ := hrel
          clear X6c0 X6c1 X6c2 X6c3
          obtain ⟨X6c0, X6c1, X6c2, X6c3⟩ := (X6.out.below HBL.out).cellsK (n := f.length) (k := 0) rfl rfl
          by_cases hlt : k < f.length
          · skip
            obtain ⟨b, off, e0, hb, hat⟩ := X6.out.2.f.cases.resolve_left (fun e => by simp [e] at hlt)
            obtain ⟨ya, yc, d0, hry⟩ := list_at hat HBL.out hlt
            obtain ⟨y, hy⟩ : ∃ y, f[k] = y := ⟨_, rfl⟩
            rw [hy] at d0 hry
            have hmem : y ∈ f := by rw [← hy]; exact List.getElem_mem hlt
            obtain ⟨q, hq⟩ : ∃ q, lastG 0 CS y = q := ⟨_, rfl⟩
            have HQ := mkHid hq
            obtain ⟨s, hs⟩ : ∃ s, decide (y ∈ m) = s := ⟨_, rfl⟩
            have HS := mkHid hs
            have hsq : s = (q != 1) := by
              have h1 := mem_last y HF.out HFA.out HBG.out
              rw [HM.out] at h1
              rw [hq] at h1
              have h3 : q = 0 ∨ q = 1 ∨ q = 2 := by
                by_cases hx : ∃ c ∈ CS, c.t = y
                · obtain ⟨_, h4⟩ := last_some (cs := CS) (y := y) 0 0 hx
                  rw [hq] at h4; exact .inr h4
                · rw [last_none 0 fun c hc e => hx ⟨c, hc, e⟩] at hq; exact .inl hq.symm
              rw [← hs]
              rcases h3 with h3 | h3 | h3
              · rw [h3] at h1 ⊢
                exact decide_eq_true (h1.2 (.inr ⟨rfl, hmem⟩))
              · rw [h3] at h1 ⊢
                exact decide_eq_false fun h => by rcases h1.1 h with h | ⟨h, _⟩ <;> omega
              · rw [h3] at h1 ⊢
                exact decide_eq_true (h1.2 (.inl rfl))
            have e6 : ∀ x : Later wr, x.w'.cell? ⟨w3.heap.size, 0, none⟩ = some (.slice a3 f.length c3) := keepL X6c0
            have f1 : ∀ x : Later wr, x.w'.cell? ⟨b, off + k, none⟩ = some (.slice ya y.length yc) := keepL d0
            clear hq hs hy hmem
            obtain rfl := e0
            by_cases hq : q = 1
            · have tq : (q != 1) = false := by rw [hq]; rfl
              rw [tq] at hsq
              subst hsq hq
              have g9 := (X9.out.below HBL.out).cellsK (n := m.length) (k := 0) rfl rfl
              have e9 : ∀ x : Later wr, x.w'.cell? ⟨w6.heap.size, 0, none⟩ = some (.slice a9 m.length c9) := keepL g9.1
              have hc1 : ∀ x : Later wr, Calls Try.prog 34 #[.slice a9 m.length c9, .slice ya y.length yc] x.w' fun e w'' => e = .returned (.bool false) ∧ Below x.w'.heap.size x.w' w'' := fun x => hasK ((X9.out.below HBL.out).2.f.below x.ok) (hry.below x.ok) HFM HS
              have hc2 : ∀ x : Later wr, Calls Try.prog 35 #[.slice p5 CS.length q5, .slice ya y.length yc] x.w' fun e w'' => e = .returned (.int .i64 1) ∧ Below x.w'.heap.size x.w' w'' := fun x => last13_any _ _ CS _ _ y x.w' ((RD.out.below HBL.out).below x.ok) (hry.below x.ok) 1 HQ
              clear g9 hat
              go_wp2
              refine wp_region_calm (by kernel_rfl) (by kernel_rfl) ?_
              repeat (go_big_quiet_step (first | with_reducible exact Calls.calm_of (hc1 _) | with_reducible exact Calls.calm_of (hc2 _)))
              refine wpQuiet_nil ?_
              rintro _ ⟨x, rfl⟩
              have HB2 := mkHid (HBL.out.then x.ok)
              go_wp2
              go_round
              case rel => exact ⟨k + 1, by omega, by go_num, HB2⟩
              case measure => simp [intOf]; omega
            · have tq : (q != 1) = true := by simp [hq]
              rw [tq] at hsq
              subst hsq
              have g9 := (X9.out.below HBL.out).cellsK (n := m.length) (k := 0) rfl rfl
              have e9 : ∀ x : Later wr, x.w'.cell? ⟨w6.heap.size, 0, none⟩ = some (.slice a9 m.length c9) := keepL g9.1
              have hc1 : ∀ x : Later wr, Calls Try.prog 34 #[.slice a9 m.length c9, .slice ya y.length yc] x.w' fun e w'' => e = .returned (.bool true) ∧ Below x.w'.heap.size x.w' w'' := fun x => hasK ((X9.out.below HBL.out).2.f.below x.ok) (hry.below x.ok) HFM HS
              have hc2 : ∀ x : Later wr, Calls Try.prog 35 #[.slice p5 CS.length q5, .slice ya y.length yc] x.w' fun e w'' => e = .returned (.int .i64 q) ∧ Below x.w'.heap.size x.w' w'' := fun x => last13_any _ _ CS _ _ y x.w' ((RD.out.below HBL.out).below x.ok) (hry.below x.ok) q HQ
              clear g9 hat
              go_wp2
              refine wp_region_calm (by kernel_rfl) (by kernel_rfl) ?_
              repeat (go_big_quiet_step (first | with_reducible exact Calls.calm_of (hc1 _) | with_reducible exact Calls.calm_of (hc2 _)))
              refine wpQuiet_nil ?_
              rintro _ ⟨x, rfl⟩
              have HB2 := mkHid (HBL.out.then x.ok)
              go_wp2
              go_round
              case rel => exact ⟨k + 1, by omega, by go_num, HB2⟩
              case measure => simp [intOf]; omega
          · skip
            replace HB := mkHid (HB.out.then HBL.out)
            go_wp2_with fail
            go_ret
            exact ⟨rfl, HB.out⟩
end Go.Proofs.Ytnpffificfghpaa
namespace Go.Proofs.Ytnpffificfghpaa
open Go.RowKit Go.ChangeShapes Go.WideShapes Go.ChangeAt
open Go.ChangeMaps (open_string)

set_option maxRecDepth 100000 in
set_option maxHeartbeats 1000000 in
theorem TransLast_lifted (os : Os) (started : os.Started) (H : Type) (enc : TypeId × Value → H) :
    ReturnsInHanded {} Try.checked os 6 .any (Rows.transLastSpec.pre6 enc Try.prog Try.f6 Rows.transLastRow.domain false) (Rows.transLastSpec.post enc Try.prog Try.f6 false true false false) := by
  refine returnsInHanded_of_change (C := Try.checked) Try.own started (by kernel_rfl) Try.func6
    (ChangeSpec.witness6 (enc := enc) (C := Try.checked) false ⟨#[], #[.slice none 0 0, .slice none 0 0], []⟩ 8 (by kernel_rfl) (by kernel_rfl) (by kernel_rfl) (by kernel_rfl)) ?_
  intro W base args ds gs before hval0 hW hcnd _
  have hval : ∀ (j : Nat) t v, Try.f6.params[j]? = some t → args[j]? = some v → Value.okWide Try.prog W .any base t v := hval0
  have hW' := hW
  obtain ⟨p, q, hA0, hV, rfl, hfz, hnd⟩ := hW
  have hA : DataW.TrodAll enc Try.prog W 0 (fun _ => true) true Try.f6.params.toList args.toList ds p := hA0
  rw [Try.params6] at hA hval
  obtain ⟨v0, vs0, d0, ds0, p0, q0, hargs, rfl, rfl, h0, r0⟩ := trodAll_cons hA
  obtain ⟨v1, vs1, d1, ds1, p1, q1, rfl, rfl, rfl, h1, r1⟩ := trodAll_cons r0
  obtain ⟨rfl, rfl, rfl⟩ := trodAll_nil r1
  obtain rfl : args = #[v0, v1] := by cases args; simp_all
  obtain ⟨rfl, rfl⟩ := trodVars_none hV
  have k0 := h0
  have lt0 : ∀ x ∈ p0, x.block < W.heap.size := by obtain ⟨m, hm⟩ := k0; exact DataW.trod_lt m _ _ _ hm
  obtain ⟨a0, len0, cap0, rfl⟩ := okWide_slice Try.underlying22 (hval 0 22 v0 rfl rfl)
  obtain ⟨xs0, rfl, hr0⟩ : ∃ xs : List (List Cel), xs.length = len0 ∧ Row W a0 cap0 xs := by
    obtain ⟨fuel, hf⟩ := h0
    exact open_cellss hf
  have k1 := h1
  have lt1 : ∀ x ∈ p1, x.block < W.heap.size := by obtain ⟨m, hm⟩ := k1; exact DataW.trod_lt m _ _ _ hm
  obtain ⟨a1, len1, cap1, rfl⟩ := okWide_slice Try.underlying23 (hval 1 23 v1 rfl rfl)
  obtain ⟨xs1, rfl, hr1⟩ : ∃ xs : List Lt, xs.length = len1 ∧ Row W a1 cap1 xs := by
    obtain ⟨fuel, hf⟩ := h1
    exact open_chgs13 hf
  clear hA0 hval0
  refine (lawTLast_any head13_any a0 cap0 xs0 a1 cap1 xs1 W hr0 hr1).mono fun e W' ⟨he, bel⟩ => ?_
  subst he
  exact ⟨_, rfl, _, _, _, [], _, [], hW', trodAll_mk1 (shut_bool Try.underlying4 _), (trodAll_cons_mk (Below.trod Try.laidOut (by kernel_rfl) (of_decide_eq_true (by kernel_rfl)) k0 bel lt0) (trodAll_cons_mk (Below.trod Try.laidOut (by kernel_rfl) (of_decide_eq_true (by kernel_rfl)) k1 bel lt1) trodAll_mk0)), rfl, bel.frame _, fun h => by cases h⟩

theorem TransLast_over : Rows.transLastRow.holds Try.pinned (OpenSpec.ofChange Rows.transLastSpec) :=
  OpenClaim.holds_of_wide 6 Try.f6 rfl rfl rfl rfl rfl rfl rfl ⟨rfl, rfl, rfl, rfl, rfl⟩ rfl rfl rfl rfl rfl (by kernel_rfl) Try.func6 (by kernel_rfl)
    (of_decide_eq_true (by kernel_rfl)) (by unfold Func.isWrapper; first | (rw [if_pos (by decide +kernel)]; kernel_rfl) | (rw [if_neg (by decide +kernel)]; exact ⟨rfl, rfl⟩))
    (fun os started H enc _ => TransLast_lifted os started H enc)

theorem TransLast_holds : Rows.TransLastSaid := TransLast_over
end Go.Proofs.Ytnpffificfghpaa
