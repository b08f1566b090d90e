/-
  Of layer 13 of sorrel: whatever arguments come in, the law TransCame returns true, and what was handed in reads as it did: the facts behind a commit are what Now told: those ahead of it, but what went, and with what came; nothing came that was there, or went that was not. No condition.
-/
import Derived.Test.YtnpffificfghpaaZr6
set_option linter.unusedVariables false
namespace Go.Proofs.Ytnpffificfghpaa
open Go.RowKit

set_option maxHeartbeats 6400000 in
set_option maxRecDepth 100000 in
theorem lawTCame_any (hH : Head13) (a : Option Addr) (cap : Nat) (l : List (List Cel)) (a' : Option Addr) (cap' : Nat) (cs : List Lt) (w : World) (hr : Row w a cap l) (hc : Row w a' cap' cs) :
    Calls Try.prog 5 #[.slice a l.length cap, .slice a' cs.length cap'] w fun e w' => e = .returned (.bool true) ∧ Below w.heap.size w w' := by
  have HH := mkHid hH
  clear hH
  have hlm := hr.max
  have hll := hr.le
  have hcm := hc.max
  have hcl := hc.le
  have HB := mkHid (Below.refl w.heap.size w)
  have HL := mkHid hr
  have HC := mkHid hc
  clear hr hc
  go_enter Try.func5, Try.ntmps5
  go_wp2_with fail
  refine (HH.out _).mono ?_
  rintro e w1 ⟨rfl, hq⟩
  replace HL := mkHid (HL.out.below hq)
  replace HC := mkHid (HC.out.below hq)
  replace HB := mkHid (HB.out.then hq)
  clear hq
  go_wp2_with fail
  refine (great13_any a cap l a' cap' cs _ HL.out HC.out).mono ?_
  rintro e w2 ⟨⟨b, rfl, hg⟩, hq⟩
  replace HL := mkHid (HL.out.below hq)
  replace HC := mkHid (HC.out.below hq)
  replace HB := mkHid (HB.out.then hq)
  clear hq
  cases b with
  | true =>
    go_wp2_with fail
    go_ret
    exact ⟨rfl, HB.out⟩
  | false =>
    obtain ⟨hl60, hc60⟩ := hg rfl
    clear hg
    go_wp2_with fail
    refine (made13_any a cap l _ HL.out).mono ?_
    rintro e w3 ⟨a3, c3, f, rfl, hf, hF, hf40, hq⟩
    replace HL := mkHid (HL.out.below hq)
    replace HC := mkHid (HC.out.below hq)
    replace HB := mkHid (HB.out.then hq)
    clear hq
    have RF := mkHid hf
    clear hf
    have HF := mkHid hF
    clear hF
    have RF0 : Hid (BR w3 a3 c3 f none 0 []) := ⟨RF.out, nilRow _⟩
    have hbx : Below w3.heap.size w3 (w3.alloc (.cells #[.slice a3 f.length c3, .int .i64 0, .bool false, .slice none 0 0] 25)) := (Below.refl _ _).new _
    have X6 : Hid (BX (w3.alloc (.cells #[.slice a3 f.length c3, .int .i64 0, .bool false, .slice none 0 0] 25)) w3.heap.size a3 c3 f 0 false none 0 []) := BX.madeK RF0.out rfl rfl
    replace HL := mkHid (HL.out.below hbx)
    replace HC := mkHid (HC.out.below hbx)
    replace RF := mkHid (RF.out.below hbx)
    replace HB := mkHid (HB.out.then hbx)
    clear hbx
    clear RF0
    clear RF
    obtain ⟨CS, hCS⟩ : ∃ CS, (cs.take 60).map madeC = CS := ⟨_, rfl⟩
    have HCS := mkHid hCS
    have hn0 : CS.length = cs.length := by rw [← hCS, made60 hc60, List.length_map]
    have hcn : CS.length ≤ 60 := by omega
    clear hCS hn0
    obtain ⟨X6c0, X6c1, X6c2, X6c3⟩ := X6.out.cellsK (n := f.length) (k := 0) rfl rfl
    go_wp2_with fail
    refine (begun_any _ a3 c3 f 0 none 0 a' cap' cs ⟨X6.out.2.f, X6.out.2.t⟩ HF.out HC.out CS HCS).mono ?_
    rintro e w4 ⟨a5, c5, b5, d5, p5, q5, rfl, hbr, hdn, hfa, hq⟩
    clear X6c0 X6c1 X6c2 X6c3
    replace HL := mkHid (HL.out.below hq)
    replace HC := mkHid (HC.out.below hq)
    replace X6 := mkHid (X6.out.below hq)
    replace HB := mkHid (HB.out.then hq)
    clear hq
    have RD := mkHid hdn
    clear hdn
    have HFA := mkHid hfa
    have R5 := mkHid hbr
    clear hbr hfa
    obtain ⟨x5, hx5⟩ : ∃ X, (w4.alloc (.cells #[.slice a5 f.length c5, .int .i64 0, .bool true, .slice b5 CS.length d5] 25)) = X := ⟨_, rfl⟩
    have hbx : Below w4.heap.size w4 x5 := by rw [← hx5]; exact (Below.refl _ _).new _
    have X7 : Hid (BX x5 w4.heap.size a5 c5 f 0 true b5 d5 CS) := by rw [Hid, ← hx5]; exact BX.madeK R5.out rfl rfl
    replace HL := mkHid (HL.out.below hbx)
    replace HC := mkHid (HC.out.below hbx)
    replace X6 := mkHid (X6.out.below hbx)
    replace RD := mkHid (RD.out.below hbx)
    replace HB := mkHid (HB.out.then hbx)
    clear hbx
    clear R5
    have OK : Hid (OkB f CS) := ⟨HF.out, HFA.out, by omega⟩
    have HBG : Hid (bigF f CS = false) := big_room HFA.out (by omega)
    obtain ⟨m, hm⟩ : ∃ m, nowF f CS = m := ⟨_, rfl⟩
    have HM := mkHid hm
    have HFM : Hid (FR m) := by rw [Hid, ← hm]; exact HF.out.now
    clear hm
    obtain ⟨x, hx⟩ : ∃ x, lessF m f = x := ⟨_, rfl⟩
    obtain ⟨z, hz⟩ : ∃ z, lessF f m = z := ⟨_, rfl⟩
    have HX := mkHid hx
    have HZ := mkHid hz
    have hm512 := HFM.out.len
    have hx512 : x.length ≤ 512 := by rw [← hx]; exact (HFM.out.less f).len
    have hz512 : z.length ≤ 512 := by rw [← hz]; exact (HF.out.less m).len
    have hcl2 := came_len HF.out HFM.out
    rw [hx, hz] at hcl2
    have HLN := mkHid hcl2
    clear hx hz hcl2
    obtain ⟨X7c0, X7c1, X7c2, X7c3⟩ := X7.out.cellsK (n := f.length) (k := CS.length) rfl rfl
    go_wp2_with fail
    first | rw [hx5] | skip
    clear hx5
    refine (nowK (n := f.length) (k := CS.length) (j := m.length) X7.out.2 OK.out HM rfl rfl rfl).mono ?_
    rintro e w6 ⟨a8, c8, rfl, h8, hq⟩
    clear X7c0 X7c1 X7c2 X7c3
    replace HL := mkHid (HL.out.below hq)
    replace HC := mkHid (HC.out.below hq)
    replace X6 := mkHid (X6.out.below hq)
    replace RD := mkHid (RD.out.below hq)
    replace X7 := mkHid (X7.out.below hq)
    replace HB := mkHid (HB.out.then hq)
    clear hq
    have RN := mkHid h8
    clear h8
    obtain ⟨X6c0, X6c1, X6c2, X6c3⟩ := X6.out.cellsK (n := f.length) (k := 0) rfl rfl
    obtain ⟨X7c0, X7c1, X7c2, X7c3⟩ := X7.out.cellsK (n := f.length) (k := CS.length) rfl rfl
    go_wp2_with fail
    refine (commit_okK (n := f.length) (k := CS.length) (u := 1) X7.out.2 OK.out HBG.out (by omega) (by omega) HM HX HZ rfl rfl rfl rfl rfl rfl).mono ?_
    rintro e w7 ⟨a9, c9, a10, c10, a11, c11, rfl, h9, h10, h11, hq⟩
    clear X6c0 X6c1 X6c2 X6c3
    clear X7c0 X7c1 X7c2 X7c3
    replace HL := mkHid (HL.out.below hq)
    replace HC := mkHid (HC.out.below hq)
    replace X6 := mkHid (X6.out.below hq)
    replace RD := mkHid (RD.out.below hq)
    replace X7 := mkHid (X7.out.below hq)
    replace RN := mkHid (RN.out.below hq)
    replace HB := mkHid (HB.out.then hq)
    clear hq
    have RX := mkHid h10
    clear h10
    have RZ := mkHid h11
    clear h11
    have R9 : Hid (BR w7 a9 c9 m none 0 []) := ⟨h9, nilRow _⟩
    clear h9
    have hbx : Below w7.heap.size w7 (w7.alloc (.cells #[.slice a9 m.length c9, .int .i64 1, .bool false, .slice none 0 0] 25)) := (Below.refl _ _).new _
    have X10 : Hid (BX (w7.alloc (.cells #[.slice a9 m.length c9, .int .i64 1, .bool false, .slice none 0 0] 25)) w7.heap.size a9 c9 m 1 false none 0 []) := BX.madeK R9.out rfl rfl
    replace HL := mkHid (HL.out.below hbx)
    replace HC := mkHid (HC.out.below hbx)
    replace X6 := mkHid (X6.out.below hbx)
    replace RD := mkHid (RD.out.below hbx)
    replace X7 := mkHid (X7.out.below hbx)
    replace RN := mkHid (RN.out.below hbx)
    replace RX := mkHid (RX.out.below hbx)
    replace RZ := mkHid (RZ.out.below hbx)
    replace HB := mkHid (HB.out.then hbx)
    clear hbx
    clear R9
    obtain ⟨X10c0, X10c1, X10c2, X10c3⟩ := X10.out.cellsK (n := m.length) (k := 0) rfl rfl
    obtain ⟨X6c0, X6c1, X6c2, X6c3⟩ := X6.out.cellsK (n := f.length) (k := 0) rfl rfl
    go_wp2_with fail
    refine (sameall_lit (n := m.length) (m := m.length) rfl X10.out.2.f rfl RN.out (decide_eq_true rfl)).mono ?_
    rintro e w8 ⟨rfl, hq⟩
    clear X10c0 X10c1 X10c2 X10c3
    clear X6c0 X6c1 X6c2 X6c3
    replace HL := mkHid (HL.out.below hq)
    replace HC := mkHid (HC.out.below hq)
    replace X6 := mkHid (X6.out.below hq)
    replace RD := mkHid (RD.out.below hq)
    replace X7 := mkHid (X7.out.below hq)
    replace RN := mkHid (RN.out.below hq)
    replace RX := mkHid (RX.out.below hq)
    replace RZ := mkHid (RZ.out.below hq)
    replace X10 := mkHid (X10.out.below hq)
    replace HB := mkHid (HB.out.then hq)
    clear hq
    obtain ⟨X10c0, X10c1, X10c2, X10c3⟩ := X10.out.cellsK (n := m.length) (k := 0) rfl rfl
    obtain ⟨X6c0, X6c1, X6c2, X6c3⟩ := X6.out.cellsK (n := f.length) (k := 0) rfl rfl
    have hxm := RX.out.max
    have hxl := RX.out.le
    have hzm := RZ.out.max
    have hzl := RZ.out.le
    go_wp2_with fail
    go_loopw [14] (fun i wr => ∃ k : Nat, k ≤ x.length ∧ i = .int .i64 k ∧ Hid (Below w8.heap.size w8 wr)) (fun i wr => x.length - (intOf i).toNat)
    case atStart => exact ⟨0, Nat.zero_le _, rfl, Below.refl _ _⟩
    case round =>
      obtain ⟨k, hk, rfl, HBL⟩ := hrel
      by_cases hlt : k < x.length
      · skip
        obtain ⟨b, off, rfl, hb, hat⟩ := RX.out.cases.resolve_left (fun e => by simp [e] at hlt)
        obtain ⟨ya, yc, d0, hry⟩ := list_at hat HBL.out hlt
        obtain ⟨y, hy⟩ : ∃ y, x[k] = y := ⟨_, rfl⟩
        rw [hy] at d0 hry
        have hmem : y ∈ x := by rw [← hy]; exact List.getElem_mem hlt
        rw [← HX.out] at hmem
        have H1 : Hid (decide (y ∈ f) = false) := decide_eq_false (mem_lessF.1 hmem).2
        have H2 : Hid (decide (y ∈ m) = true) := decide_eq_true (mem_lessF.1 hmem).1
        have g6 := (X6.out.below HBL.out).cellsK (n := f.length) (k := 0) rfl rfl
        have g10 := (X10.out.below HBL.out).cellsK (n := m.length) (k := 0) rfl rfl
        have e6 : ∀ x : Later wr, x.w'.cell? ⟨w3.heap.size, 0, none⟩ = some (.slice a3 f.length c3) := keepL g6.1
        have e10 : ∀ x : Later wr, x.w'.cell? ⟨w7.heap.size, 0, none⟩ = some (.slice a9 m.length c9) := keepL g10.1
        have e0 : ∀ x : Later wr, x.w'.cell? ⟨b, off + k, none⟩ = some (.slice ya y.length yc) := keepL d0
        have hc1 : ∀ x : Later wr, Calls Try.prog 34 #[.slice a3 f.length c3, .slice ya y.length yc] x.w' fun e w'' => e = .returned (.bool false) ∧ Below x.w'.heap.size x.w' w'' := fun x => hasK ((X6.out.below HBL.out).2.f.below x.ok) (hry.below x.ok) HF H1
        have hc2 : ∀ x : Later wr, Calls Try.prog 34 #[.slice a9 m.length c9, .slice ya y.length yc] x.w' fun e w'' => e = .returned (.bool true) ∧ Below x.w'.heap.size x.w' w'' := fun x => hasK ((X10.out.below HBL.out).2.f.below x.ok) (hry.below x.ok) HFM H2
        clear hy hmem g6 g10 hat
        go_wp2
        refine wp_region_calm (by kernel_rfl) (by kernel_rfl) ?_
        repeat (go_big_quiet_step (first | with_reducible exact Calls.calm_of (hc1 _) | with_reducible exact Calls.calm_of (hc2 _)))
        refine wpQuiet_nil ?_
        rintro _ ⟨x, rfl⟩
        have HB2 := mkHid (HBL.out.then x.ok)
        go_wp2
        go_round
        case rel => exact ⟨k + 1, by omega, by go_num, HB2⟩
        case measure => simp [intOf]; omega
      · skip
        clear X10c0 X10c1 X10c2 X10c3
        clear X6c0 X6c1 X6c2 X6c3
        replace HL := mkHid (HL.out.below HBL.out)
        replace HC := mkHid (HC.out.below HBL.out)
        replace X6 := mkHid (X6.out.below HBL.out)
        replace RD := mkHid (RD.out.below HBL.out)
        replace X7 := mkHid (X7.out.below HBL.out)
        replace RN := mkHid (RN.out.below HBL.out)
        replace RX := mkHid (RX.out.below HBL.out)
        replace RZ := mkHid (RZ.out.below HBL.out)
        replace X10 := mkHid (X10.out.below HBL.out)
        replace HB := mkHid (HB.out.then HBL.out)
        obtain ⟨X10c0, X10c1, X10c2, X10c3⟩ := X10.out.cellsK (n := m.length) (k := 0) rfl rfl
        obtain ⟨X6c0, X6c1, X6c2, X6c3⟩ := X6.out.cellsK (n := f.length) (k := 0) rfl rfl
        go_wp2
        go_loopw [15] (fun i wr2 => ∃ k : Nat, k ≤ z.length ∧ i = .int .i64 k ∧ Hid (Below wr.heap.size wr wr2)) (fun i wr2 => z.length - (intOf i).toNat)
        case atStart => exact ⟨0, Nat.zero_le _, rfl, Below.refl _ _⟩
        case round =>
          obtain ⟨k, hk, rfl, HBL⟩ := hrel
          by_cases hlt : k < z.length
          · skip
            obtain ⟨b, off, rfl, hb, hat⟩ := RZ.out.cases.resolve_left (fun e => by simp [e] at hlt)
            obtain ⟨ya, yc, d0, hry⟩ := list_at hat HBL.out hlt
            obtain ⟨y, hy⟩ : ∃ y, z[k] = y := ⟨_, rfl⟩
            rw [hy] at d0 hry
            have hmem : y ∈ z := by rw [← hy]; exact List.getElem_mem hlt
            rw [← HZ.out] at hmem
            have H1 : Hid (decide (y ∈ f) = true) := decide_eq_true (mem_lessF.1 hmem).1
            have H2 : Hid (decide (y ∈ m) = false) := decide_eq_false (mem_lessF.1 hmem).2
            have g6 := (X6.out.below HBL.out).cellsK (n := f.length) (k := 0) rfl rfl
            have g10 := (X10.out.below HBL.out).cellsK (n := m.length) (k := 0) rfl rfl
            have e6 : ∀ x : Later wr, x.w'.cell? ⟨w3.heap.size, 0, none⟩ = some (.slice a3 f.length c3) := keepL g6.1
            have e10 : ∀ x : Later wr, x.w'.cell? ⟨w7.heap.size, 0, none⟩ = some (.slice a9 m.length c9) := keepL g10.1
            have e0 : ∀ x : Later wr, x.w'.cell? ⟨b, off + k, none⟩ = some (.slice ya y.length yc) := keepL d0
            have hc1 : ∀ x : Later wr, Calls Try.prog 34 #[.slice a3 f.length c3, .slice ya y.length yc] x.w' fun e w'' => e = .returned (.bool true) ∧ Below x.w'.heap.size x.w' w'' := fun x => hasK ((X6.out.below HBL.out).2.f.below x.ok) (hry.below x.ok) HF H1
            have hc2 : ∀ x : Later wr, Calls Try.prog 34 #[.slice a9 m.length c9, .slice ya y.length yc] x.w' fun e w'' => e = .returned (.bool false) ∧ Below x.w'.heap.size x.w' w'' := fun x => hasK ((X10.out.below HBL.out).2.f.below x.ok) (hry.below x.ok) HFM H2
            clear hy hmem g6 g10 hat
            go_wp2
            refine wp_region_calm (by kernel_rfl) (by kernel_rfl) ?_
            repeat (go_big_quiet_step (first | with_reducible exact Calls.calm_of (hc1 _) | with_reducible exact Calls.calm_of (hc2 _)))
            refine wpQuiet_nil ?_
            rintro _ ⟨x, rfl⟩
            have HB2 := mkHid (HBL.out.then x.ok)
            go_wp2
            go_round
            case rel => exact ⟨k + 1, by omega, by go_num, HB2⟩
            case measure => simp [intOf]; omega
          · skip
            clear X10c0 X10c1 X10c2 X10c3
            clear X6c0 X6c1 X6c2 X6c3
            replace HL := mkHid (HL.out.below HBL.out)
            replace HC := mkHid (HC.out.below HBL.out)
            replace X6 := mkHid (X6.out.below HBL.out)
            replace RD := mkHid (RD.out.below HBL.out)
            replace X7 := mkHid (X7.out.below HBL.out)
            replace RN := mkHid (RN.out.below HBL.out)
            replace RX := mkHid (RX.out.below HBL.out)
            replace RZ := mkHid (RZ.out.below HBL.out)
            replace X10 := mkHid (X10.out.below HBL.out)
            replace HB := mkHid (HB.out.then HBL.out)
            obtain ⟨X10c0, X10c1, X10c2, X10c3⟩ := X10.out.cellsK (n := m.length) (k := 0) rfl rfl
            obtain ⟨X6c0, X6c1, X6c2, X6c3⟩ := X6.out.cellsK (n := f.length) (k := 0) rfl rfl
            have tl : ((m.length : Int) == (f.length : Int) + (x.length : Int) - (z.length : Int)) = true := by have h := HLN.out; simp; omega
            go_wp2_with fail
            go_ret
            exact ⟨rfl, HB.out⟩
end Go.Proofs.Ytnpffificfghpaa
namespace Go.Proofs.Ytnpffificfghpaa
open Go.RowKit Go.ChangeShapes Go.WideShapes Go.ChangeAt
open Go.ChangeMaps (open_string)

set_option maxRecDepth 100000 in
set_option maxHeartbeats 1000000 in
theorem TransCame_lifted (os : Os) (started : os.Started) (H : Type) (enc : TypeId × Value → H) :
    ReturnsInHanded {} Try.checked os 5 .any (Rows.transCameSpec.pre6 enc Try.prog Try.f5 Rows.transCameRow.domain false) (Rows.transCameSpec.post enc Try.prog Try.f5 false true false false) := by
  refine returnsInHanded_of_change (C := Try.checked) Try.own started (by kernel_rfl) Try.func5
    (ChangeSpec.witness6 (enc := enc) (C := Try.checked) false ⟨#[], #[.slice none 0 0, .slice none 0 0], []⟩ 8 (by kernel_rfl) (by kernel_rfl) (by kernel_rfl) (by kernel_rfl)) ?_
  intro W base args ds gs before hval0 hW hcnd _
  have hval : ∀ (j : Nat) t v, Try.f5.params[j]? = some t → args[j]? = some v → Value.okWide Try.prog W .any base t v := hval0
  have hW' := hW
  obtain ⟨p, q, hA0, hV, rfl, hfz, hnd⟩ := hW
  have hA : DataW.TrodAll enc Try.prog W 0 (fun _ => true) true Try.f5.params.toList args.toList ds p := hA0
  rw [Try.params5] at hA hval
  obtain ⟨v0, vs0, d0, ds0, p0, q0, hargs, rfl, rfl, h0, r0⟩ := trodAll_cons hA
  obtain ⟨v1, vs1, d1, ds1, p1, q1, rfl, rfl, rfl, h1, r1⟩ := trodAll_cons r0
  obtain ⟨rfl, rfl, rfl⟩ := trodAll_nil r1
  obtain rfl : args = #[v0, v1] := by cases args; simp_all
  obtain ⟨rfl, rfl⟩ := trodVars_none hV
  have k0 := h0
  have lt0 : ∀ x ∈ p0, x.block < W.heap.size := by obtain ⟨m, hm⟩ := k0; exact DataW.trod_lt m _ _ _ hm
  obtain ⟨a0, len0, cap0, rfl⟩ := okWide_slice Try.underlying22 (hval 0 22 v0 rfl rfl)
  obtain ⟨xs0, rfl, hr0⟩ : ∃ xs : List (List Cel), xs.length = len0 ∧ Row W a0 cap0 xs := by
    obtain ⟨fuel, hf⟩ := h0
    exact open_cellss hf
  have k1 := h1
  have lt1 : ∀ x ∈ p1, x.block < W.heap.size := by obtain ⟨m, hm⟩ := k1; exact DataW.trod_lt m _ _ _ hm
  obtain ⟨a1, len1, cap1, rfl⟩ := okWide_slice Try.underlying23 (hval 1 23 v1 rfl rfl)
  obtain ⟨xs1, rfl, hr1⟩ : ∃ xs : List Lt, xs.length = len1 ∧ Row W a1 cap1 xs := by
    obtain ⟨fuel, hf⟩ := h1
    exact open_chgs13 hf
  clear hA0 hval0
  refine (lawTCame_any head13_any a0 cap0 xs0 a1 cap1 xs1 W hr0 hr1).mono fun e W' ⟨he, bel⟩ => ?_
  subst he
  exact ⟨_, rfl, _, _, _, [], _, [], hW', trodAll_mk1 (shut_bool Try.underlying4 _), (trodAll_cons_mk (Below.trod Try.laidOut (by kernel_rfl) (of_decide_eq_true (by kernel_rfl)) k0 bel lt0) (trodAll_cons_mk (Below.trod Try.laidOut (by kernel_rfl) (of_decide_eq_true (by kernel_rfl)) k1 bel lt1) trodAll_mk0)), rfl, bel.frame _, fun h => by cases h⟩

theorem TransCame_over : Rows.transCameRow.holds Try.pinned (OpenSpec.ofChange Rows.transCameSpec) :=
  OpenClaim.holds_of_wide 5 Try.f5 rfl rfl rfl rfl rfl rfl rfl ⟨rfl, rfl, rfl, rfl, rfl⟩ rfl rfl rfl rfl rfl (by kernel_rfl) Try.func5 (by kernel_rfl)
    (of_decide_eq_true (by kernel_rfl)) (by unfold Func.isWrapper; first | (rw [if_pos (by decide +kernel)]; kernel_rfl) | (rw [if_neg (by decide +kernel)]; exact ⟨rfl, rfl⟩))
    (fun os started H enc _ => TransCame_lifted os started H enc)

theorem TransCame_holds : Rows.TransCameSaid := TransCame_over
end Go.Proofs.Ytnpffificfghpaa
