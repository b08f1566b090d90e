/-
  Of layer 13 of sorrel: whatever arguments come in, the law TransStays returns true, and what was handed in reads as it did: a base stays right, whatever is done; and until it is committed its facts, and its version, stay as they were. No condition.
-/
import Derived.Test.YtnpffificfghpaaZr6
set_option linter.unusedVariables false
namespace Go.Proofs.Ytnpffificfghpaa
open Go.RowKit

set_option maxHeartbeats 6400000 in
set_option maxRecDepth 100000 in
theorem lawTStays_any (hH : Head13) (a : Option Addr) (cap : Nat) (l : List (List Cel)) (a' : Option Addr) (cap' : Nat) (cs : List Lt) (w : World) (hr : Row w a cap l) (hc : Row w a' cap' cs) :
    Calls Try.prog 4 #[.slice a l.length cap, .slice a' cs.length cap'] w fun e w' => e = .returned (.bool true) ∧ Below w.heap.size w w' := by
  have HH := mkHid hH
  clear hH
  have hlm := hr.max
  have hll := hr.le
  have hcm := hc.max
  have hcl := hc.le
  have HB := mkHid (Below.refl w.heap.size w)
  have HL := mkHid hr
  have HC := mkHid hc
  clear hr hc
  go_enter Try.func4, Try.ntmps4
  go_wp2_with fail
  refine (HH.out _).mono ?_
  rintro e w1 ⟨rfl, hq⟩
  replace HL := mkHid (HL.out.below hq)
  replace HC := mkHid (HC.out.below hq)
  replace HB := mkHid (HB.out.then hq)
  clear hq
  go_wp2_with fail
  refine (great13_any a cap l a' cap' cs _ HL.out HC.out).mono ?_
  rintro e w2 ⟨⟨b, rfl, hg⟩, hq⟩
  replace HL := mkHid (HL.out.below hq)
  replace HC := mkHid (HC.out.below hq)
  replace HB := mkHid (HB.out.then hq)
  clear hq
  cases b with
  | true =>
    go_wp2_with fail
    go_ret
    exact ⟨rfl, HB.out⟩
  | false =>
    obtain ⟨hl60, hc60⟩ := hg rfl
    clear hg
    go_wp2_with fail
    refine (made13_any a cap l _ HL.out).mono ?_
    rintro e w3 ⟨a3, c3, f, rfl, hf, hF, hf40, hq⟩
    replace HL := mkHid (HL.out.below hq)
    replace HC := mkHid (HC.out.below hq)
    replace HB := mkHid (HB.out.then hq)
    clear hq
    have RF := mkHid hf
    clear hf
    have HF := mkHid hF
    clear hF
    have RF0 : Hid (BR w3 a3 c3 f none 0 []) := ⟨RF.out, nilRow _⟩
    have hbx : Below w3.heap.size w3 (w3.alloc (.cells #[.slice a3 f.length c3, .int .i64 0, .bool false, .slice none 0 0] 25)) := (Below.refl _ _).new _
    have X6 : Hid (BX (w3.alloc (.cells #[.slice a3 f.length c3, .int .i64 0, .bool false, .slice none 0 0] 25)) w3.heap.size a3 c3 f 0 false none 0 []) := BX.madeK RF0.out rfl rfl
    replace HL := mkHid (HL.out.below hbx)
    replace HC := mkHid (HC.out.below hbx)
    replace RF := mkHid (RF.out.below hbx)
    replace HB := mkHid (HB.out.then hbx)
    clear hbx
    clear RF0
    clear RF
    obtain ⟨CS, hCS⟩ : ∃ CS, (cs.take 60).map madeC = CS := ⟨_, rfl⟩
    have HCS := mkHid hCS
    have hn0 : CS.length = cs.length := by rw [← hCS, made60 hc60, List.length_map]
    have t1 : ((CS.length : Int) != (cs.length : Int)) = false := by rw [hn0]; simp
    have hcn : CS.length ≤ 60 := by omega
    clear hCS hn0
    obtain ⟨X6c0, X6c1, X6c2, X6c3⟩ := X6.out.cellsK (n := f.length) (k := 0) rfl rfl
    go_wp2_with fail
    refine (begun_any _ a3 c3 f 0 none 0 a' cap' cs ⟨X6.out.2.f, X6.out.2.t⟩ HF.out HC.out CS HCS).mono ?_
    rintro e w4 ⟨a5, c5, b5, d5, p5, q5, rfl, hbr, hdn, hfa, hq⟩
    clear X6c0 X6c1 X6c2 X6c3
    replace HL := mkHid (HL.out.below hq)
    replace HC := mkHid (HC.out.below hq)
    replace X6 := mkHid (X6.out.below hq)
    replace HB := mkHid (HB.out.then hq)
    clear hq
    have RD := mkHid hdn
    clear hdn
    have HFA := mkHid hfa
    have R5 := mkHid hbr
    clear hbr hfa
    obtain ⟨x5, hx5⟩ : ∃ X, (w4.alloc (.cells #[.slice a5 f.length c5, .int .i64 0, .bool true, .slice b5 CS.length d5] 25)) = X := ⟨_, rfl⟩
    have hbx : Below w4.heap.size w4 x5 := by rw [← hx5]; exact (Below.refl _ _).new _
    have X7 : Hid (BX x5 w4.heap.size a5 c5 f 0 true b5 d5 CS) := by rw [Hid, ← hx5]; exact BX.madeK R5.out rfl rfl
    replace HL := mkHid (HL.out.below hbx)
    replace HC := mkHid (HC.out.below hbx)
    replace X6 := mkHid (X6.out.below hbx)
    replace RD := mkHid (RD.out.below hbx)
    replace HB := mkHid (HB.out.then hbx)
    clear hbx
    clear R5
    have OK : Hid (OkB f CS) := ⟨HF.out, HFA.out, by omega⟩
    have HBG : Hid (bigF f CS = false) := big_room HFA.out (by omega)
    obtain ⟨m, hm⟩ : ∃ m, nowF f CS = m := ⟨_, rfl⟩
    have HM := mkHid hm
    have HFM : Hid (FR m) := by rw [Hid, ← hm]; exact HF.out.now
    clear hm
    obtain ⟨X6c0, X6c1, X6c2, X6c3⟩ := X6.out.cellsK (n := f.length) (k := 0) rfl rfl
    obtain ⟨X7c0, X7c1, X7c2, X7c3⟩ := X7.out.cellsK (n := f.length) (k := CS.length) rfl rfl
    go_wp2_with fail
    first | rw [hx5] | skip
    clear hx5
    refine (rightK13 (n := f.length) (k := CS.length) X7.out.2 (right_on HF.out HFA.out (by omega) (by omega)) rfl rfl).mono ?_
    rintro e w6 ⟨rfl, hq⟩
    clear X6c0 X6c1 X6c2 X6c3
    clear X7c0 X7c1 X7c2 X7c3
    replace HL := mkHid (HL.out.below hq)
    replace HC := mkHid (HC.out.below hq)
    replace X6 := mkHid (X6.out.below hq)
    replace RD := mkHid (RD.out.below hq)
    replace X7 := mkHid (X7.out.below hq)
    replace HB := mkHid (HB.out.then hq)
    clear hq
    obtain ⟨X6c0, X6c1, X6c2, X6c3⟩ := X6.out.cellsK (n := f.length) (k := 0) rfl rfl
    obtain ⟨X7c0, X7c1, X7c2, X7c3⟩ := X7.out.cellsK (n := f.length) (k := CS.length) rfl rfl
    go_wp2_with fail
    refine (sameall_lit (n := f.length) (m := f.length) rfl X7.out.2.f rfl X6.out.2.f (decide_eq_true rfl)).mono ?_
    rintro e w7 ⟨rfl, hq⟩
    clear X6c0 X6c1 X6c2 X6c3
    clear X7c0 X7c1 X7c2 X7c3
    replace HL := mkHid (HL.out.below hq)
    replace HC := mkHid (HC.out.below hq)
    replace X6 := mkHid (X6.out.below hq)
    replace RD := mkHid (RD.out.below hq)
    replace X7 := mkHid (X7.out.below hq)
    replace HB := mkHid (HB.out.then hq)
    clear hq
    obtain ⟨X6c0, X6c1, X6c2, X6c3⟩ := X6.out.cellsK (n := f.length) (k := 0) rfl rfl
    obtain ⟨X7c0, X7c1, X7c2, X7c3⟩ := X7.out.cellsK (n := f.length) (k := CS.length) rfl rfl
    go_wp2_with fail
    refine (commit_okK (n := f.length) (k := CS.length) (u := 1) X7.out.2 OK.out HBG.out (by omega) (by omega) (m := m) (x := lessF m f) (z := lessF f m) HM rfl rfl rfl rfl rfl rfl rfl rfl).mono ?_
    rintro e w8 ⟨a8, c8, a9, c9, a10, c10, rfl, h8, h9, h10, hq⟩
    clear X6c0 X6c1 X6c2 X6c3
    clear X7c0 X7c1 X7c2 X7c3
    replace HL := mkHid (HL.out.below hq)
    replace HC := mkHid (HC.out.below hq)
    replace X6 := mkHid (X6.out.below hq)
    replace RD := mkHid (RD.out.below hq)
    replace X7 := mkHid (X7.out.below hq)
    replace HB := mkHid (HB.out.then hq)
    clear hq
    have R8 : Hid (BR w8 a8 c8 m none 0 []) := ⟨h8, nilRow _⟩
    clear h8 h9 h10
    have hbx : Below w8.heap.size w8 (w8.alloc (.cells #[.slice a8 m.length c8, .int .i64 1, .bool false, .slice none 0 0] 25)) := (Below.refl _ _).new _
    have X9 : Hid (BX (w8.alloc (.cells #[.slice a8 m.length c8, .int .i64 1, .bool false, .slice none 0 0] 25)) w8.heap.size a8 c8 m 1 false none 0 []) := BX.madeK R8.out rfl rfl
    replace HL := mkHid (HL.out.below hbx)
    replace HC := mkHid (HC.out.below hbx)
    replace X6 := mkHid (X6.out.below hbx)
    replace RD := mkHid (RD.out.below hbx)
    replace X7 := mkHid (X7.out.below hbx)
    replace HB := mkHid (HB.out.then hbx)
    clear hbx
    clear R8
    obtain ⟨X7c0, X7c1, X7c2, X7c3⟩ := X7.out.cellsK (n := f.length) (k := CS.length) rfl rfl
    go_wp2_with fail
    refine (back_onK (n := f.length) (k := CS.length) X7.out.2 OK.out rfl rfl).mono ?_
    rintro e w9 ⟨a11, c11, b11, d11, rfl, hbr, hq⟩
    clear X7c0 X7c1 X7c2 X7c3
    replace HL := mkHid (HL.out.below hq)
    replace HC := mkHid (HC.out.below hq)
    replace X6 := mkHid (X6.out.below hq)
    replace RD := mkHid (RD.out.below hq)
    replace X7 := mkHid (X7.out.below hq)
    replace X9 := mkHid (X9.out.below hq)
    replace HB := mkHid (HB.out.then hq)
    clear hq
    have R11 := mkHid hbr
    clear hbr
    obtain ⟨x10, hx10⟩ : ∃ X, (w9.alloc (.cells #[.slice a11 f.length c11, .int .i64 0, .bool false, .slice b11 0 d11] 25)) = X := ⟨_, rfl⟩
    have hbx : Below w9.heap.size w9 x10 := by rw [← hx10]; exact (Below.refl _ _).new _
    have X13 : Hid (BX x10 w9.heap.size a11 c11 f 0 false b11 d11 []) := by rw [Hid, ← hx10]; exact BX.madeK R11.out rfl rfl
    replace HL := mkHid (HL.out.below hbx)
    replace HC := mkHid (HC.out.below hbx)
    replace X6 := mkHid (X6.out.below hbx)
    replace RD := mkHid (RD.out.below hbx)
    replace X7 := mkHid (X7.out.below hbx)
    replace X9 := mkHid (X9.out.below hbx)
    replace HB := mkHid (HB.out.then hbx)
    clear hbx
    clear R11
    obtain ⟨X9c0, X9c1, X9c2, X9c3⟩ := X9.out.cellsK (n := m.length) (k := 0) rfl rfl
    obtain ⟨X13c0, X13c1, X13c2, X13c3⟩ := X13.out.cellsK (n := f.length) (k := 0) rfl rfl
    go_wp2_with fail
    first | rw [hx10] | skip
    clear hx10
    refine (rightK13 (n := m.length) (k := 0) X9.out.2 (right_end HFM.out (by omega) (by omega)) rfl rfl).mono ?_
    rintro e w11 ⟨rfl, hq⟩
    clear X9c0 X9c1 X9c2 X9c3
    clear X13c0 X13c1 X13c2 X13c3
    replace HL := mkHid (HL.out.below hq)
    replace HC := mkHid (HC.out.below hq)
    replace X6 := mkHid (X6.out.below hq)
    replace RD := mkHid (RD.out.below hq)
    replace X7 := mkHid (X7.out.below hq)
    replace X9 := mkHid (X9.out.below hq)
    replace X13 := mkHid (X13.out.below hq)
    replace HB := mkHid (HB.out.then hq)
    clear hq
    obtain ⟨X9c0, X9c1, X9c2, X9c3⟩ := X9.out.cellsK (n := m.length) (k := 0) rfl rfl
    obtain ⟨X13c0, X13c1, X13c2, X13c3⟩ := X13.out.cellsK (n := f.length) (k := 0) rfl rfl
    go_wp2_with fail
    refine (rightK13 (n := f.length) (k := 0) X13.out.2 (right_end HF.out (by omega) (by omega)) rfl rfl).mono ?_
    rintro e w12 ⟨rfl, hq⟩
    clear X9c0 X9c1 X9c2 X9c3
    clear X13c0 X13c1 X13c2 X13c3
    replace HL := mkHid (HL.out.below hq)
    replace HC := mkHid (HC.out.below hq)
    replace X6 := mkHid (X6.out.below hq)
    replace RD := mkHid (RD.out.below hq)
    replace X7 := mkHid (X7.out.below hq)
    replace X9 := mkHid (X9.out.below hq)
    replace X13 := mkHid (X13.out.below hq)
    replace HB := mkHid (HB.out.then hq)
    clear hq
    obtain ⟨X13c0, X13c1, X13c2, X13c3⟩ := X13.out.cellsK (n := f.length) (k := 0) rfl rfl
    obtain ⟨X6c0, X6c1, X6c2, X6c3⟩ := X6.out.cellsK (n := f.length) (k := 0) rfl rfl
    go_wp2_with fail
    refine (same13_is _ a11 a3 c11 c3 f 0 false b11 none d11 0 [] X13.out.2 X6.out.2).mono ?_
    rintro e w13 ⟨rfl, hq⟩
    clear X13c0 X13c1 X13c2 X13c3
    clear X6c0 X6c1 X6c2 X6c3
    replace HL := mkHid (HL.out.below hq)
    replace HC := mkHid (HC.out.below hq)
    replace X6 := mkHid (X6.out.below hq)
    replace RD := mkHid (RD.out.below hq)
    replace X7 := mkHid (X7.out.below hq)
    replace X9 := mkHid (X9.out.below hq)
    replace X13 := mkHid (X13.out.below hq)
    replace HB := mkHid (HB.out.then hq)
    clear hq
    go_wp2_with fail
    go_ret
    exact ⟨rfl, HB.out⟩
end Go.Proofs.Ytnpffificfghpaa
namespace Go.Proofs.Ytnpffificfghpaa
open Go.RowKit Go.ChangeShapes Go.WideShapes Go.ChangeAt
open Go.ChangeMaps (open_string)

set_option maxRecDepth 100000 in
set_option maxHeartbeats 1000000 in
theorem TransStays_lifted (os : Os) (started : os.Started) (H : Type) (enc : TypeId × Value → H) :
    ReturnsInHanded {} Try.checked os 4 .any (Rows.transStaysSpec.pre6 enc Try.prog Try.f4 Rows.transStaysRow.domain false) (Rows.transStaysSpec.post enc Try.prog Try.f4 false true false false) := by
  refine returnsInHanded_of_change (C := Try.checked) Try.own started (by kernel_rfl) Try.func4
    (ChangeSpec.witness6 (enc := enc) (C := Try.checked) false ⟨#[], #[.slice none 0 0, .slice none 0 0], []⟩ 8 (by kernel_rfl) (by kernel_rfl) (by kernel_rfl) (by kernel_rfl)) ?_
  intro W base args ds gs before hval0 hW hcnd _
  have hval : ∀ (j : Nat) t v, Try.f4.params[j]? = some t → args[j]? = some v → Value.okWide Try.prog W .any base t v := hval0
  have hW' := hW
  obtain ⟨p, q, hA0, hV, rfl, hfz, hnd⟩ := hW
  have hA : DataW.TrodAll enc Try.prog W 0 (fun _ => true) true Try.f4.params.toList args.toList ds p := hA0
  rw [Try.params4] at hA hval
  obtain ⟨v0, vs0, d0, ds0, p0, q0, hargs, rfl, rfl, h0, r0⟩ := trodAll_cons hA
  obtain ⟨v1, vs1, d1, ds1, p1, q1, rfl, rfl, rfl, h1, r1⟩ := trodAll_cons r0
  obtain ⟨rfl, rfl, rfl⟩ := trodAll_nil r1
  obtain rfl : args = #[v0, v1] := by cases args; simp_all
  obtain ⟨rfl, rfl⟩ := trodVars_none hV
  have k0 := h0
  have lt0 : ∀ x ∈ p0, x.block < W.heap.size := by obtain ⟨m, hm⟩ := k0; exact DataW.trod_lt m _ _ _ hm
  obtain ⟨a0, len0, cap0, rfl⟩ := okWide_slice Try.underlying22 (hval 0 22 v0 rfl rfl)
  obtain ⟨xs0, rfl, hr0⟩ : ∃ xs : List (List Cel), xs.length = len0 ∧ Row W a0 cap0 xs := by
    obtain ⟨fuel, hf⟩ := h0
    exact open_cellss hf
  have k1 := h1
  have lt1 : ∀ x ∈ p1, x.block < W.heap.size := by obtain ⟨m, hm⟩ := k1; exact DataW.trod_lt m _ _ _ hm
  obtain ⟨a1, len1, cap1, rfl⟩ := okWide_slice Try.underlying23 (hval 1 23 v1 rfl rfl)
  obtain ⟨xs1, rfl, hr1⟩ : ∃ xs : List Lt, xs.length = len1 ∧ Row W a1 cap1 xs := by
    obtain ⟨fuel, hf⟩ := h1
    exact open_chgs13 hf
  clear hA0 hval0
  refine (lawTStays_any head13_any a0 cap0 xs0 a1 cap1 xs1 W hr0 hr1).mono fun e W' ⟨he, bel⟩ => ?_
  subst he
  exact ⟨_, rfl, _, _, _, [], _, [], hW', trodAll_mk1 (shut_bool Try.underlying4 _), (trodAll_cons_mk (Below.trod Try.laidOut (by kernel_rfl) (of_decide_eq_true (by kernel_rfl)) k0 bel lt0) (trodAll_cons_mk (Below.trod Try.laidOut (by kernel_rfl) (of_decide_eq_true (by kernel_rfl)) k1 bel lt1) trodAll_mk0)), rfl, bel.frame _, fun h => by cases h⟩

theorem TransStays_over : Rows.transStaysRow.holds Try.pinned (OpenSpec.ofChange Rows.transStaysSpec) :=
  OpenClaim.holds_of_wide 4 Try.f4 rfl rfl rfl rfl rfl rfl rfl ⟨rfl, rfl, rfl, rfl, rfl⟩ rfl rfl rfl rfl rfl (by kernel_rfl) Try.func4 (by kernel_rfl)
    (of_decide_eq_true (by kernel_rfl)) (by unfold Func.isWrapper; first | (rw [if_pos (by decide +kernel)]; kernel_rfl) | (rw [if_neg (by decide +kernel)]; exact ⟨rfl, rfl⟩))
    (fun os started H enc _ => TransStays_lifted os started H enc)

theorem TransStays_holds : Rows.TransStaysSaid := TransStays_over
end Go.Proofs.Ytnpffificfghpaa
