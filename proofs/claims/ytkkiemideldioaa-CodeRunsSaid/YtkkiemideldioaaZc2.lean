/-
  Of layer 10 of sorrel: whatever arguments come in, the law CodeRuns returns true, and what was handed in reads as it did: behind each GetFun stand as many Uni's as its structure has arguments, behind each PutFun as many Set's, and nowhere else. No condition.
-/
import Derived.Test.YtkkiemideldioaaZr8
set_option linter.unusedVariables false
namespace Go.Proofs.Ytkkiemideldioaa
open Go.RowKit

theorem runGo_at {L : List Ins} {k : Nat} (hk : k < L.length) {left : Int} {body : Bool} {q : Int × Bool} (h : runGo left body (L.drop k) = some q) :
    (((isU L[k] || isS L[k]) != decide (left > 0)) || (isU L[k] && body) || (isS L[k] && !body)) = false ∧ (left > 0 → runGo (left - 1) body (L.drop (k + 1)) = some q) ∧ (¬ left > 0 → L[k].op = 8 → runGo L[k].n true (L.drop (k + 1)) = some q) ∧ (¬ left > 0 → L[k].op = 4 → body = false ∧ runGo L[k].n body (L.drop (k + 1)) = some q) ∧ (¬ left > 0 → ¬ L[k].op = 8 → ¬ L[k].op = 4 → runGo left body (L.drop (k + 1)) = some q) := by
  rw [List.drop_eq_getElem_cons hk, runGo_cons] at h
  split at h
  · cases h
  · rename_i h0
    refine ⟨by simpa using h0, fun hl => by rw [if_pos hl] at h; exact h, fun hl h8 => by rw [if_neg hl, if_pos h8] at h; exact h, fun hl h4 => ?_, fun hl h8 h4 => by rw [if_neg hl, if_neg h8, if_neg h4] at h; exact h⟩
    rw [if_neg hl, if_neg (by omega), if_pos h4] at h
    cases body with
    | true => simp at h
    | false => exact ⟨rfl, by simpa using h⟩
theorem op_u {i : Ins} (h : isU i = true) : i.op = 5 ∨ i.op = 6 ∨ i.op = 7 := by unfold isU at h; simp at h; omega
theorem op_s {i : Ins} (h : isS i = true) : i.op = 9 ∨ i.op = 10 ∨ i.op = 11 := by unfold isS at h; simp at h; omega
theorem op_uno {i : Ins} (h : isU i = false) : ¬ i.op = 5 ∧ ¬ i.op = 6 ∧ ¬ i.op = 7 := by unfold isU at h; simp at h; omega
theorem op_sno {i : Ins} (h : isS i = false) : ¬ i.op = 9 ∧ ¬ i.op = 10 ∧ ¬ i.op = 11 := by unfold isS at h; simp at h; omega
set_option maxRecDepth 100000 in
set_option maxHeartbeats 6400000 in
theorem lawRuns_any (W : World) (x : Cl) (a : Option Addr) (b : Nat) (e : Option Addr) (c : Nat) (hu : Row W a b x.h) (hv : Row W e c x.b) :
    Calls Try.prog 10 #[.agg #[.slice a x.h.length b, .slice e x.b.length c]] W fun r W' => r = .returned (.bool true) ∧ Below W.heap.size W W' := by
  have hb0 := (Below.refl W.heap.size W).new (.cells #[.slice a x.h.length b, .slice e x.b.length c] 25)
  have hm3 := hv.max
  have hm4 := hv.le
  have hm1 := hu.max
  have hm2 := hu.le
  have p0 : (W.alloc (.cells #[.slice a x.h.length b, .slice e x.b.length c] 25)).cell? ⟨W.heap.size, 0, none⟩ = some (.slice a x.h.length b) := World.cell?_alloc_at _ _ W.heap.size 0 rfl
  have p1 : (W.alloc (.cells #[.slice a x.h.length b, .slice e x.b.length c] 25)).cell? ⟨W.heap.size, 1, none⟩ = some (.slice e x.b.length c) := World.cell?_alloc_at _ _ W.heap.size 1 rfl
  have HX := mkHid (hu.below hb0)
  have HX1 := mkHid (hv.below hb0)
  have HB0 := mkHid hb0
  obtain ⟨W0, hW⟩ : ∃ W0, W.alloc (.cells #[.slice a x.h.length b, .slice e x.b.length c] 25) = W0 := ⟨_, rfl⟩
  rw [hW] at p0 p1 HX HX1 HB0
  have HSZ : Hid (W.heap.size < W0.heap.size) := by rw [Hid, ← hW]; simp
  clear hu hv hb0
  cases hG : greatB [x]
  · cases hM : mayB x
    · go_enter Try.func10, Try.ntmps10
      go_wp2_with fail
      first | rw [hW] | skip
      clear hW
      refine (head10_any _).mono ?_
      rintro r w1 ⟨rfl, hb1⟩
      have HB1 := mkHid (HB0.out.then hb1)
      have q0 := keep p0 hb1
      have q1 := keep p1 hb1
      have HX2 := mkHid (HX.out.below hb1)
      have HX3 := mkHid (HX1.out.below hb1)
      have HZ2 : Hid (W.heap.size < w1.heap.size) := by have h1 := HSZ.out; have h2 := hb1.size; rw [Hid]; omega
      clear hb1 HB0 p0 p1 HX HX1 HSZ
      go_wp2_with fail
      have HT1 := mkHid (great7K _ _ _ [x] 1 _ (row_cl x HX2.out HX3.out) rfl hG)
      have hn1 := (Below.refl w1.heap.size w1).new (.cells #[.slice a x.h.length b, .slice e x.b.length c] 25)
      refine HT1.out.mono ?_
      clear HT1
      rintro r w2 ⟨rfl, hb2⟩
      have hb2' := hn1.then hb2
      have HB2 := mkHid (HB1.out.then hb2')
      have r0 := keep q0 hb2'
      have r1 := keep q1 hb2'
      have HX4 := mkHid (HX2.out.below hb2')
      have HX5 := mkHid (HX3.out.below hb2')
      have HZ3 : Hid (W.heap.size < w2.heap.size) := by have h1 := HZ2.out; have h2 := hb2'.size; rw [Hid]; omega
      clear hb2 hn1 hb2' HB1 q0 q1 HX2 HX3 HZ2
      go_wp2_with fail
      have HT1 := mkHid (mayK a b e c _ x _ _ _ HX4.out HX5.out rfl rfl hM)
      refine HT1.out.mono ?_
      clear HT1
      rintro r w3 ⟨rfl, hb3⟩
      have HB3 := mkHid (HB2.out.then hb3)
      have s0 := keep r0 hb3
      have s1 := keep r1 hb3
      have HX6 := mkHid (HX4.out.below hb3)
      have HX7 := mkHid (HX5.out.below hb3)
      have HZ4 : Hid (W.heap.size < w3.heap.size) := by have h1 := HZ3.out; have h2 := hb3.size; rw [Hid]; omega
      clear hb3 HB2 r0 r1 HX4 HX5 HZ3
      go_wp2_with fail
      go_ret
      exact ⟨rfl, HB3.out⟩
    · obtain ⟨h, bl, hT⟩ := may_trees hM
      go_enter Try.func10, Try.ntmps10
      go_wp2_with fail
      first | rw [hW] | skip
      clear hW
      refine (head10_any _).mono ?_
      rintro r w1 ⟨rfl, hb1⟩
      have HB1 := mkHid (HB0.out.then hb1)
      have q0 := keep p0 hb1
      have q1 := keep p1 hb1
      have HX2 := mkHid (HX.out.below hb1)
      have HX3 := mkHid (HX1.out.below hb1)
      have HZ2 : Hid (W.heap.size < w1.heap.size) := by have h1 := HSZ.out; have h2 := hb1.size; rw [Hid]; omega
      clear hb1 HB0 p0 p1 HX HX1 HSZ
      go_wp2_with fail
      have HT1 := mkHid (great7K _ _ _ [x] 1 _ (row_cl x HX2.out HX3.out) rfl hG)
      have hn1 := (Below.refl w1.heap.size w1).new (.cells #[.slice a x.h.length b, .slice e x.b.length c] 25)
      refine HT1.out.mono ?_
      clear HT1
      rintro r w2 ⟨rfl, hb2⟩
      have hb2' := hn1.then hb2
      have HB2 := mkHid (HB1.out.then hb2')
      have r0 := keep q0 hb2'
      have r1 := keep q1 hb2'
      have HX4 := mkHid (HX2.out.below hb2')
      have HX5 := mkHid (HX3.out.below hb2')
      have HZ3 : Hid (W.heap.size < w2.heap.size) := by have h1 := HZ2.out; have h2 := hb2'.size; rw [Hid]; omega
      clear hb2 hn1 hb2' HB1 q0 q1 HX2 HX3 HZ2
      go_wp2_with fail
      have HT1 := mkHid (mayK a b e c _ x _ _ _ HX4.out HX5.out rfl rfl hM)
      refine HT1.out.mono ?_
      clear HT1
      rintro r w3 ⟨rfl, hb3⟩
      have HB3 := mkHid (HB2.out.then hb3)
      have s0 := keep r0 hb3
      have s1 := keep r1 hb3
      have HX6 := mkHid (HX4.out.below hb3)
      have HX7 := mkHid (HX5.out.below hb3)
      have HZ4 : Hid (W.heap.size < w3.heap.size) := by have h1 := HZ3.out; have h2 := hb3.size; rw [Hid]; omega
      clear hb3 HB2 r0 r1 HX4 HX5 HZ3
      go_wp2_with fail
      have HT1 := mkHid (compQ a b e c _ x h bl hT HX6.out HX7.out)
      refine HT1.out.mono ?_
      clear HT1
      rintro r w4 ⟨a2, c2, L, rfl, hrl, hL, hb4⟩
      have HL := mkHid hrl
      have HLE := mkHid hL
      have hlm := comp_shorts hT
      rw [← hL] at hlm
      obtain ⟨hl1, hl2⟩ := hlm
      have HB4 := mkHid (HB3.out.then hb4)
      have t0 := keep s0 hb4
      have t1 := keep s1 hb4
      have HX8 := mkHid (HX6.out.below hb4)
      have HX9 := mkHid (HX7.out.below hb4)
      have HZ5 : Hid (W.heap.size < w4.heap.size) := by have h1 := HZ4.out; have h2 := hb4.size; rw [Hid]; omega
      clear hb4 HB3 s0 s1 HX6 HX7 HZ4 hrl hL
      obtain ⟨b', hru⟩ := compS_runs h bl hT.kinds (ok_aris h hT.ok) hT.lita
      rw [← HLE.out] at hru
      have HRU := mkHid hru
      clear hru
      go_wp2_with fail
      go_loop [6, 7, 8, 9, 10, 11] (fun lv bv i _ _ _ => ∃ (k : Nat) (left : Int) (body : Bool), k ≤ L.length ∧ i = .int .i64 k ∧ lv = .int .i64 left ∧ bv = .bool body ∧ -9223372036854775808 ≤ left ∧ left ≤ 9223372036854775807 ∧ Hid (runGo left body (L.drop k) = some (0, b'))) (fun _ _ i _ _ _ => L.length - (intOf i).toNat)
      case atStart => exact ⟨0, 0, false, Nat.zero_le _, rfl, rfl, rfl, by omega, by omega, HRU⟩
      case round =>
        clear HRU
        obtain ⟨k, left, body, hk, rfl, rfl, rfl, hlo, hhi, HR⟩ := hrel
        by_cases hlt : k < L.length
        · obtain ⟨bb, off, rfl, hb, hat⟩ := HL.out.cases.resolve_left (fun e => by simp [e] at hlt)
          obtain ⟨c0, c1, c2', c3, c4, c5, hf⟩ := ins_at hat (Below.refl _ _) hlt
          have n1 := hf.n1
          have n2 := hf.n2
          obtain ⟨g1, g2, g3, g4, g5⟩ := runGo_at hlt HR.out
          clear c1 c2' c3 c5 hf hat HR
          by_cases hleft : left > 0
          · have HN := mkHid (g2 hleft)
            clear g2 g3 g4 g5
            cases hU : isU L[k]
            · cases hS : isS L[k]
              · simp [hU, hS, hleft] at g1
              · simp [hU, hS, hleft] at g1
                subst g1
                rcases op_s hS with hop | hop | hop <;>
                · rw [hop] at c0
                  clear hU hS hop
                  go_wp2
                  go_round
                  case rel => exact ⟨k + 1, left - 1, true, by omega, by go_num, rfl, rfl, by omega, by omega, HN⟩
                  case measure => simp [intOf]; omega
            · cases hS : isS L[k]
              · simp [hU, hS, hleft] at g1
                subst g1
                rcases op_u hU with hop | hop | hop <;>
                · rw [hop] at c0
                  clear hU hS hop
                  go_wp2
                  go_round
                  case rel => exact ⟨k + 1, left - 1, false, by omega, by go_num, rfl, rfl, by omega, by omega, HN⟩
                  case measure => simp [intOf]; omega
              · exfalso
                have h1 := op_u hU
                have h2 := op_s hS
                omega
          · have hU : isU L[k] = false := by
              cases hU : isU L[k]
              · rfl
              · simp [hU, hleft] at g1
            have hS : isS L[k] = false := by
              cases hS : isS L[k]
              · rfl
              · simp [hS, hleft] at g1
            obtain ⟨u1, u2, u3⟩ := op_uno hU
            obtain ⟨u4, u5, u6⟩ := op_sno hS
            clear g1 g2 hU hS
            by_cases h8 : L[k].op = 8
            · have HN := mkHid (g3 hleft h8)
              rw [h8] at c0
              clear g3 g4 g5 u1 u2 u3 u4 u5 u6 h8
              go_wp2
              go_round
              case rel => exact ⟨k + 1, _, true, by omega, by go_num, rfl, rfl, n1, n2, HN⟩
              case measure => simp [intOf]; omega
            · by_cases h4 : L[k].op = 4
              · obtain ⟨rfl, hn⟩ := g4 hleft h4
                have HN := mkHid hn
                rw [h4] at c0
                clear g3 g4 g5 u1 u2 u3 u4 u5 u6 h8 h4 hn
                go_wp2
                go_round
                case rel => exact ⟨k + 1, _, false, by omega, by go_num, rfl, rfl, n1, n2, HN⟩
                case measure => simp [intOf]; omega
              · have HN := mkHid (g5 hleft h8 h4)
                have d4 : (L[k].op == 4) = false := by simp [h4]
                have d8 : (L[k].op == 8) = false := by simp [h8]
                have d5 : (L[k].op == 5) = false := by simp [u1]
                have d6 : (L[k].op == 6) = false := by simp [u2]
                have d7 : (L[k].op == 7) = false := by simp [u3]
                have d9 : (L[k].op == 9) = false := by simp [u4]
                have d10 : (L[k].op == 10) = false := by simp [u5]
                have d11 : (L[k].op == 11) = false := by simp [u6]
                clear g3 g4 g5
                go_wp2
                go_round
                case rel => exact ⟨k + 1, left, body, by omega, by go_num, rfl, rfl, hlo, hhi, HN⟩
                case measure => simp [intOf]; omega
        · have h0 : left = 0 := by
            have e := HR.out
            rw [List.drop_eq_nil_of_le (by omega)] at e
            unfold runGo at e
            simpa using congrArg (fun q => q.map Prod.fst) e
          subst h0
          clear HR
          go_wp2
          go_ret
          exact ⟨rfl, HB4.out⟩
  · go_enter Try.func10, Try.ntmps10
    go_wp2_with fail
    first | rw [hW] | skip
    clear hW
    refine (head10_any _).mono ?_
    rintro r w1 ⟨rfl, hb1⟩
    have HB1 := mkHid (HB0.out.then hb1)
    have q0 := keep p0 hb1
    have q1 := keep p1 hb1
    have HX2 := mkHid (HX.out.below hb1)
    have HX3 := mkHid (HX1.out.below hb1)
    have HZ2 : Hid (W.heap.size < w1.heap.size) := by have h1 := HSZ.out; have h2 := hb1.size; rw [Hid]; omega
    clear hb1 HB0 p0 p1 HX HX1 HSZ
    go_wp2_with fail
    have HT1 := mkHid (great7K _ _ _ [x] 1 _ (row_cl x HX2.out HX3.out) rfl hG)
    have hn1 := (Below.refl w1.heap.size w1).new (.cells #[.slice a x.h.length b, .slice e x.b.length c] 25)
    refine HT1.out.mono ?_
    clear HT1
    rintro r w2 ⟨rfl, hb2⟩
    have hb2' := hn1.then hb2
    have HB2 := mkHid (HB1.out.then hb2')
    have r0 := keep q0 hb2'
    have r1 := keep q1 hb2'
    have HX4 := mkHid (HX2.out.below hb2')
    have HX5 := mkHid (HX3.out.below hb2')
    have HZ3 : Hid (W.heap.size < w2.heap.size) := by have h1 := HZ2.out; have h2 := hb2'.size; rw [Hid]; omega
    clear hb2 hn1 hb2' HB1 q0 q1 HX2 HX3 HZ2
    go_wp2_with fail
    go_ret
    exact ⟨rfl, HB2.out⟩
end Go.Proofs.Ytkkiemideldioaa
namespace Go.Proofs.Ytkkiemideldioaa
open Go.RowKit Go.ChangeShapes Go.WideShapes Go.ChangeAt
open Go.ChangeMaps (open_string)

set_option maxRecDepth 100000 in
set_option maxHeartbeats 1000000 in
theorem CodeRuns_lifted (os : Os) (started : os.Started) (H : Type) (enc : TypeId × Value → H) :
    ReturnsInHanded {} Try.checked os 10 .any (Rows.codeRunsSpec.pre6 enc Try.prog Try.f10 Rows.codeRunsRow.domain false) (Rows.codeRunsSpec.post enc Try.prog Try.f10 false true false false) := by
  refine returnsInHanded_of_change (C := Try.checked) Try.own started (by kernel_rfl) Try.func10
    (ChangeSpec.witness6 (enc := enc) (C := Try.checked) false ⟨#[], #[.agg #[.slice none 0 0, .slice none 0 0]], []⟩ 8 (by kernel_rfl) (by kernel_rfl) (by kernel_rfl) (by kernel_rfl)) ?_
  intro W base args ds gs before hval0 hW hcnd _
  have hval : ∀ (j : Nat) t v, Try.f10.params[j]? = some t → args[j]? = some v → Value.okWide Try.prog W .any base t v := hval0
  have hW' := hW
  obtain ⟨p, q, hA0, hV, rfl, hfz, hnd⟩ := hW
  have hA : DataW.TrodAll enc Try.prog W 0 (fun _ => true) true Try.f10.params.toList args.toList ds p := hA0
  rw [Try.params10] at hA hval
  obtain ⟨v0, vs0, d0, ds0, p0, q0, hargs, rfl, rfl, h0, r0⟩ := trodAll_cons hA
  obtain ⟨rfl, rfl, rfl⟩ := trodAll_nil r0
  obtain rfl : args = #[v0] := by cases args; simp_all
  obtain ⟨rfl, rfl⟩ := trodVars_none hV
  have k0 := h0
  have lt0 : ∀ x ∈ p0, x.block < W.heap.size := by obtain ⟨m, hm⟩ := k0; exact DataW.trod_lt m _ _ _ hm
  obtain ⟨x0, a0, b0, e0, c0, rfl, hu0, hv0⟩ : ∃ (x : Cl) (a : Option Addr) (b : Nat) (e : Option Addr) (c : Nat), v0 = .agg #[.slice a x.h.length b, .slice e x.b.length c] ∧ Row W a b x.h ∧ Row W e c x.b := by
    obtain ⟨⟨l⟩, rfl⟩ := agg_clause (hval 0 25 v0 rfl rfl)
    obtain ⟨fuel, hf⟩ := h0
    obtain ⟨x, a, b, e, c, hc, g0, g1⟩ := open_clause7 hf
    have hc' : l = [.slice a x.h.length b, .slice e x.b.length c] := hc
    exact ⟨x, a, b, e, c, by rw [hc'], g0, g1⟩
  clear hA0 hval0
  refine (lawRuns_any W x0 a0 b0 e0 c0 hu0 hv0).mono fun e W' ⟨he, bel⟩ => ?_
  subst he
  exact ⟨_, rfl, _, _, _, [], _, [], hW', trodAll_mk1 (shut_bool Try.underlying4 _), (trodAll_cons_mk (Below.trod Try.laidOut (by kernel_rfl) (of_decide_eq_true (by kernel_rfl)) k0 bel lt0) trodAll_mk0), rfl, bel.frame _, fun h => by cases h⟩

theorem CodeRuns_over : Rows.codeRunsRow.holds Try.pinned (OpenSpec.ofChange Rows.codeRunsSpec) :=
  OpenClaim.holds_of_wide 10 Try.f10 rfl rfl rfl rfl rfl rfl rfl ⟨rfl, rfl, rfl, rfl, rfl⟩ rfl rfl rfl rfl rfl (by kernel_rfl) Try.func10 (by kernel_rfl)
    (of_decide_eq_true (by kernel_rfl)) (by unfold Func.isWrapper; first | (rw [if_pos (by decide +kernel)]; kernel_rfl) | (rw [if_neg (by decide +kernel)]; exact ⟨rfl, rfl⟩))
    (fun os started H enc _ => CodeRuns_lifted os started H enc)

theorem CodeRuns_holds : Rows.CodeRunsSaid := CodeRuns_over
end Go.Proofs.Ytkkiemideldioaa
