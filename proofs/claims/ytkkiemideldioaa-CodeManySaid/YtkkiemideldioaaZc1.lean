/-
  Of layer 10 of sorrel: whatever arguments come in, the law CodeMany returns true, and what was handed in reads as it did: a clause has as many instructions as its arguments, and theirs, in all depths, one more for each Fun that is no argument of the head, nor the head, one for each literal, and one at the end. No condition.
-/
import Derived.Test.YtkkiemideldioaaZr8
set_option linter.unusedVariables false
namespace Go.Proofs.Ytkkiemideldioaa
open Go.RowKit

def cntP (P : List (List Cel)) : Nat := (P.filter isFun).length
theorem cntP_next {P : List (List Cel)} {k : Nat} (hk : k < P.length) : cntP (P.take (k + 1)) = cntP (P.take k) + (if isFun P[k] = true then 1 else 0) := by
  unfold cntP
  rw [List.take_succ_eq_append_getElem hk, List.filter_append, List.length_append]
  by_cases h : isFun P[k] = true <;> simp [h]
theorem cntP_le (P : List (List Cel)) : cntP P ≤ P.length := List.length_filter_le _ _
theorem cntP_args : ∀ ts : List Tm, cntP (ts.map Tm.flat) = funsTs ts
  | [] => rfl
  | t :: ts => by
    have ih := cntP_args ts
    unfold cntP funsTs at *
    rw [List.map_cons, List.filter_cons, List.filter_cons, flat_cons]
    by_cases h : t.hd.k = 3
    · simp [isFun, h]; exact ih
    · simp [isFun, h]; exact ih
def sumB10 (l : List Lt) : Nat := (l.map fun y => y.t.length + funsL y.t).sum
theorem sumB_next {l : List Lt} {k : Nat} (hk : k < l.length) : sumB10 (l.take (k + 1)) = sumB10 (l.take k) + (l[k].t.length + funsL l[k].t) := by
  unfold sumB10
  rw [List.take_succ_eq_append_getElem hk, List.map_append, List.sum_append]
  simp
theorem sumB_le : ∀ (l : List Lt), (∀ y ∈ l, y.t.length ≤ 200) → sumB10 l ≤ 400 * l.length
  | [], _ => by simp [sumB10]
  | y :: l, h => by
    have h1 := sumB_le l fun z hz => h z (List.mem_cons_of_mem _ hz)
    have h2 := h y List.mem_cons_self
    have h3 := funsL_le y.t
    unfold sumB10 at *
    simp only [List.map_cons, List.sum_cons, List.length_cons]
    omega
theorem sumB_bl (bl : List (Bool × Tm)) : sumB10 (bl.map litOf) = (bl.map fun p => p.2.flat.length + funsL p.2.flat).sum := by
  unfold sumB10
  rw [List.map_map]
  rfl
theorem callsL_next {L : List Ins} {k : Nat} (hk : k < L.length) : callsL (L.take (k + 1)) = callsL (L.take k) ++ (if L[k].op = 12 then [L[k].neg] else []) := by
  rw [List.take_succ_eq_append_getElem hk, callsL_app]
  congr 1
  unfold callsL
  by_cases h : L[k].op = 12
  · simp [h]
  · simp [h]
theorem callsL_at {L : List Ins} {ns : List Bool} (h : callsL L = ns) {k c : Nat} (hk : k < L.length) (hc : (callsL (L.take k)).length = c) (h12 : L[k].op = 12) : ∃ hc' : c < ns.length, ns[c] = L[k].neg := by
  have e : callsL L = callsL (L.take (k + 1)) ++ callsL (L.drop (k + 1)) := by rw [← callsL_app, List.take_append_drop]
  rw [callsL_next hk, if_pos h12, List.append_assoc] at e
  rw [← h, e]
  subst hc
  refine ⟨by simp, ?_⟩
  rw [List.getElem_append_right (Nat.le_refl _)]
  simp
theorem run_eql_end (s : ByteArray) (n : Int) (w : World) : (binOp .eql 48 (.agg #[.int .i64 13, .int .i64 0, .int .i64 0, .string s, .int .i64 n, .bool false]) (.agg #[.int .i64 13, .int .i64 0, .int .i64 0, .string s, .int .i64 n, .bool false])).run Try.prog w = .ok (.bool true) w := by
  go_simp
theorem funs_next {xs : List Cel} {k : Nat} (hk : k < xs.length) : funsL (xs.take (k + 1)) = funsL (xs.take k) + (if xs[k].k = 3 then 1 else 0) := by
  rw [List.take_succ_eq_append_getElem hk, funs_app, funs_cons]
  rfl
set_option maxHeartbeats 1600000 in
theorem funs10_any (a : Option Addr) (cap : Nat) (w : World) (xs : List Cel) (hr : Row w a cap xs) :
    Calls Try.prog 28 #[.slice a xs.length cap] w fun e w' => e = .returned (.int .i64 (funsL xs)) ∧ w = w' := by
  have hm := hr.max
  have hm2 := hr.le
  go_enter Try.func28, Try.ntmps28
  go_wp2
  go_loop [3, 4] (fun nv i => ∃ k m : Nat, k ≤ xs.length ∧ i = .int .i64 k ∧ nv = .int .i64 m ∧ m ≤ k ∧ Hid (funsL (xs.take k) = m)) (fun _ i => xs.length - (intOf i).toNat)
  case atStart => exact ⟨0, 0, Nat.zero_le _, rfl, rfl, Nat.le_refl _, rfl⟩
  case round =>
    obtain ⟨k, m, hk, rfl, rfl, hmk, HS⟩ := hrel
    by_cases hlt : k < xs.length
    · obtain ⟨b, off, rfl, hb, hat⟩ := hr.cases.resolve_left (fun e => by simp [e] at hlt)
      have hc := cel_at hat (Below.refl _ _) hlt
      have c0 := hc.c0
      have HN := funs_next hlt
      rw [HS.out] at HN
      clear hc hat HS
      by_cases h3 : xs[k].k = 3
      · rw [if_pos h3] at HN
        have HN := mkHid HN
        have d3 : (xs[k].k == 3) = true := by simp [h3]
        clear h3
        go_wp2
        go_round
        case rel => exact ⟨k + 1, m + 1, by omega, by go_num, by go_num, by omega, HN⟩
        case measure => simp [intOf]; omega
      · rw [if_neg h3] at HN
        have HN := mkHid HN
        have d3 : (xs[k].k == 3) = false := by simp [h3]
        clear h3
        go_wp2
        go_round
        case rel => exact ⟨k + 1, m, by omega, by go_num, rfl, by omega, HN⟩
        case measure => simp [intOf]; omega
    · have HE : Hid (m = funsL xs) := by rw [Hid, ← HS.out, List.take_of_length_le (by omega)]
      clear HS
      go_wp2
      go_ret
      exact ⟨by rw [HE.out]; rfl, rfl⟩
set_option maxRecDepth 100000 in
set_option maxHeartbeats 12800000 in
theorem lawMany_any (W : World) (x : Cl) (a : Option Addr) (b : Nat) (e : Option Addr) (c : Nat) (hu : Row W a b x.h) (hv : Row W e c x.b) :
    Calls Try.prog 9 #[.agg #[.slice a x.h.length b, .slice e x.b.length c]] W fun r W' => r = .returned (.bool true) ∧ Below W.heap.size W W' := by
  have hb0 := (Below.refl W.heap.size W).new (.cells #[.slice a x.h.length b, .slice e x.b.length c] 25)
  have hm3 := hv.max
  have hm4 := hv.le
  have hm1 := hu.max
  have hm2 := hu.le
  have p0 : (W.alloc (.cells #[.slice a x.h.length b, .slice e x.b.length c] 25)).cell? ⟨W.heap.size, 0, none⟩ = some (.slice a x.h.length b) := World.cell?_alloc_at _ _ W.heap.size 0 rfl
  have p1 : (W.alloc (.cells #[.slice a x.h.length b, .slice e x.b.length c] 25)).cell? ⟨W.heap.size, 1, none⟩ = some (.slice e x.b.length c) := World.cell?_alloc_at _ _ W.heap.size 1 rfl
  have HX := mkHid (hu.below hb0)
  have HX1 := mkHid (hv.below hb0)
  have HB0 := mkHid hb0
  obtain ⟨W0, hW⟩ : ∃ W0, W.alloc (.cells #[.slice a x.h.length b, .slice e x.b.length c] 25) = W0 := ⟨_, rfl⟩
  rw [hW] at p0 p1 HX HX1 HB0
  have HSZ : Hid (W.heap.size < W0.heap.size) := by rw [Hid, ← hW]; simp
  clear hu hv hb0
  cases hG : greatB [x]
  · cases hM : mayB x
    · go_enter Try.func9, Try.ntmps9
      go_wp2_with fail
      first | rw [hW] | skip
      clear hW
      refine (head10_any _).mono ?_
      rintro r w1 ⟨rfl, hb1⟩
      have HB1 := mkHid (HB0.out.then hb1)
      have q0 := keep p0 hb1
      have q1 := keep p1 hb1
      have HX2 := mkHid (HX.out.below hb1)
      have HX3 := mkHid (HX1.out.below hb1)
      have HZ2 : Hid (W.heap.size < w1.heap.size) := by have h1 := HSZ.out; have h2 := hb1.size; rw [Hid]; omega
      clear hb1 HB0 p0 p1 HX HX1 HSZ
      go_wp2_with fail
      have HT1 := mkHid (great7K _ _ _ [x] 1 _ (row_cl x HX2.out HX3.out) rfl hG)
      have hn1 := (Below.refl w1.heap.size w1).new (.cells #[.slice a x.h.length b, .slice e x.b.length c] 25)
      refine HT1.out.mono ?_
      clear HT1
      rintro r w2 ⟨rfl, hb2⟩
      have hb2' := hn1.then hb2
      have HB2 := mkHid (HB1.out.then hb2')
      have r0 := keep q0 hb2'
      have r1 := keep q1 hb2'
      have HX4 := mkHid (HX2.out.below hb2')
      have HX5 := mkHid (HX3.out.below hb2')
      have HZ3 : Hid (W.heap.size < w2.heap.size) := by have h1 := HZ2.out; have h2 := hb2'.size; rw [Hid]; omega
      clear hb2 hn1 hb2' HB1 q0 q1 HX2 HX3 HZ2
      go_wp2_with fail
      have HT1 := mkHid (mayK a b e c _ x _ _ _ HX4.out HX5.out rfl rfl hM)
      refine HT1.out.mono ?_
      clear HT1
      rintro r w3 ⟨rfl, hb3⟩
      have HB3 := mkHid (HB2.out.then hb3)
      have s0 := keep r0 hb3
      have s1 := keep r1 hb3
      have HX6 := mkHid (HX4.out.below hb3)
      have HX7 := mkHid (HX5.out.below hb3)
      have HZ4 : Hid (W.heap.size < w3.heap.size) := by have h1 := HZ3.out; have h2 := hb3.size; rw [Hid]; omega
      clear hb3 HB2 r0 r1 HX4 HX5 HZ3
      go_wp2_with fail
      go_ret
      exact ⟨rfl, HB3.out⟩
    · obtain ⟨h, bl, hT⟩ := may_trees hM
      go_enter Try.func9, Try.ntmps9
      go_wp2_with fail
      first | rw [hW] | skip
      clear hW
      refine (head10_any _).mono ?_
      rintro r w1 ⟨rfl, hb1⟩
      have HB1 := mkHid (HB0.out.then hb1)
      have q0 := keep p0 hb1
      have q1 := keep p1 hb1
      have HX2 := mkHid (HX.out.below hb1)
      have HX3 := mkHid (HX1.out.below hb1)
      have HZ2 : Hid (W.heap.size < w1.heap.size) := by have h1 := HSZ.out; have h2 := hb1.size; rw [Hid]; omega
      clear hb1 HB0 p0 p1 HX HX1 HSZ
      go_wp2_with fail
      have HT1 := mkHid (great7K _ _ _ [x] 1 _ (row_cl x HX2.out HX3.out) rfl hG)
      have hn1 := (Below.refl w1.heap.size w1).new (.cells #[.slice a x.h.length b, .slice e x.b.length c] 25)
      refine HT1.out.mono ?_
      clear HT1
      rintro r w2 ⟨rfl, hb2⟩
      have hb2' := hn1.then hb2
      have HB2 := mkHid (HB1.out.then hb2')
      have r0 := keep q0 hb2'
      have r1 := keep q1 hb2'
      have HX4 := mkHid (HX2.out.below hb2')
      have HX5 := mkHid (HX3.out.below hb2')
      have HZ3 : Hid (W.heap.size < w2.heap.size) := by have h1 := HZ2.out; have h2 := hb2'.size; rw [Hid]; omega
      clear hb2 hn1 hb2' HB1 q0 q1 HX2 HX3 HZ2
      go_wp2_with fail
      have HT1 := mkHid (mayK a b e c _ x _ _ _ HX4.out HX5.out rfl rfl hM)
      refine HT1.out.mono ?_
      clear HT1
      rintro r w3 ⟨rfl, hb3⟩
      have HB3 := mkHid (HB2.out.then hb3)
      have s0 := keep r0 hb3
      have s1 := keep r1 hb3
      have HX6 := mkHid (HX4.out.below hb3)
      have HX7 := mkHid (HX5.out.below hb3)
      have HZ4 : Hid (W.heap.size < w3.heap.size) := by have h1 := HZ3.out; have h2 := hb3.size; rw [Hid]; omega
      clear hb3 HB2 r0 r1 HX4 HX5 HZ3
      go_wp2_with fail
      have HT1 := mkHid (compQ a b e c _ x h bl hT HX6.out HX7.out)
      refine HT1.out.mono ?_
      clear HT1
      rintro r w4 ⟨a2, c2, L, rfl, hrl, hL, hb4⟩
      have HL := mkHid hrl
      have HLE := mkHid hL
      have hlm := comp_shorts hT
      rw [← hL] at hlm
      obtain ⟨hl1, hl2⟩ := hlm
      have HB4 := mkHid (HB3.out.then hb4)
      have t0 := keep s0 hb4
      have t1 := keep s1 hb4
      have HX8 := mkHid (HX6.out.below hb4)
      have HX9 := mkHid (HX7.out.below hb4)
      have HZ5 : Hid (W.heap.size < w4.heap.size) := by have h1 := HZ4.out; have h2 := hb4.size; rw [Hid]; omega
      clear hb4 HB3 s0 s1 HX6 HX7 HZ4 hrl hL
      obtain ⟨L0, hL0, _, hcl⟩ := compS_calls h bl
      have hmany := compS_many hT
      rw [← HLE.out] at hL0 hmany
      subst hL0
      clear HLE
      rw [List.length_append, List.length_singleton] at *
      have hxe : x.h = h.flat := hT.eh
      have hxl : x.h.length ≤ 200 := by rw [hxe]; exact hT.h200
      have hfl := funsL_le x.h
      obtain ⟨F, hF⟩ : ∃ F, funsL x.h = F := ⟨_, rfl⟩
      rw [hF] at hfl
      have HP : Hid (partsL x.h = h.args.map Tm.flat) := by rw [Hid, hxe]; exact parts_flat hT.ok
      have HRT : Hid (rightB x.h = true) := by rw [Hid, hxe]; exact right_flat hT.ok hT.h200
      have HLL : Hid (∀ y ∈ x.b, y.t.length ≤ 200) := by
        rw [Hid, hT.eb]
        intro y hy
        obtain ⟨p, hp, rfl⟩ := List.mem_map.1 hy
        exact (hT.lits p hp).2.2
      have hxb : x.b.length ≤ 8 := by rw [hT.eb, List.length_map]; exact hT.few
      have HSB : Hid (sumB10 x.b = (bl.map fun p => p.2.flat.length + funsL p.2.flat).sum) := by rw [Hid, hT.eb]; exact sumB_bl bl
      have HCL : Hid (callsL L0 = x.b.map Lt.neg) := by rw [Hid, hcl, hT.eb, List.map_map]; rfl
      have hx0 : x.h.head? = some h.hd := by rw [hxe, flat_cons]; rfl
      have HX0 := mkHid hx0
      rw [← hxe, hF, ← HSB.out] at hmany
      have HMANY := mkHid hmany
      have hsl := sumB_le x.b HLL.out
      have hag : h.args.length ≤ 200 := by
        have e := congrArg List.length hxe
        have h6 := hT.h200
        have h7 : h.args.length ≤ (flats h.args).length := by
          have key : ∀ ts : List Tm, ts.length ≤ (flats ts).length := by
            intro ts
            induction ts with
            | nil => simp [flats]
            | cons t ts ih =>
              have := flat_pos t
              simp only [flats, List.length_cons, List.length_append]
              omega
          exact key _
        rw [flat_cons, List.length_cons] at h6
        omega
      have T0 : ∀ z : Later w4, z.w'.cell? ⟨W.heap.size, 0, none⟩ = some (.slice a x.h.length b) := keepL t0
      have hcall : ∀ z : Later w4, Calls Try.prog 28 #[.slice a x.h.length b] z.w' fun e w'' => e = .returned (.int .i64 F) ∧ Below z.w'.heap.size z.w' w'' := fun z =>
        (funs10_any a b _ x.h (HX8.out.below z.ok)).mono fun e w' ⟨he, hw⟩ => ⟨by rw [he, hF], by rw [← hw]; exact Below.refl _ _⟩
      clear hmany hx0 hcl hxe
      go_wp2_with fail
      refine wp_region_calm (by kernel_rfl) (by kernel_rfl) ?_
      repeat (go_big_quiet_step (exact Calls.calm_of (hcall _)))
      refine wpQuiet_nil ?_
      rintro w5 ⟨z, hz⟩
      have hb5 := z.ok
      rw [← hz] at hb5
      clear hz z hcall T0
      have u0 := keep t0 hb5
      have u1 := keep t1 hb5
      have HL5 := mkHid (HL.out.below hb5)
      have HX10 := mkHid (HX8.out.below hb5)
      have HX11 := mkHid (HX9.out.below hb5)
      have HB5 := mkHid (HB4.out.then hb5)
      clear hb5 t0 t1 HL HX8 HX9 HB4 HZ5
      go_wp2_with fail
      refine (refparts_any a b _ x.h HX10.out HRT.out).mono ?_
      rintro r w6 ⟨aP, cP, rfl, rP, hb6⟩
      rw [HP.out] at rP ⊢
      rw [List.length_map]
      have HPR := mkHid rP
      have u2 := keep u0 hb6
      have u3 := keep u1 hb6
      have HL6 := mkHid (HL5.out.below hb6)
      have HX12 := mkHid (HX10.out.below hb6)
      have HX13 := mkHid (HX11.out.below hb6)
      have HB6 := mkHid (HB5.out.then hb6)
      clear rP hb6 u0 u1 HL5 HX10 HX11 HB5
      go_wp2_with fail
      go_loop [6, 8] (fun nv i => ∃ (k : Nat) (n : Int), k ≤ h.args.length ∧ i = .int .i64 k ∧ nv = .int .i64 n ∧ -1000 ≤ n ∧ n ≤ 1000 ∧ Hid (n + cntP ((h.args.map Tm.flat).take k) = (x.h.length : Int) + F - 1)) (fun _ i => h.args.length - (intOf i).toNat)
      case atStart => exact ⟨0, _, Nat.zero_le _, rfl, rfl, by omega, by omega, by rw [Hid]; simp [cntP]; omega⟩
      case round =>
        obtain ⟨k, n, hk, rfl, rfl, n1, n2, HS⟩ := hrel
        by_cases hlt : k < h.args.length
        · have hlt' : k < (h.args.map Tm.flat).length := by rw [List.length_map]; exact hlt
          obtain ⟨bb, off, rfl, hb, hat⟩ := HPR.out.cases.resolve_left (fun e => by rw [e] at hlt'; simp at hlt')
          obtain ⟨a3, cap3, d0, hr3⟩ := list_at hat (Below.refl _ _) hlt'
          have HN := cntP_next hlt'
          have hpe : (h.args.map Tm.flat)[k] = h.args[k].hd :: flats h.args[k].args := by rw [List.getElem_map]; exact flat_cons _
          rw [hpe] at d0 hr3 HN
          have hk1 := cntP_le ((h.args.map Tm.flat).take (k + 1))
          rw [List.length_take] at hk1
          obtain ⟨b3, o3, rfl, hb3, hat3⟩ := hr3.cases.resolve_left (fun e => by simp at e)
          have hc := cel_at hat3 (Below.refl _ _) (k := 0) (by simp)
          have c0 : w6.cell? ⟨b3, o3, none⟩ = some (.int .i64 h.args[k].hd.k) := by have h5 := hc.c0; rw [List.getElem_cons_zero] at h5; simpa using h5
          have hle3 := hr3.le
          have hmx3 := hr3.max
          rw [List.length_cons] at d0 hle3
          generalize (flats h.args[k].args).length = m3 at d0 hle3
          clear hc hat hat3 hr3 hpe
          by_cases h3 : h.args[k].hd.k = 3
          · have HN2 : Hid (n - 1 + cntP ((h.args.map Tm.flat).take (k + 1)) = (x.h.length : Int) + F - 1) := by
              have h5 := HS.out
              rw [Hid, HN]
              simp [isFun, h3]
              omega
            have d3 : (h.args[k].hd.k == 3) = true := by simp [h3]
            have hb7 : -1000 ≤ n - 1 := by have h5 := HN2.out; omega
            clear h3 HN HS hk1
            go_wp2
            go_round
            case rel => exact ⟨k + 1, n - 1, by omega, by go_num, rfl, by omega, by omega, HN2⟩
            case measure => simp [intOf]; omega
          · have HN2 : Hid (n + cntP ((h.args.map Tm.flat).take (k + 1)) = (x.h.length : Int) + F - 1) := by
              have h5 := HS.out
              rw [Hid, HN]
              simp [isFun, h3]
              omega
            have d3 : (h.args[k].hd.k == 3) = false := by simp [h3]
            clear h3 HN HS hk1
            go_wp2
            go_round
            case rel => exact ⟨k + 1, n, by omega, by go_num, rfl, by omega, by omega, HN2⟩
            case measure => simp [intOf]; omega
        · have HN1 : Hid (n + funsTs h.args = (x.h.length : Int) + F - 1) := by
            have h5 := HS.out
            rw [List.take_of_length_le (by rw [List.length_map]; omega), cntP_args] at h5
            exact h5
          clear HS
          go_wp2_with fail
          go_loopw [6, 10] (fun nv i wr => ∃ (k : Nat) (m : Int), k ≤ x.b.length ∧ i = .int .i64 k ∧ nv = .int .i64 m ∧ -1000 ≤ m ∧ m ≤ 1000 + 400 * k ∧ Below w6.heap.size w6 wr ∧ Hid (m = n + (sumB10 (x.b.take k) : Nat))) (fun _ i wr => x.b.length - (intOf i).toNat)
          case atStart => exact ⟨0, n, Nat.zero_le _, rfl, rfl, n1, by omega, Below.refl _ _, by rw [Hid]; simp [sumB10]⟩
          case round =>
            obtain ⟨k, m, hk, rfl, rfl, m1, m2, hbl, HS⟩ := hrel
            have v1 := keep u3 hbl
            by_cases hlt : k < x.b.length
            · obtain ⟨bb, off, hab, hb, hat⟩ := (HX13.out).cases.resolve_left (fun e => by simp [e] at hlt)
              subst hab
              obtain ⟨a3, cap3, d0, d1, hr3⟩ := lt_at hat hbl hlt
              have e0 : ∀ z : Later wr, z.w'.cell? ⟨W.heap.size, 1, none⟩ = some (.slice (some ⟨bb, off, none⟩) x.b.length c) := keepL v1
              have e1 : ∀ z : Later wr, z.w'.cell? ⟨bb, off + k * 2 + 1, none⟩ = some (.slice a3 x.b[k].t.length cap3) := keepL d1
              have HN := sumB_next hlt
              have hl3 := HLL.out _ (List.getElem_mem hlt)
              have hf3 := funsL_le x.b[k].t
              have hcall : ∀ z : Later wr, Calls Try.prog 28 #[.slice a3 x.b[k].t.length cap3] z.w' fun e w'' => e = .returned (.int .i64 (funsL x.b[k].t)) ∧ Below z.w'.heap.size z.w' w'' := fun z =>
                (funs10_any a3 cap3 _ x.b[k].t (hr3.below z.ok)).mono fun e w' ⟨he, hw⟩ => ⟨he, by rw [← hw]; exact Below.refl _ _⟩
              obtain ⟨G, hG2⟩ : ∃ G, funsL x.b[k].t = G := ⟨_, rfl⟩
              obtain ⟨Y, hY⟩ : ∃ Y, x.b[k].t.length = Y := ⟨_, rfl⟩
              rw [hG2] at hcall hf3 HN
              rw [hY] at hcall hf3 hl3 HN e1
              have HN2 : Hid (m + (Y + G) = n + (sumB10 (x.b.take (k + 1)) : Nat)) := by
                have h5 := HS.out
                rw [Hid, HN]
                omega
              clear HN HS hat hr3 d0 d1 hG2 hY
              go_wp2_with fail
              refine wp_region_calm (by kernel_rfl) (by kernel_rfl) ?_
              repeat (go_big_quiet_step (exact Calls.calm_of (hcall _)))
              refine wpQuiet_nil ?_
              rintro w7 ⟨z, hz⟩
              have hb7 := z.ok
              rw [← hz] at hb7
              clear hz z hcall e0 e1
              have hbl2 := hbl.then hb7
              clear hb7 hbl
              go_wp2_with fail
              go_round
              case rel => exact ⟨k + 1, _, by omega, by go_num, rfl, by omega, by omega, hbl2, by rw [Hid, ← HN2.out]; omega⟩
              case measure => simp [intOf]; omega
            · have hm : m = (L0.length : Int) + 1 := by
                have h5 := HS.out
                have h6 := HN1.out
                have h7 := HMANY.out
                rw [List.take_of_length_le (by omega)] at h5
                omega
              subst hm
              have HX14 := mkHid (HX12.out.below hbl)
              have HX15 := mkHid (HX13.out.below hbl)
              have HL7 := mkHid (HL6.out.below hbl)
              have HB7 := mkHid (HB6.out.then hbl)
              have x0 := keep u2 hbl
              clear HS m1 m2 HN1 n1 n2 hbl HX12 HX13 HL6 HB6 u2 u3
              go_wp2_with fail
              go_loopw [9, 11] (fun cv i wz => ∃ (k q : Nat), k ≤ L0.length + 1 ∧ i = .int .i64 k ∧ cv = .int .i64 q ∧ q ≤ x.b.length ∧ Below wr.heap.size wr wz ∧ Hid ((callsL ((L0 ++ [(⟨13, 0, 0, h.hd.s, h.hd.n, false⟩ : Ins)]).take k)).length = q)) (fun _ i wz => L0.length + 1 - (intOf i).toNat)
              case atStart => exact ⟨0, 0, Nat.zero_le _, rfl, rfl, Nat.zero_le _, Below.refl _ _, rfl⟩
              case round =>
                obtain ⟨k, q, hk, rfl, rfl, hq, hbl, HS⟩ := hrel
                have x1 := keep v1 hbl
                have HLR := mkHid (HL7.out.below hbl)
                by_cases hlt : k < L0.length + 1
                · have hlt' : k < (L0 ++ [(⟨13, 0, 0, h.hd.s, h.hd.n, false⟩ : Ins)] : List Ins).length := by simpa using hlt
                  obtain ⟨bb, off, rfl, hb, hat⟩ := HLR.out.cases.resolve_left (fun e => by simp at e)
                  obtain ⟨c0, q1, q2, q3, q4, c5, hf⟩ := ins_at hat (Below.refl _ _) hlt'
                  clear q1 q2 q3 q4
                  have HN := callsL_next hlt'
                  have HAT := fun h12 => callsL_at (L := L0 ++ [(⟨13, 0, 0, h.hd.s, h.hd.n, false⟩ : Ins)]) (ns := x.b.map Lt.neg) (by rw [callsL_app, HCL.out]; simp [callsL]) hlt' HS.out h12
                  obtain ⟨i, hi⟩ : ∃ i, (L0 ++ [(⟨13, 0, 0, h.hd.s, h.hd.n, false⟩ : Ins)] : List Ins)[k] = i := ⟨_, rfl⟩
                  rw [hi] at c0 c5 HN HAT
                  clear hi hat hf
                  by_cases h12 : i.op = 12
                  · rw [if_pos h12] at HN
                    obtain ⟨hq', hqn⟩ := HAT h12
                    rw [List.length_map] at hq'
                    rw [List.getElem_map] at hqn
                    obtain ⟨b5, o5, hab, hb5, hat5⟩ := (HX15.out).cases.resolve_left (fun e => by simp [e] at hq')
                    subst hab
                    obtain ⟨a3, cap3, d0, d1, hr3⟩ := lt_at hat5 hbl hq'
                    have e0 : ∀ z : Later wr, z.w'.cell? ⟨W.heap.size, 1, none⟩ = some (.slice (some ⟨b5, o5, none⟩) x.b.length c) := keepL x1
                    have e1 : ∀ z : Later wr, z.w'.cell? ⟨b5, o5 + q * 2, none⟩ = some (.bool x.b[q].neg) := keepL d0
                    have e2 : ∀ z : Later wr, z.w'.cell? ⟨bb, off + k * 6 + 5, none⟩ = some (.bool i.neg) := keepL c5
                    have tv : (i.neg == x.b[q].neg) = true := by simp [hqn]
                    have hge : ¬ ((x.b.length : Int) ≤ q) := by omega
                    have hge1 : decide (x.b.length ≤ q) = false := by simp; omega
                    have hge3 : (i.neg != x.b[q].neg) = false := by simp [hqn]
                    have HN2 : Hid ((callsL ((L0 ++ [(⟨13, 0, 0, h.hd.s, h.hd.n, false⟩ : Ins)]).take (k + 1))).length = q + 1) := by
                      rw [Hid, HN, List.length_append, HS.out]; rfl
                    rw [h12] at c0
                    clear HN HS HAT hqn hat5 hr3 d0 d1 c5 h12
                    go_wp2_with fail
                    refine wp_region_calm (by kernel_rfl) (by kernel_rfl) ?_
                    repeat (go_big_quiet_step (fail))
                    refine wpQuiet_nil ?_
                    rintro w8 ⟨z, hz⟩
                    have hb8 := z.ok
                    rw [← hz] at hb8
                    clear hz z e0 e1 e2
                    have hbl2 := hbl.then hb8
                    clear hb8 hbl
                    go_wp2_with fail
                    go_round
                    case rel => exact ⟨k + 1, q + 1, by omega, by go_num, by go_num, by omega, hbl2, HN2⟩
                    case measure => simp [intOf]; omega
                  · rw [if_neg h12, List.append_nil] at HN
                    have HN2 : Hid ((callsL ((L0 ++ [(⟨13, 0, 0, h.hd.s, h.hd.n, false⟩ : Ins)]).take (k + 1))).length = q) := by
                      rw [Hid, HN]; exact HS.out
                    have d12 : (i.op == 12) = false := by simp [h12]
                    clear HN HS HAT h12 c5 x1
                    go_wp2_with fail
                    go_round
                    case rel => exact ⟨k + 1, q, by omega, by go_num, rfl, by omega, hbl, HN2⟩
                    case measure => simp [intOf]; omega
                · have hqe : q = x.b.length := by
                    have h5 := HS.out
                    rw [List.take_of_length_le (by simp; omega), callsL_app, HCL.out] at h5
                    simpa [callsL] using h5.symm
                  subst hqe
                  have x2 := keep x0 hbl
                  have HXZ := HX14.out.below hbl
                  obtain ⟨b6, o6, hab, hb6, hat6⟩ := HXZ.cases.resolve_left (fun e => by have := HX0.out; rw [e] at this; cases this)
                  subst hab
                  have hpos : 0 < x.h.length := by
                    have := HX0.out
                    cases hx : x.h with
                    | nil => rw [hx] at this; cases this
                    | cons _ _ => simp
                  have hc6 := cel_at hat6 (Below.refl _ _) hpos
                  have hce : x.h[0] = h.hd := by
                    have := HX0.out
                    rw [List.head?_eq_getElem?, List.getElem?_eq_getElem hpos] at this
                    exact Option.some.inj this
                  rw [hce] at hc6
                  obtain ⟨bb, off, rfl, hb, hat⟩ := HLR.out.cases.resolve_left (fun e => by simp at e)
                  have hin := ins_at hat (Below.refl _ _) (k := L0.length) (by simp)
                  rw [List.getElem_append_right (Nat.le_refl _)] at hin
                  simp only [Nat.sub_self, List.getElem_cons_zero] at hin
                  obtain ⟨c0, c1, c2', c3, c4, c5, _⟩ := hin
                  have k0 : ∀ z : Later wr, z.w'.cell? ⟨bb, off + L0.length * 6, none⟩ = some (.int .i64 13) := keepL c0
                  have k1 : ∀ z : Later wr, z.w'.cell? ⟨bb, off + L0.length * 6 + 1, none⟩ = some (.int .i64 0) := keepL c1
                  have k2 : ∀ z : Later wr, z.w'.cell? ⟨bb, off + L0.length * 6 + 2, none⟩ = some (.int .i64 0) := keepL c2'
                  have k3 : ∀ z : Later wr, z.w'.cell? ⟨bb, off + L0.length * 6 + 3, none⟩ = some (.string h.hd.s) := keepL c3
                  have k4 : ∀ z : Later wr, z.w'.cell? ⟨bb, off + L0.length * 6 + 4, none⟩ = some (.int .i64 h.hd.n) := keepL c4
                  have k5 : ∀ z : Later wr, z.w'.cell? ⟨bb, off + L0.length * 6 + 5, none⟩ = some (.bool false) := keepL c5
                  have k6 : ∀ z : Later wr, z.w'.cell? ⟨W.heap.size, 0, none⟩ = some (.slice (some ⟨b6, o6, none⟩) x.h.length b) := keepL x2
                  have k7 : ∀ z : Later wr, z.w'.cell? ⟨W.heap.size, 1, none⟩ = some (.slice e x.b.length c) := keepL x1
                  have k8 : ∀ z : Later wr, z.w'.cell? ⟨b6, o6 + 1, none⟩ = some (.string h.hd.s) := keepL (by simpa using hc6.c1)
                  have k9 : ∀ z : Later wr, z.w'.cell? ⟨b6, o6 + 2, none⟩ = some (.int .i64 h.hd.n) := keepL (by simpa using hc6.c2)
                  have hre := fun w => run_eql_end h.hd.s h.hd.n w
                  clear c0 c1 c2' c3 c4 c5 hat hat6 hc6 hce HS x1 x2
                  go_wp2_with fail
                  refine wp_region_calm (by kernel_rfl) (by kernel_rfl) ?_
                  repeat (go_big_quiet_step (fail))
                  refine wpQuiet_nil ?_
                  rintro w8 ⟨z, hz⟩
                  have hb8 := z.ok
                  rw [← hz] at hb8
                  clear hz z
                  go_wp2_with fail
                  go_ret
                  exact ⟨rfl, (HB7.out.then hbl).then hb8⟩
  · go_enter Try.func9, Try.ntmps9
    go_wp2_with fail
    first | rw [hW] | skip
    clear hW
    refine (head10_any _).mono ?_
    rintro r w1 ⟨rfl, hb1⟩
    have HB1 := mkHid (HB0.out.then hb1)
    have q0 := keep p0 hb1
    have q1 := keep p1 hb1
    have HX2 := mkHid (HX.out.below hb1)
    have HX3 := mkHid (HX1.out.below hb1)
    have HZ2 : Hid (W.heap.size < w1.heap.size) := by have h1 := HSZ.out; have h2 := hb1.size; rw [Hid]; omega
    clear hb1 HB0 p0 p1 HX HX1 HSZ
    go_wp2_with fail
    have HT1 := mkHid (great7K _ _ _ [x] 1 _ (row_cl x HX2.out HX3.out) rfl hG)
    have hn1 := (Below.refl w1.heap.size w1).new (.cells #[.slice a x.h.length b, .slice e x.b.length c] 25)
    refine HT1.out.mono ?_
    clear HT1
    rintro r w2 ⟨rfl, hb2⟩
    have hb2' := hn1.then hb2
    have HB2 := mkHid (HB1.out.then hb2')
    have r0 := keep q0 hb2'
    have r1 := keep q1 hb2'
    have HX4 := mkHid (HX2.out.below hb2')
    have HX5 := mkHid (HX3.out.below hb2')
    have HZ3 : Hid (W.heap.size < w2.heap.size) := by have h1 := HZ2.out; have h2 := hb2'.size; rw [Hid]; omega
    clear hb2 hn1 hb2' HB1 q0 q1 HX2 HX3 HZ2
    go_wp2_with fail
    go_ret
    exact ⟨rfl, HB2.out⟩
end Go.Proofs.Ytkkiemideldioaa
namespace Go.Proofs.Ytkkiemideldioaa
open Go.RowKit Go.ChangeShapes Go.WideShapes Go.ChangeAt
open Go.ChangeMaps (open_string)

set_option maxRecDepth 100000 in
set_option maxHeartbeats 1000000 in
theorem CodeMany_lifted (os : Os) (started : os.Started) (H : Type) (enc : TypeId × Value → H) :
    ReturnsInHanded {} Try.checked os 9 .any (Rows.codeManySpec.pre6 enc Try.prog Try.f9 Rows.codeManyRow.domain false) (Rows.codeManySpec.post enc Try.prog Try.f9 false true false false) := by
  refine returnsInHanded_of_change (C := Try.checked) Try.own started (by kernel_rfl) Try.func9
    (ChangeSpec.witness6 (enc := enc) (C := Try.checked) false ⟨#[], #[.agg #[.slice none 0 0, .slice none 0 0]], []⟩ 8 (by kernel_rfl) (by kernel_rfl) (by kernel_rfl) (by kernel_rfl)) ?_
  intro W base args ds gs before hval0 hW hcnd _
  have hval : ∀ (j : Nat) t v, Try.f9.params[j]? = some t → args[j]? = some v → Value.okWide Try.prog W .any base t v := hval0
  have hW' := hW
  obtain ⟨p, q, hA0, hV, rfl, hfz, hnd⟩ := hW
  have hA : DataW.TrodAll enc Try.prog W 0 (fun _ => true) true Try.f9.params.toList args.toList ds p := hA0
  rw [Try.params9] at hA hval
  obtain ⟨v0, vs0, d0, ds0, p0, q0, hargs, rfl, rfl, h0, r0⟩ := trodAll_cons hA
  obtain ⟨rfl, rfl, rfl⟩ := trodAll_nil r0
  obtain rfl : args = #[v0] := by cases args; simp_all
  obtain ⟨rfl, rfl⟩ := trodVars_none hV
  have k0 := h0
  have lt0 : ∀ x ∈ p0, x.block < W.heap.size := by obtain ⟨m, hm⟩ := k0; exact DataW.trod_lt m _ _ _ hm
  obtain ⟨x0, a0, b0, e0, c0, rfl, hu0, hv0⟩ : ∃ (x : Cl) (a : Option Addr) (b : Nat) (e : Option Addr) (c : Nat), v0 = .agg #[.slice a x.h.length b, .slice e x.b.length c] ∧ Row W a b x.h ∧ Row W e c x.b := by
    obtain ⟨⟨l⟩, rfl⟩ := agg_clause (hval 0 25 v0 rfl rfl)
    obtain ⟨fuel, hf⟩ := h0
    obtain ⟨x, a, b, e, c, hc, g0, g1⟩ := open_clause7 hf
    have hc' : l = [.slice a x.h.length b, .slice e x.b.length c] := hc
    exact ⟨x, a, b, e, c, by rw [hc'], g0, g1⟩
  clear hA0 hval0
  refine (lawMany_any W x0 a0 b0 e0 c0 hu0 hv0).mono fun e W' ⟨he, bel⟩ => ?_
  subst he
  exact ⟨_, rfl, _, _, _, [], _, [], hW', trodAll_mk1 (shut_bool Try.underlying4 _), (trodAll_cons_mk (Below.trod Try.laidOut (by kernel_rfl) (of_decide_eq_true (by kernel_rfl)) k0 bel lt0) trodAll_mk0), rfl, bel.frame _, fun h => by cases h⟩

theorem CodeMany_over : Rows.codeManyRow.holds Try.pinned (OpenSpec.ofChange Rows.codeManySpec) :=
  OpenClaim.holds_of_wide 9 Try.f9 rfl rfl rfl rfl rfl rfl rfl ⟨rfl, rfl, rfl, rfl, rfl⟩ rfl rfl rfl rfl rfl (by kernel_rfl) Try.func9 (by kernel_rfl)
    (of_decide_eq_true (by kernel_rfl)) (by unfold Func.isWrapper; first | (rw [if_pos (by decide +kernel)]; kernel_rfl) | (rw [if_neg (by decide +kernel)]; exact ⟨rfl, rfl⟩))
    (fun os started H enc _ => CodeMany_lifted os started H enc)

theorem CodeMany_holds : Rows.CodeManySaid := CodeMany_over
end Go.Proofs.Ytkkiemideldioaa
