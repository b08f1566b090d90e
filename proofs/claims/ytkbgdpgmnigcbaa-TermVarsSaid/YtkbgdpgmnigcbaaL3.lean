import Derived.Test.YtkbgdpgmnigcbaaL4
namespace Go.Proofs.Ytkbgdpgmnigcbaa
open Go.RowKit

theorem empty_hide {w : World} {g : Nat} {t : TypeId} {fr : Nat × Nat} (h : w.heap[g]? = some (.cells #[] t fr)) : Keeps w (hide (some g) w) := by
  intro b o v hc
  refine hide_of_ne (fun e => ?_) hc
  subst e
  simp [World.cell?, h] at hc

/-- what holds while variables are gathered -/
structure GatherInv (w w5 : World) (B0 : Nat) (acc : List Int) (v : Value) (wr : World) : Prop where
  own : wr.ownsRow B0 3 1 v acc.length (acc.map (Value.int .i64))
  keep : Keeps (hide (some B0) w5) (hide v.ownBlock wr)
  bel : Below w.heap.size w wr
  fit : ∀ n ∈ acc, -9223372036854775808 ≤ n ∧ n ≤ 9223372036854775807
  sz : B0 ≤ wr.heap.size
theorem addL_length (l : List Int) : ∀ acc : List Int, (addL acc l).length ≤ acc.length + l.length := by
  induction l with
  | nil => intro acc; simp [addL]
  | cons n l ih =>
    intro acc
    have h := ih (if n ∈ acc then acc else acc ++ [n])
    have h2 : (if n ∈ acc then acc else acc ++ [n]).length ≤ acc.length + 1 := by split <;> simp
    simp only [addL, List.length_cons]; omega

set_option maxHeartbeats 4000000 in
set_option maxRecDepth 100000 in
theorem lawVars_any (w : World) (xs : List Cel) (a : Option Addr) (cap : Nat) (hr : Row w a cap xs) :
    Calls Try.prog 8 #[.slice a xs.length cap] w fun e w' => e = .returned (.bool true) ∧ Below w.heap.size w w' := by
  have hm := hr.max
  have hle := hr.le
  by_cases hg : 300 < xs.length
  · go_enter Try.func8, Try.ntmps8
    go_wp2_with (first
      | (go_at_call 12; refine (head_any _).mono ?_; rintro e w1 ⟨rfl, hb1⟩)
      | (go_at_call 13; refine (great_yes hg).mono ?_; rintro e w2 ⟨rfl, hb2⟩))
    go_ret
    exact ⟨rfl, hb1.then hb2⟩
  cases hR : rightB xs with
  | false =>
    go_enter Try.func8, Try.ntmps8
    go_wp2_with (first
      | (go_at_call 12; refine (head_any _).mono ?_; rintro e w1 ⟨rfl, hb1⟩)
      | (go_at_call 13; refine (great_no hg).mono ?_; rintro e w2 ⟨rfl, hb2⟩)
      | (go_at_call 14; refine (right_lit rfl ((hr.below hb1).below hb2) hR).mono ?_; rintro e w3 ⟨rfl, hb3⟩))
    go_ret
    exact ⟨rfl, (hb1.then hb2).then hb3⟩
  | true =>
    obtain ⟨t, ht, rfl, h200⟩ := right_tm hR
    have HP := mkHid (parts_flat ht)
    have hargs := args_le6 ht
    have h0 := flat_pos t
    have hhd : t.flat[0] = t.hd := by simp [flat_cons]
    have hvl := varsGo_length t.flat []
    rw [show varsGo [] t.flat = varsL t.flat from rfl, List.length_nil, Nat.zero_add] at hvl
    by_cases h1 : t.hd.k = 1
    · have t1 : (t.hd.k == 1) = true := by simp [h1]
      have ha0 : t.args = [] := by
        have h' := (ok_iff t).1 ht
        refine List.eq_nil_of_length_eq_zero ?_
        rw [h'.2.1]; unfold ar; rw [if_neg (by omega)]
      have hf1 : t.flat = [t.hd] := by rw [flat_cons, ha0]; rfl
      have HV : Hid (varsL t.flat = [t.hd.n]) := by rw [Hid, hf1]; simp [varsL, varsGo, h1]
      have HG : Hid (groundB t.flat = false) := by rw [Hid, hf1]; simp [groundB, h1]
      clear h1 ha0 hf1
      go_enter Try.func8, Try.ntmps8
      go_wp2_with (first
        | (go_at_call 12; refine (head_any _).mono ?_; rintro e w1 ⟨rfl, hb1⟩)
        | (go_at_call 13; refine (great_no hg).mono ?_; rintro e w2 ⟨rfl, hb2⟩)
        | (go_at_call 14; refine (right_lit rfl ((hr.below hb1).below hb2) hR).mono ?_; rintro e w3 ⟨rfl, hb3⟩)
        | (go_at_call 21; refine (vars_lit rfl (((hr.below hb1).below hb2).below hb3) (by omega) HV.out (m := 1) rfl).mono ?_; rintro e w4 ⟨a4, cap4, rfl, r4, hb4⟩; have hb04 := ((hb1.then hb2).then hb3).then hb4; have rw4 := hr.below hb04; obtain ⟨b, off, rfl, hb, hat⟩ := rw4.cases.resolve_left (fun e => by rw [e] at h0; simp at h0); obtain ⟨c0, c1, c2, hf⟩ := cel_at hat (Below.refl _ _) h0; rw [hhd] at c0 c1 c2 hf; simp only [Nat.zero_mul, Nat.add_zero] at c0 c1 c2; obtain ⟨b4, off4, rfl, hb4', hat4⟩ := r4.cases.resolve_left (by simp); obtain ⟨d0, _, _⟩ := int_at hat4 (Below.refl _ _) (k := 0) (by simp); simp only [Nat.add_zero, List.getElem_cons_zero] at d0))
      have e0 : ∀ x : Later w4, x.w'.cell? ⟨b, off + 2, none⟩ = some (.int .i64 t.hd.n) := keepL c2
      have e1 : ∀ x : Later w4, x.w'.cell? ⟨b4, off4, none⟩ = some (.int .i64 t.hd.n) := keepL d0
      have hcap4 := r4.le
      have hcap4' := r4.max
      simp only [List.length_cons, List.length_nil] at hcap4
      have hi0 : (0 : Int) < (t.flat.length : Int) := by omega
      refine wp_region_calm (by kernel_rfl) (by kernel_rfl) ?_
      repeat (go_big_quiet_step (exact Calls.calm_of (ground_lit rfl (rw4.below (Later.ok _)) HG.out)))
      refine wpQuiet_nil ?_
      rintro _ ⟨x, rfl⟩
      go_wp2
      go_ret
      exact ⟨rfl, hb04.then x.ok⟩
    · have t1 : (t.hd.k == 1) = false := by simp [h1]
      have HW := mkHid (vars_hd h1)
      have hx : ∃ b0 : Bool, groundB t.flat = b0 ∧ (((varsL t.flat).length : Int) == 0) = b0 := by
        refine ⟨_, rfl, ?_⟩
        rw [ground_vars]
        by_cases h : (varsL t.flat).length = 0 <;> simp [h]
      obtain ⟨b0, hgb, hlb⟩ := hx
      have HGB := mkHid hgb
      clear h1 hgb
      go_enter Try.func8, Try.ntmps8
      go_wp2_with (first
        | (go_at_call 12; refine (head_any _).mono ?_; rintro e w1 ⟨rfl, hb1⟩)
        | (go_at_call 13; refine (great_no hg).mono ?_; rintro e w2 ⟨rfl, hb2⟩)
        | (go_at_call 14; refine (right_lit rfl ((hr.below hb1).below hb2) hR).mono ?_; rintro e w3 ⟨rfl, hb3⟩)
        | (go_at_call 21; refine (vars_any a cap _ t.flat (((hr.below hb1).below hb2).below hb3) (by omega)).mono ?_; rintro e w4 ⟨a4, cap4, rfl, r4, hb4⟩; have hb04 := ((hb1.then hb2).then hb3).then hb4; have rw4 := hr.below hb04; obtain ⟨b, off, rfl, hb, hat⟩ := rw4.cases.resolve_left (fun e => by rw [e] at h0; simp at h0); obtain ⟨c0, c1, c2, hf⟩ := cel_at hat (Below.refl _ _) h0; rw [hhd] at c0 c1 c2 hf; simp only [Nat.zero_mul, Nat.add_zero] at c0 c1 c2)
        | (go_at_call 26; refine (parts_lit rfl (rw4.below ((Below.refl _ _).new _)) hR HP.out (m := t.args.length) (by simp)).mono ?_; rintro e w5 ⟨a5, cap5, rfl, r5, hb5⟩))
      have hba := (Below.refl w4.heap.size w4).new (.cells #[] 3)
      have hemp : w5.heap[w4.heap.size]? = some (.cells #[] 3 (0, 0)) := (hb5.block _ (by simp)).trans (heap_alloc_new w4 _)
      have hown5 : w5.ownsRow w4.heap.size 3 1 (.slice (some ⟨w4.heap.size, 0, none⟩) 0 0) 0 (([] : List Int).map (Value.int .i64)) := own_below (World.ownsRow_made (base := w4.heap.size) (e := 3) (size := 1) w4 #[] 0 (Nat.le_refl _) (by unfold maxLen; omega) rfl) hb5
      have hb45 := hba.then hb5
      have hb05 := hb04.then hb45
      have r4h := r4.keeps (fresh_keeps (Keeps.of hb45) (Nat.le_refl w4.heap.size))
      have rth := rw4.keeps (fresh_keeps (Keeps.of hb45) (Nat.le_refl w4.heap.size))
      have r5h := r5.keeps (empty_hide hemp)
      have hsz : w.heap.size ≤ w4.heap.size := hb04.size
      clear c0 c1 c2
      go_loopw [5, 7] (fun v i wr => ∃ (k : Nat) (acc : List Int), k ≤ t.args.length ∧ i = .int .i64 k ∧ GatherInv w w5 w4.heap.size acc v wr ∧ Hid (acc = varsGo [] (flats (t.args.take k))) ∧ acc.length ≤ k * 200) (fun v i wr => t.args.length - (intOf i).toNat)
      case atStart => exact ⟨0, [], Nat.zero_le _, rfl, ⟨hown5, Keeps.refl _, hb05, by simp, hb45.size⟩, rfl, by simp⟩
      case round =>
        clear hown5
        obtain ⟨k, acc, hk, rfl, HI, HA, hal⟩ := hrel
        by_cases hlt : k < t.args.length
        · have hlt' : k < (t.args.map Tm.flat).length := by simpa using hlt
          obtain ⟨b', off', rfl, hb', hat'⟩ := ((r5h.keeps HI.keep).keeps (hide_keeps _ _)).cases.resolve_left (fun e => by rw [e] at hlt'; simp at hlt')
          obtain ⟨a6, cap6, d0, r6⟩ := list_at hat' (Below.refl _ _) hlt'
          rw [List.getElem_map] at d0 r6
          have hsm := flat_arg_lt (List.getElem_mem hlt)
          have hpl := varsGo_length t.args[k].flat []
          rw [show varsGo [] t.args[k].flat = varsL t.args[k].flat from rfl, List.length_nil, Nat.zero_add] at hpl
          have hpf := mkHid (varsGo_fit t.args[k].flat r6.fit [] (by simp))
          rw [show varsGo [] t.args[k].flat = varsL t.args[k].flat from rfl] at hpf
          have HT := mkHid (vars_arg t hlt)
          rw [← HA.out] at HT
          go_wp2_with (go_at_call 21; refine (vars_own _ _ _ t.args[k].flat r6 (by omega)).mono ?_; rintro e w6 ⟨a7, cap7, rfl, o7, _, hb7⟩)
          have hvr := own_rowI (own_hide (r := u5.ownBlock) o7 (fun g hg => by have := (HI.own.lt g hg).2; omega)) hpf.out
          obtain ⟨a8, cap8, e8, r8⟩ := hvr
          injection e8 with e8 e9 e10
          subst e8
          subst e10
          clear e9 o7
          have HI6 : GatherInv w w5 w4.heap.size acc u5 w6 := ⟨own_below HI.own hb7, HI.keep.trans (below_hide hb7 _), HI.bel.then hb7, HI.fit, Nat.le_trans HI.sz hb7.size⟩
          clear HI r6 d0
          go_loopw [5, 9] (fun v j wr => ∃ (m : Nat) (ac : List Int), m ≤ (varsL t.args[k].flat).length ∧ j = .int .i64 m ∧ GatherInv w w5 w4.heap.size ac v wr ∧ Row (hide v.ownBlock wr) a7 cap7 (varsL t.args[k].flat) ∧ Hid (addL acc (varsL t.args[k].flat) = addL ac ((varsL t.args[k].flat).drop m)) ∧ ac.length ≤ k * 200 + m) (fun v j wr => (varsL t.args[k].flat).length - (intOf j).toNat)
          case atStart => exact ⟨0, acc, Nat.zero_le _, rfl, HI6, r8, rfl, hal⟩
          case round =>
            clear HI6 r8
            obtain ⟨m, ac, hmk, rfl, HI, r8, HS, hacl⟩ := hrel
            obtain ⟨a9, cap9, rfl, r9⟩ := own_rowI HI.own HI.fit
            have o9 := HI.own
            by_cases hlm : m < (varsL t.args[k].flat).length
            · obtain ⟨b8, off8, rfl, hb8, hat8⟩ := (r8.keeps (hide_keeps _ _)).cases.resolve_left (fun e => by rw [e] at hlm; simp at hlm)
              obtain ⟨d8, n1, n2⟩ := int_at hat8 (Below.refl _ _) hlm
              have hst := addL_step ac (varsL t.args[k].flat) hlm
              by_cases h2 : (varsL t.args[k].flat)[m] ∈ ac
              · have HT2 : Hid (addL acc (varsL t.args[k].flat) = addL ac ((varsL t.args[k].flat).drop (m + 1))) := by rw [Hid, HS.out, hst, if_pos h2]
                have HD := mkHid (decide_eq_true h2)
                clear h2 hst HS
                go_wp2_with (go_at_call 36; refine (refin_any a9 cap9 (varsL t.args[k].flat)[m] _ ac r9).mono ?_; rintro e w10 ⟨rfl, hb10⟩; rw [HD.out])
                go_round
                case rel => exact ⟨m + 1, ac, by omega, by go_num, ⟨own_below o9 hb10, HI.keep.trans (below_hide hb10 _), HI.bel.then hb10, HI.fit, Nat.le_trans HI.sz hb10.size⟩, r8.keeps (below_hide hb10 _), HT2, by omega⟩
                case measure => simp [intOf]; omega
              · have HT2 : Hid (addL acc (varsL t.args[k].flat) = addL (ac ++ [(varsL t.args[k].flat)[m]]) ((varsL t.args[k].flat).drop (m + 1))) := by rw [Hid, HS.out, hst, if_neg h2]
                have HD := mkHid (decide_eq_false h2)
                clear h2 hst HS
                go_wp2_with (first
                  | (go_at_call 36; refine (refin_any a9 cap9 (varsL t.args[k].flat)[m] _ ac r9).mono ?_; rintro e w10 ⟨rfl, hb10⟩; rw [HD.out]; have d9 := keep d8 hb10; have o10 := own_below o9 hb10; have hsz10 := Nat.le_trans HI.sz hb10.size; clear d8)
                  | (at_builtin; refine wpList_app2 rfl _ _ 28 rfl w4.heap.size 3 1 8 _ Try.underlying28 Try.infoInt rfl (by decide) (by decide) _ ac.length _ rfl (o10.alloc _) ⟨_, 0, none⟩ 1 1 [.int .i64 (varsL t.args[k].flat)[m]] rfl (src_new _ #[.int .i64 (varsL t.args[k].flat)[m]] _ 1 rfl (by simp [Value.oneCell'])) (by omega) (by simp; omega) ?_; intro v' w11 o11 _ hb11 hk11))
                have hkk := ((below_hide hb10 (Value.slice a9 ac.length cap9).ownBlock).trans (alloc_hide w10 (.cells #[.int .i64 (varsL t.args[k].flat)[m]] 3) _)).trans hk11
                have hbb := ((HI.bel.then hb10).new (.cells #[.int .i64 (varsL t.args[k].flat)[m]] 3)).trans (hb11.mono hsz)
                go_round
                case rel => exact ⟨m + 1, ac ++ [(varsL t.args[k].flat)[m]], by omega, by go_num, ⟨by simpa using o11, HI.keep.trans hkk, hbb, out_fit HI.fit n1 n2, Nat.le_trans hsz10 (Nat.le_trans (by simp) hb11.size)⟩, r8.keeps hkk, HT2, by simp; omega⟩
                case measure => simp [intOf]; omega
            · have HE : Hid (ac = varsGo [] (flats (t.args.take (k + 1)))) := by
                have h := HS.out
                rw [List.drop_eq_nil_of_le (by omega)] at h
                rw [Hid, HT.out, h]; rfl
              clear HS
              go_wp2
              go_round
              case rel => exact ⟨k + 1, ac, by omega, by go_num, HI, HE, by omega⟩
              case measure => simp [intOf]; omega
        · obtain rfl : k = t.args.length := by omega
          have he : acc = varsL t.flat := by rw [HA.out, List.take_length, HW.out]
          subst he
          obtain ⟨a9, cap9, rfl, r9⟩ := own_rowI HI.own HI.fit
          have r4w := (r4h.keeps HI.keep).keeps (hide_keeps _ _)
          have rtw := (rth.keeps HI.keep).keeps (hide_keeps _ _)
          have hbel := HI.bel
          have HLB := mkHid hlb
          clear HI HA
          go_wp2_with (first
            | (go_at_call 20; refine (ints_lit rfl r4w rfl r9 (decide_eq_true rfl)).mono ?_; rintro e w12 ⟨rfl, hb12⟩)
            | (go_at_call 23; refine (ground_lit rfl (rtw.below hb12) HGB.out).mono ?_; rintro e w13 ⟨rfl, hb13⟩))
          go_ret
          refine ⟨ret_bool ?_, (hbel.then hb12).then hb13⟩
          cases b0 <;> rfl
end Go.Proofs.Ytkbgdpgmnigcbaa
