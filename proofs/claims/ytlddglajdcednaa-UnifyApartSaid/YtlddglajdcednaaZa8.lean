/-
  Of layer 3 of sorrel: whatever arguments come in, the law UnifyApart returns true, and what was handed in reads as it did: two terms without a common variable: if one is an instance of the other one, Mgu makes it that; a variable by itself goes with all. No condition.
-/
import Derived.Test.YtlddglajdcednaaZr10
namespace Go.Proofs.Ytlddglajdcednaa
open Go.RowKit

set_option maxHeartbeats 1600000 in
theorem refshift_new (a : Option Addr) (cap : Nat) (d : Int) (w : World) (xs : List Cel) (hr : Row w a cap xs) (hl : xs.length ≤ 1000000) (h0 : 0 < xs.length) :
    Calls Try.prog 29 #[.slice a xs.length cap, .int .i64 d] w fun e w' => ∃ a' cap', e = .returned (.slice a' (shiftL xs d).length cap') ∧ NewRow w.heap.size w' a' cap' (shiftL xs d) ∧ Below w.heap.size w w' := by
  have hm := hr.max
  have hle := hr.le
  have hfit := mkHid hr.fit
  have hm0 := World.ownsRow_made (base := w.heap.size) (e := 42) (size := 3) w #[] 0 (Nat.le_refl _) (by unfold maxLen; omega) rfl
  have hb0 := (Below.refl w.heap.size w).new (.cells #[] 42)
  go_enter Try.func29, Try.ntmps29
  go_wp2_with
    (at_builtin; refine wpList_app rfl _ _ 22 rfl w.heap.size 42 3 32 _ Try.underlying22 Try.infoCell rfl (by decide) (by decide) _ 0 [] rfl hm0 a xs.length cap (flat xs) rfl ((hr.below hb0).src) (by omega) (by simp) ?_; intro v w1 hown _ hb1')
  rw [Nat.zero_add, List.nil_append] at hown
  have hb1 := hb0.trans hb1'
  obtain ⟨g, cp, rfl, hg1, hg2, hg3, hg4⟩ := own_form hown h0
  go_loopw [6] (fun i wr => ∃ k : Nat, k ≤ xs.length ∧ i = .int .i64 k ∧ wr.ownsRow w.heap.size 42 3 (.slice (some ⟨g, 0, none⟩) xs.length cp) xs.length (flat (upTo (shiftC d) xs k)) ∧ Below w.heap.size w wr) (fun i wr => xs.length - (intOf i).toNat)
  case atStart => exact ⟨0, Nat.zero_le _, rfl, by rw [upTo_zero]; exact hown, hb1⟩
  case round =>
    clear hown
    obtain ⟨k, hk, rfl, hown, hbl⟩ := hrel
    have hgl := (hown.lt g rfl).2
    by_cases hlt : k < xs.length
    · 
      obtain ⟨o0, _, o2⟩ := own_cel hown (upTo_at _ _ hlt)
      have hbx := hbl
      have hox := hown
      have hfz := own_free hown (k * 3 + 2)
      by_cases h1 : xs[k].k = 1
      · have t1 : (xs[k].k == 1) = true := by simp [h1]
        have hs := own_store hown hlt (show shiftC d xs[k] = ⟨xs[k].k, xs[k].s, wrap64 (xs[k].n + d)⟩ from if_pos h1)
        have HS := mkHid hs
        have HB := mkHid (hbx.setCell (p := ⟨g, k * 3 + 2, none⟩) hg1 (.int .i64 (wrap64 (xs[k].n + d))))
        clear h1 hs
        go_wp2
        go_round
        case rel => exact ⟨k + 1, by omega, by go_num, HS.out, HB.out⟩
        case measure => simp [intOf]; omega
      · have t1 : (xs[k].k == 1) = false := by simp [h1]
        have HE := mkHid (upTo_same (shiftC d) xs hlt (if_neg h1))
        clear h1
        go_wp2
        go_round
        case rel => exact ⟨k + 1, by omega, by go_num, by rw [HE.out]; exact hox, hbx⟩
        case measure => simp [intOf]; omega
    · have hu := upTo_all (shiftC d) xs (k := k) (by omega)
      rw [hu] at hown
      have hml : (xs.map (shiftC d)).length = xs.length := by simp
      have hfm : ∀ c ∈ xs.map (shiftC d), c.fit := fun c hc => by
        obtain ⟨c', hc', rfl⟩ := List.mem_map.1 hc
        exact shiftC_fit (hfit.out c' hc')
      obtain ⟨a2, cap2, ev, hrow⟩ := own_new (xs := xs.map (shiftC d)) (by rw [hml]; exact hown) hfm
      rw [hml] at ev
      injection ev with ev1 _ ev2
      subst ev1
      subst ev2
      have hcall := refright_any (some ⟨g, 0, none⟩) cp wr (xs.map (shiftC d)) hrow.row
      rw [hml] at hcall
      have HC := mkHid hcall
      have HM := mkHid hml
      clear hcall hu hml
      cases hR : rightB (xs.map (shiftC d)) with
      | true =>
        have HZ : Hid (shiftL xs d = xs.map (shiftC d)) := if_pos hR
        have HR := mkHid hR
        clear hR
        go_wp2_with (go_at_call 32; refine HC.out.mono ?_; rintro e w2 ⟨rfl, hb2⟩; rw [HR.out])
        go_ret
        rw [HZ.out]
        exact ⟨some ⟨g, 0, none⟩, cp, by rw [HM.out]; rfl, hrow.below hb2, hbl.then hb2⟩
      | false =>
        have HZ : Hid (shiftL xs d = []) := if_neg (by rw [hR]; simp)
        have HR := mkHid hR
        clear hR
        go_wp2_with (go_at_call 32; refine HC.out.mono ?_; rintro e w2 ⟨rfl, hb2⟩; rw [HR.out])
        go_ret
        rw [HZ.out]
        exact ⟨none, 0, rfl, NewRow.empty _ _ _ _ (by omega) (fun _ => rfl), hbl.then hb2⟩
theorem row_bnd (w : World) {a : Option Addr} {cap : Nat} (n : Int) (t : List Cel) (hr : Row w a cap t) (h1 : -9223372036854775808 ≤ n) (h2 : n ≤ 9223372036854775807) : Row (w.alloc (.cells #[.int .i64 n, .slice a t.length cap] 39)) (some ⟨w.heap.size, 0, none⟩) 1 [(⟨n, t⟩ : Bnd)] := by
  have h := World.ownsRow_lit (base := w.heap.size) (e := 39) (size := 2) w #[.int .i64 n, .slice a t.length cap] 1 (Nat.le_refl _) (by unfold maxLen; omega) rfl
  obtain ⟨a2, c2, e, hrow⟩ := own_rowG (xs := [(⟨n, t⟩ : Bnd)]) h (CRows.single ⟨⟨a, cap, rfl, hr.below ((Below.refl _ _).new _)⟩, h1, h2⟩)
  cases e
  exact hrow
theorem right999 : rightB [varC 999] = true := right_of (isT_var (by omega) (by omega)) (by simp)
theorem apart_pos {acc : List Bnd} {P : List Cel} (rP : rightB P = true) (P0 : 0 < P.length) (hT : ∀ b ∈ acc, rightB b.t = true) : 0 < (putL (look acc) P).length := by
  rw [put_lookF acc P (right_cells rP)]
  have := put_len (F := lookF acc) P fun c _ _ => (lookF_isT (fun x hx => (isT_of_right (hT x hx)).1) _).ne
  omega
theorem apart_law {acc : List Bnd} {P S : List Cel} (rP : rightB P = true) (low : ∀ c ∈ P, c.k = 1 → c.n < 200) (hT : ∀ b ∈ acc, rightB b.t = true) (eS : S = shiftL (apL acc P) 200) (hne : S ≠ []) :
    rightB S = true ∧ ∃ B Y, mguL P S = some (some B) ∧ (∀ x ∈ B, x.t.length ≤ 200) ∧ apL B P = Y ∧ apL B S = Y ∧ apB B P = true ∧ apB B S = true ∧ Y.length ≤ 200 ∧ 0 < Y.length ∧ numL Y = numL S := by
  obtain ⟨rS, G, g1, g2, g3⟩ := apart_made rP low hT eS hne
  obtain ⟨B, b1, b2, b3, b4, b5, b6⟩ := apart_told rP rS g1 g2 g3
  have h1 : apB B S = true := by unfold apB; simp; omega
  have h2 : apB B P = true := by unfold apB; rw [b3]; simp; omega
  exact ⟨rS, B, putL (look B) S, b1, b2, by rw [apL_yes h2, b3], apL_yes h1, h2, h1, b4, b5, b6⟩
theorem shift_right {x y : List Cel} {d : Int} (e : shiftL x d = y) (h : 0 < y.length) : rightB y = true := by
  unfold shiftL at e
  split at e
  · next hr => rw [← e]; exact hr
  · rw [← e] at h; cases h

set_option maxRecDepth 100000 in
set_option maxHeartbeats 16000000 in
theorem lawApart_any (w : World) (xs : List Cel) (zs : List (List Cel)) (a : Option Addr) (cap : Nat) (az : Option Addr) (cz : Nat) (hx : Row w a cap xs) (hz : Row w az cz zs) :
    Calls Try.prog 10 #[.slice a xs.length cap, .slice az zs.length cz] w fun e w' => e = .returned (.bool true) ∧ Below w.heap.size w w' := by
  have hzm := hz.max
  have hzl := hz.le
  have HX := mkHid hx
  have HZ := mkHid hz
  clear hx hz
  go_enter Try.func10, Try.ntmps10
  go_wp2_with fail
  refine (head_any _).mono ?_
  rintro e w1 ⟨rfl, hb1⟩
  go_wp2_with fail
  refine (umade (HX.out.below hb1) (by omega) (by omega)).mono ?_
  rintro e w2 ⟨a2, c2, p, rfl, hp, rp, p0, lp, hb2⟩
  have hb02 := hb1.then hb2
  obtain ⟨P, hP⟩ : ∃ P, numL p = P := ⟨_, rfl⟩
  have hPl : P.length = p.length := by rw [← hP]; unfold numL; rw [List.length_map]
  have P0 : 0 < P.length := by omega
  have Pl : (P.length : Int) ≤ 30 := by omega
  have HRP : Hid (rightB P = true) := by rw [Hid, ← hP]; exact right_num rp
  have hlow := num_low (xs := p) (by omega)
  rw [hP] at hlow
  have HLOW : Hid (∀ c ∈ P, c.k = 1 → c.n < 200) := fun c hc hk => by have := hlow c hc hk; omega
  have HVAR : Hid (mguL [varC 999] P = some (some [⟨999, P⟩])) := apart_var HRP.out fun c hc hk => by have := hlow c hc hk; omega
  have HPN := mkHid hP
  clear hPl hlow hP rp
  go_wp2_with fail
  refine (unumber hp (by omega) p0 HPN.out).mono ?_
  rintro e w3 ⟨a3, c3, rfl, hq, hb3⟩
  have hb03 := hb02.then hb3
  have HP := mkHid hq
  have HZ3 := mkHid (HZ.out.below hb03)
  have HACC0 : Hid (AccInv w3.heap.size 39 ([] : List Bnd) (.slice (some ⟨w3.heap.size, 0, none⟩) 0 0) (w3.alloc (.cells #[] 39))) := AccInv.made w3 (Nat.le_refl _) rfl
  have hb30 := (Below.refl w3.heap.size w3).new (.cells #[] 39)
  clear hp hq lp p0
  go_wp2_with fail
  go_loopw [6, 7, 8] (fun t i x wr => ∃ (k : Nat) (acc : List Bnd), k ≤ 6 ∧ acc.length ≤ k ∧ i = .int .i64 k ∧ Hid (AccInv w3.heap.size 39 acc t wr) ∧ Hid (∀ b ∈ acc, rightB b.t = true) ∧ Below w3.heap.size w3 wr) (fun t i x wr => 6 - (intOf i).toNat)
  case atStart => exact ⟨0, [], by omega, by simp, rfl, HACC0, by simp [Hid], hb30⟩
  case round =>
    clear HACC0 hb30
    obtain ⟨k, acc, hk, hak, rfl, HA, HT, hbl⟩ := hrel
    by_cases hlt : k < zs.length
    · by_cases h6 : k < 6
      · obtain ⟨bz, oz, rfl, _, hatz⟩ := HZ3.out.cases.resolve_left (fun e => by simp [e] at hlt)
        obtain ⟨a1, cap1, k0, hr3⟩ := list_at hatz (Below.refl _ _) hlt
        have k0' := keep k0 hbl
        have HR3 := mkHid hr3
        have hk0 : (0 : Int) ≤ (k : Int) := by omega
        have hk1 : (k : Int) < (zs.length : Int) := by omega
        clear k0 hr3
        go_wp2_with fail
        refine (umade (HR3.out.below hbl) (by omega) (by omega)).mono ?_
        rintro e w4 ⟨a4, c4, x, rfl, hx4, rx, x0, lx, hb4⟩
        obtain ⟨y, hy⟩ : ∃ y, shiftL x 100 = y := ⟨_, rfl⟩
        have HSR := mkHid (fun h => shift_right hy h)
        have hcall := refshift_new a4 c4 100 w4 x hx4 (by omega) x0
        rw [hy] at hcall
        have HC := mkHid hcall
        clear k0' hx4 rx hy hcall
        go_wp2_with fail
        refine HC.out.mono ?_
        rintro e w5 ⟨a5, c5, rfl, hx5, hb5⟩
        have hb45 := hb4.then hb5
        have HRH := mkHid (HA.out.newer hb4.size hx5)
        have HA4 := mkHid (HA.out.below hb45)
        have hbl4 := hbl.then hb45
        have hs4 := hbl4.size
        clear hx5
        by_cases hy0 : 0 < y.length
        · have t42 : decide (0 < (y.length : Int)) = true := decide_eq_true (by omega)
          have HYR := mkHid (HSR.out hy0)
          have hyl := (isT_of_right HYR.out).2.1
          go_wp2_with (at_builtin; refine wpList_acc (α := Bnd) rfl _ _ 25 rfl w3.heap.size 39 32 _ Try.underlying25 Try.infoBind rfl (by decide) _ acc HA4.out rfl _ #[.int .i64 k, .slice a5 y.length c5] (⟨k, y⟩ : Bnd) ⟨⟨_, _, rfl, HRH.out⟩, by show _ ≤ (k : Int); omega, by show (k : Int) ≤ _; omega⟩ rfl (by omega) hs4 ?_; intro v' w6 hacc6 hb6)
          go_round
          case rel =>
            refine ⟨k + 1, acc ++ [⟨(k : Int), y⟩], by omega, by simp; omega, by go_num, mkHid hacc6, fun b hb => ?_, hbl4.trans hb6⟩
            rcases List.mem_append.1 hb with h | h
            · exact HT.out b h
            · rw [List.mem_singleton.1 h]; exact HYR.out
          case measure => simp [intOf]; omega
        · have t42 : decide (0 < (y.length : Int)) = false := decide_eq_false (by omega)
          go_wp2_with fail
          go_round
          case rel => exact ⟨k + 1, acc, by omega, by omega, by go_num, HA4, HT, hbl4⟩
          case measure => simp [intOf]; omega
      · obtain ⟨at8, ct8, et8, hxT⟩ := HA.out.row
        subst et8
        have HXT := mkHid hxT
        clear hxT
        have HT2 : Hid (∀ b ∈ acc, b.t.length ≤ 200) := fun b hb => (isT_of_right (HT.out b hb)).2.1
        have hb3r := mkHid hbl
        have hrb := mkHid (hb03.then hbl)
        obtain ⟨R, hR⟩ : ∃ R, apL acc P = R := ⟨_, rfl⟩
        obtain ⟨bp, hbp⟩ : ∃ b, apB acc P = b := ⟨_, rfl⟩
        have HRR := mkHid hR
        have HBP := mkHid hbp
        clear hbl
        cases bp with
        | false =>
          clear hR hbp
          go_wp2_with fail
          refine (uapply HXT.out (HP.out.below hb3r.out) HT2.out (by omega) HRR.out HBP.out).mono ?_
          rintro e w5 ⟨a5, c5, rfl, hx5, hb5⟩
          have hrb5 := mkHid (hrb.out.then hb5)
          clear hx5
          go_wp2_with fail
          go_ret
          exact ⟨rfl, hrb5.out⟩
        | true =>
        have hRl : R.length ≤ 200 ∧ 0 < R.length := by
          have h1 := hbp
          unfold apB at h1
          rw [apL_yes hbp] at hR
          rw [hR] at h1
          have h2 := apart_pos HRP.out P0 HT.out
          rw [hR] at h2
          simp at h1
          exact ⟨by omega, h2⟩
        obtain ⟨hRl, hR0⟩ := hRl
        obtain ⟨S, hS⟩ : ∃ S, shiftL R 200 = S := ⟨_, rfl⟩
        have HSS := mkHid hS
        have HLAW := mkHid (fun hne : S ≠ [] => apart_law HRP.out HLOW.out HT.out (by rw [hR, hS]) hne)
        clear hR hbp hS
        go_wp2_with fail
        refine (uapply HXT.out (HP.out.below hb3r.out) HT2.out (by omega) HRR.out HBP.out).mono ?_
        rintro e w5 ⟨a5, c5, rfl, hx5, hb5⟩
        have HX5 := mkHid hx5
        have hrb5 := mkHid (hrb.out.then hb5)
        have hb35 := mkHid (hb3r.out.then hb5)
        clear hx5
        go_wp2_with fail
        refine (ushift HX5.out hRl hR0 HSS.out).mono ?_
        rintro e w6 ⟨a6, c6, rfl, hx6, hb6⟩
        have HX6 := mkHid hx6
        have hrb6 := mkHid (hrb5.out.then hb6)
        have hb36 := mkHid (hb35.out.then hb6)
        clear hx6
        by_cases hS0 : S.length = 0
        · have t62 : decide ((S.length : Int) = 0) = true := decide_eq_true (by omega)
          have t62' : ((S.length : Int) == 0) = true := by simp; exact List.eq_nil_of_length_eq_zero hS0
          have HZ : Hid (S = []) := List.eq_nil_of_length_eq_zero hS0
          clear hS0
          go_wp2_with fail
          go_ret
          exact ⟨rfl, hrb6.out⟩
        · have hSp : 0 < S.length := by omega
          have t62' : ((S.length : Int) == 0) = false := by
            rw [beq_eq_false_iff_ne]; omega
          obtain ⟨hSr, B, Y, hm, hBt, hY1, hY2, hB1, hB2, hYl, hY0, hYn⟩ := HLAW.out (by intro e; rw [e] at hSp; exact absurd hSp (by simp))
          have hSl := (isT_of_right hSr).2.1
          have HSR := mkHid hSr
          have H1 : Hid (ansL (mguL P S) = B) := by rw [Hid, hm]; rfl
          have H2 : Hid (ansE (mguL P S) = 0) := by rw [Hid, hm]; rfl
          have HBT := mkHid hBt
          have HY1 := mkHid hY1
          have HY2 := mkHid hY2
          have HB1 := mkHid hB1
          have HB2 := mkHid hB2
          have HYN : Hid (decide (numL Y = numL S) = true) := decide_eq_true hYn
          clear hS0 hSr hm hBt hY1 hY2 hB1 hB2 hYn
          go_wp2_with fail
          refine (umgu (HP.out.below hb36.out) HX6.out HRP.out HSR.out H1.out H2.out).mono ?_
          rintro e w7 ⟨a7, c7, rfl, hx7, hb7⟩
          have HX7 := mkHid hx7
          have hrb7 := mkHid (hrb6.out.then hb7)
          have hb37 := mkHid (hb36.out.then hb7)
          clear hx7
          go_wp2_with fail
          refine (uapply HX7.out (HP.out.below hb37.out) HBT.out (by omega) HY1.out HB1.out).mono ?_
          rintro e w8 ⟨a8, c8, rfl, hx8, hb8⟩
          have HX8 := mkHid hx8
          have hrb8 := mkHid (hrb7.out.then hb8)
          have hb38 := mkHid (hb37.out.then hb8)
          have hb68 := mkHid (hb7.then hb8)
          clear hx8
          go_wp2_with fail
          refine (uapply (HX7.out.below hb8) (HX6.out.below hb68.out) HBT.out hSl HY2.out HB2.out).mono ?_
          rintro e w9 ⟨a9, c9, rfl, hx9, hb9⟩
          have hrb9 := mkHid (hrb8.out.then hb9)
          have hb39 := mkHid (hb38.out.then hb9)
          have hb69 := mkHid (hb68.out.then hb9)
          have HX9 := mkHid hx9
          have HX89 := mkHid (HX8.out.below hb9)
          clear hx9
          go_wp2_with fail
          refine (v3_any 999 _).mono ?_
          rintro e w10 ⟨rfl, hb10⟩
          have hn10 := (Below.refl w10.heap.size w10).new (.cells #[.int .i64 1, .string ⟨#[]⟩, .int .i64 999] 42)
          have hb911 := mkHid (hb10.new (.cells #[.int .i64 1, .string ⟨#[]⟩, .int .i64 999] 42))
          have HRV := mkHid (row_one w10 (varC 999) ⟨by show _ ≤ (1 : Int); omega, by show (1 : Int) ≤ _; omega, by show _ ≤ (999 : Int); omega, by show (999 : Int) ≤ _; omega, by show (0 : Nat) ≤ _; omega⟩)
          have H3 : Hid (ansL (mguL [varC 999] P) = [⟨999, P⟩]) := by rw [Hid, HVAR.out]; rfl
          have H4 : Hid (ansE (mguL [varC 999] P) = 0) := by rw [Hid, HVAR.out]; rfl
          clear hn10
          go_wp2_with fail
          refine (umgu (xs := [varC 999]) HRV.out ((HP.out.below hb39.out).below hb911.out) right999 HRP.out H3.out H4.out).mono ?_
          rintro e w12 ⟨a12, c12, rfl, hx12, hb12⟩
          have hb912 := mkHid (hb911.out.then hb12)
          have hrb12 := mkHid (hrb9.out.then hb912.out)
          have HX12 := mkHid hx12
          have HX912 := mkHid (HX9.out.below hb912.out)
          have HX812 := mkHid (HX89.out.below hb912.out)
          have HX612 := mkHid ((HX6.out.below hb69.out).below hb912.out)
          have HP12 := mkHid ((HP.out.below hb39.out).below hb912.out)
          clear hx12
          go_wp2_with fail
          refine (usame1 (b := true) HX812.out HX912.out (by simp)).mono ?_
          rintro e w13 ⟨rfl, hb13⟩
          have hrb13 := mkHid (hrb12.out.then hb13)
          go_wp2_with fail
          refine (uvariant (HX912.out.below hb13) (HX612.out.below hb13) hY0 hSp hYl hSl HYN.out).mono ?_
          rintro e w14 ⟨rfl, hb14⟩
          have hrb14 := mkHid (hrb13.out.then hb14)
          have hb1214 := mkHid (hb13.then hb14)
          have HP14 := mkHid (HP12.out.below hb1214.out)
          have HX14 := mkHid (HX12.out.below hb1214.out)
          obtain ⟨bx, ox, rfl, _, hatx⟩ := HP14.out.cases.resolve_left (fun e => by simp [e] at P0)
          obtain ⟨m0, m1, m2, hmf⟩ := cel_at hatx (Below.refl _ _) P0
          simp only [Nat.zero_mul, Nat.add_zero] at m0 m1 m2
          have P0i : (0 : Int) < (P.length : Int) := by omega
          clear hmf
          by_cases hk : P[0].k = 1
          · have t119 : (P[0].k == 1) = true := by simp [hk]
            have HNR := mkHid (row_bnd w14 999 P HP14.out (by omega) (by omega))
            have hn14 := (Below.refl w14.heap.size w14).new (.cells #[.int .i64 999, .slice (some ⟨bx, ox, none⟩) P.length c3] 39)
            have HX15 := mkHid (HX14.out.below hn14)
            have hrb15 := mkHid (hrb14.out.then hn14)
            clear hk hn14
            go_wp2_with fail
            refine (usame3 (b := true) (xs := [⟨999, P⟩]) (ys := [⟨999, P⟩]) HX15.out HNR.out (by simp)).mono ?_
            rintro e w16 ⟨rfl, hb16⟩
            have hrb16 := mkHid (hrb15.out.then hb16)
            go_wp2_with fail
            go_ret
            exact ⟨rfl, hrb16.out⟩
          · have t119 : (P[0].k == 1) = false := by simp [hk]
            obtain ⟨bz, oz, rfl, _, hatz⟩ := HX14.out.cases.resolve_left (fun e => by simp at e)
            obtain ⟨a1, cap1, d0, d1, hr1, _, _⟩ := bnd_at hatz (Below.refl _ _) (k := 0) (by simp)
            simp only [List.getElem_cons_zero, Nat.zero_mul, Nat.add_zero] at d0 d1 hr1
            have HR1 := mkHid hr1
            clear hk hr1
            go_wp2_with fail
            refine (usame1 (b := true) HR1.out HP14.out (by simp)).mono ?_
            rintro e w16 ⟨rfl, hb16⟩
            have hrb16 := mkHid (hrb14.out.then hb16)
            go_wp2_with fail
            go_ret
            exact ⟨rfl, hrb16.out⟩
    · obtain ⟨at8, ct8, et8, hxT⟩ := HA.out.row
      subst et8
      have HXT := mkHid hxT
      clear hxT
      have HT2 : Hid (∀ b ∈ acc, b.t.length ≤ 200) := fun b hb => (isT_of_right (HT.out b hb)).2.1
      have hb3r := mkHid hbl
      have hrb := mkHid (hb03.then hbl)
      obtain ⟨R, hR⟩ : ∃ R, apL acc P = R := ⟨_, rfl⟩
      obtain ⟨bp, hbp⟩ : ∃ b, apB acc P = b := ⟨_, rfl⟩
      have HRR := mkHid hR
      have HBP := mkHid hbp
      clear hbl
      cases bp with
      | false =>
        clear hR hbp
        go_wp2_with fail
        refine (uapply HXT.out (HP.out.below hb3r.out) HT2.out (by omega) HRR.out HBP.out).mono ?_
        rintro e w5 ⟨a5, c5, rfl, hx5, hb5⟩
        have hrb5 := mkHid (hrb.out.then hb5)
        clear hx5
        go_wp2_with fail
        go_ret
        exact ⟨rfl, hrb5.out⟩
      | true =>
      have hRl : R.length ≤ 200 ∧ 0 < R.length := by
        have h1 := hbp
        unfold apB at h1
        rw [apL_yes hbp] at hR
        rw [hR] at h1
        have h2 := apart_pos HRP.out P0 HT.out
        rw [hR] at h2
        simp at h1
        exact ⟨by omega, h2⟩
      obtain ⟨hRl, hR0⟩ := hRl
      obtain ⟨S, hS⟩ : ∃ S, shiftL R 200 = S := ⟨_, rfl⟩
      have HSS := mkHid hS
      have HLAW := mkHid (fun hne : S ≠ [] => apart_law HRP.out HLOW.out HT.out (by rw [hR, hS]) hne)
      clear hR hbp hS
      go_wp2_with fail
      refine (uapply HXT.out (HP.out.below hb3r.out) HT2.out (by omega) HRR.out HBP.out).mono ?_
      rintro e w5 ⟨a5, c5, rfl, hx5, hb5⟩
      have HX5 := mkHid hx5
      have hrb5 := mkHid (hrb.out.then hb5)
      have hb35 := mkHid (hb3r.out.then hb5)
      clear hx5
      go_wp2_with fail
      refine (ushift HX5.out hRl hR0 HSS.out).mono ?_
      rintro e w6 ⟨a6, c6, rfl, hx6, hb6⟩
      have HX6 := mkHid hx6
      have hrb6 := mkHid (hrb5.out.then hb6)
      have hb36 := mkHid (hb35.out.then hb6)
      clear hx6
      by_cases hS0 : S.length = 0
      · have t62 : decide ((S.length : Int) = 0) = true := decide_eq_true (by omega)
        have t62' : ((S.length : Int) == 0) = true := by simp; exact List.eq_nil_of_length_eq_zero hS0
        have HZ : Hid (S = []) := List.eq_nil_of_length_eq_zero hS0
        clear hS0
        go_wp2_with fail
        go_ret
        exact ⟨rfl, hrb6.out⟩
      · have hSp : 0 < S.length := by omega
        have t62' : ((S.length : Int) == 0) = false := by
          rw [beq_eq_false_iff_ne]; omega
        obtain ⟨hSr, B, Y, hm, hBt, hY1, hY2, hB1, hB2, hYl, hY0, hYn⟩ := HLAW.out (by intro e; rw [e] at hSp; exact absurd hSp (by simp))
        have hSl := (isT_of_right hSr).2.1
        have HSR := mkHid hSr
        have H1 : Hid (ansL (mguL P S) = B) := by rw [Hid, hm]; rfl
        have H2 : Hid (ansE (mguL P S) = 0) := by rw [Hid, hm]; rfl
        have HBT := mkHid hBt
        have HY1 := mkHid hY1
        have HY2 := mkHid hY2
        have HB1 := mkHid hB1
        have HB2 := mkHid hB2
        have HYN : Hid (decide (numL Y = numL S) = true) := decide_eq_true hYn
        clear hS0 hSr hm hBt hY1 hY2 hB1 hB2 hYn
        go_wp2_with fail
        refine (umgu (HP.out.below hb36.out) HX6.out HRP.out HSR.out H1.out H2.out).mono ?_
        rintro e w7 ⟨a7, c7, rfl, hx7, hb7⟩
        have HX7 := mkHid hx7
        have hrb7 := mkHid (hrb6.out.then hb7)
        have hb37 := mkHid (hb36.out.then hb7)
        clear hx7
        go_wp2_with fail
        refine (uapply HX7.out (HP.out.below hb37.out) HBT.out (by omega) HY1.out HB1.out).mono ?_
        rintro e w8 ⟨a8, c8, rfl, hx8, hb8⟩
        have HX8 := mkHid hx8
        have hrb8 := mkHid (hrb7.out.then hb8)
        have hb38 := mkHid (hb37.out.then hb8)
        have hb68 := mkHid (hb7.then hb8)
        clear hx8
        go_wp2_with fail
        refine (uapply (HX7.out.below hb8) (HX6.out.below hb68.out) HBT.out hSl HY2.out HB2.out).mono ?_
        rintro e w9 ⟨a9, c9, rfl, hx9, hb9⟩
        have hrb9 := mkHid (hrb8.out.then hb9)
        have hb39 := mkHid (hb38.out.then hb9)
        have hb69 := mkHid (hb68.out.then hb9)
        have HX9 := mkHid hx9
        have HX89 := mkHid (HX8.out.below hb9)
        clear hx9
        go_wp2_with fail
        refine (v3_any 999 _).mono ?_
        rintro e w10 ⟨rfl, hb10⟩
        have hn10 := (Below.refl w10.heap.size w10).new (.cells #[.int .i64 1, .string ⟨#[]⟩, .int .i64 999] 42)
        have hb911 := mkHid (hb10.new (.cells #[.int .i64 1, .string ⟨#[]⟩, .int .i64 999] 42))
        have HRV := mkHid (row_one w10 (varC 999) ⟨by show _ ≤ (1 : Int); omega, by show (1 : Int) ≤ _; omega, by show _ ≤ (999 : Int); omega, by show (999 : Int) ≤ _; omega, by show (0 : Nat) ≤ _; omega⟩)
        have H3 : Hid (ansL (mguL [varC 999] P) = [⟨999, P⟩]) := by rw [Hid, HVAR.out]; rfl
        have H4 : Hid (ansE (mguL [varC 999] P) = 0) := by rw [Hid, HVAR.out]; rfl
        clear hn10
        go_wp2_with fail
        refine (umgu (xs := [varC 999]) HRV.out ((HP.out.below hb39.out).below hb911.out) right999 HRP.out H3.out H4.out).mono ?_
        rintro e w12 ⟨a12, c12, rfl, hx12, hb12⟩
        have hb912 := mkHid (hb911.out.then hb12)
        have hrb12 := mkHid (hrb9.out.then hb912.out)
        have HX12 := mkHid hx12
        have HX912 := mkHid (HX9.out.below hb912.out)
        have HX812 := mkHid (HX89.out.below hb912.out)
        have HX612 := mkHid ((HX6.out.below hb69.out).below hb912.out)
        have HP12 := mkHid ((HP.out.below hb39.out).below hb912.out)
        clear hx12
        go_wp2_with fail
        refine (usame1 (b := true) HX812.out HX912.out (by simp)).mono ?_
        rintro e w13 ⟨rfl, hb13⟩
        have hrb13 := mkHid (hrb12.out.then hb13)
        go_wp2_with fail
        refine (uvariant (HX912.out.below hb13) (HX612.out.below hb13) hY0 hSp hYl hSl HYN.out).mono ?_
        rintro e w14 ⟨rfl, hb14⟩
        have hrb14 := mkHid (hrb13.out.then hb14)
        have hb1214 := mkHid (hb13.then hb14)
        have HP14 := mkHid (HP12.out.below hb1214.out)
        have HX14 := mkHid (HX12.out.below hb1214.out)
        obtain ⟨bx, ox, rfl, _, hatx⟩ := HP14.out.cases.resolve_left (fun e => by simp [e] at P0)
        obtain ⟨m0, m1, m2, hmf⟩ := cel_at hatx (Below.refl _ _) P0
        simp only [Nat.zero_mul, Nat.add_zero] at m0 m1 m2
        have P0i : (0 : Int) < (P.length : Int) := by omega
        clear hmf
        by_cases hk : P[0].k = 1
        · have t119 : (P[0].k == 1) = true := by simp [hk]
          have HNR := mkHid (row_bnd w14 999 P HP14.out (by omega) (by omega))
          have hn14 := (Below.refl w14.heap.size w14).new (.cells #[.int .i64 999, .slice (some ⟨bx, ox, none⟩) P.length c3] 39)
          have HX15 := mkHid (HX14.out.below hn14)
          have hrb15 := mkHid (hrb14.out.then hn14)
          clear hk hn14
          go_wp2_with fail
          refine (usame3 (b := true) (xs := [⟨999, P⟩]) (ys := [⟨999, P⟩]) HX15.out HNR.out (by simp)).mono ?_
          rintro e w16 ⟨rfl, hb16⟩
          have hrb16 := mkHid (hrb15.out.then hb16)
          go_wp2_with fail
          go_ret
          exact ⟨rfl, hrb16.out⟩
        · have t119 : (P[0].k == 1) = false := by simp [hk]
          obtain ⟨bz, oz, rfl, _, hatz⟩ := HX14.out.cases.resolve_left (fun e => by simp at e)
          obtain ⟨a1, cap1, d0, d1, hr1, _, _⟩ := bnd_at hatz (Below.refl _ _) (k := 0) (by simp)
          simp only [List.getElem_cons_zero, Nat.zero_mul, Nat.add_zero] at d0 d1 hr1
          have HR1 := mkHid hr1
          clear hk hr1
          go_wp2_with fail
          refine (usame1 (b := true) HR1.out HP14.out (by simp)).mono ?_
          rintro e w16 ⟨rfl, hb16⟩
          have hrb16 := mkHid (hrb14.out.then hb16)
          go_wp2_with fail
          go_ret
          exact ⟨rfl, hrb16.out⟩
end Go.Proofs.Ytlddglajdcednaa
namespace Go.Proofs.Ytlddglajdcednaa
open Go.RowKit Go.ChangeShapes Go.WideShapes Go.ChangeAt
open Go.ChangeMaps (open_string)

set_option maxRecDepth 100000 in
set_option maxHeartbeats 1000000 in
theorem UnifyApart_lifted (os : Os) (started : os.Started) (H : Type) (enc : TypeId × Value → H) :
    ReturnsInHanded {} Try.checked os 10 .any (Rows.unifyApartSpec.pre6 enc Try.prog Try.f10 Rows.unifyApartRow.domain false) (Rows.unifyApartSpec.post enc Try.prog Try.f10 false true false false) := by
  refine returnsInHanded_of_change (C := Try.checked) Try.own started (by kernel_rfl) Try.func10
    (ChangeSpec.witness6 (enc := enc) (C := Try.checked) false ⟨#[], #[.slice none 0 0, .slice none 0 0], []⟩ 8 (by kernel_rfl) (by kernel_rfl) (by kernel_rfl) (by kernel_rfl)) ?_
  intro W base args ds gs before hval0 hW hcnd _
  have hval : ∀ (j : Nat) t v, Try.f10.params[j]? = some t → args[j]? = some v → Value.okWide Try.prog W .any base t v := hval0
  have hW' := hW
  obtain ⟨p, q, hA0, hV, rfl, hfz, hnd⟩ := hW
  have hA : DataW.TrodAll enc Try.prog W 0 (fun _ => true) true Try.f10.params.toList args.toList ds p := hA0
  rw [Try.params10] at hA hval
  obtain ⟨v0, vs0, d0, ds0, p0, q0, hargs, rfl, rfl, h0, r0⟩ := trodAll_cons hA
  obtain ⟨v1, vs1, d1, ds1, p1, q1, rfl, rfl, rfl, h1, r1⟩ := trodAll_cons r0
  obtain ⟨rfl, rfl, rfl⟩ := trodAll_nil r1
  obtain rfl : args = #[v0, v1] := by cases args; simp_all
  obtain ⟨rfl, rfl⟩ := trodVars_none hV
  have k0 := h0
  have lt0 : ∀ x ∈ p0, x.block < W.heap.size := by obtain ⟨m, hm⟩ := k0; exact DataW.trod_lt m _ _ _ hm
  obtain ⟨a0, len0, cap0, rfl⟩ := okWide_slice Try.underlying22 (hval 0 22 v0 rfl rfl)
  obtain ⟨xs0, rfl, hr0⟩ : ∃ xs : List Cel, xs.length = len0 ∧ Row W a0 cap0 xs := by
    obtain ⟨fuel, hf⟩ := h0
    exact open_cells hf
  have k1 := h1
  have lt1 : ∀ x ∈ p1, x.block < W.heap.size := by obtain ⟨m, hm⟩ := k1; exact DataW.trod_lt m _ _ _ hm
  obtain ⟨a1, len1, cap1, rfl⟩ := okWide_slice Try.underlying40 (hval 1 40 v1 rfl rfl)
  obtain ⟨xs1, rfl, hr1⟩ : ∃ xs : List (List Cel), xs.length = len1 ∧ Row W a1 cap1 xs := by
    obtain ⟨fuel, hf⟩ := h1
    exact open_cellss hf
  clear hA0 hval0
  refine (lawApart_any W xs0 xs1 a0 cap0 a1 cap1 hr0 hr1).mono fun e W' ⟨he, bel⟩ => ?_
  subst he
  exact ⟨_, rfl, _, _, _, [], _, [], hW', trodAll_mk1 (shut_bool Try.underlying4 _), (trodAll_cons_mk (Below.trod Try.laidOut (by kernel_rfl) (of_decide_eq_true (by kernel_rfl)) k0 bel lt0) (trodAll_cons_mk (Below.trod Try.laidOut (by kernel_rfl) (of_decide_eq_true (by kernel_rfl)) k1 bel lt1) trodAll_mk0)), rfl, bel.frame _, fun h => by cases h⟩

theorem UnifyApart_over : Rows.unifyApartRow.holds Try.pinned (OpenSpec.ofChange Rows.unifyApartSpec) :=
  OpenClaim.holds_of_wide 10 Try.f10 rfl rfl rfl rfl rfl rfl rfl ⟨rfl, rfl, rfl, rfl, rfl⟩ rfl rfl rfl rfl rfl (by kernel_rfl) Try.func10 (by kernel_rfl)
    (of_decide_eq_true (by kernel_rfl)) (by unfold Func.isWrapper; first | (rw [if_pos (by decide +kernel)]; kernel_rfl) | (rw [if_neg (by decide +kernel)]; exact ⟨rfl, rfl⟩))
    (fun os started H enc _ => UnifyApart_lifted os started H enc)

theorem UnifyApart_holds : Rows.UnifyApartSaid := UnifyApart_over
end Go.Proofs.Ytlddglajdcednaa
