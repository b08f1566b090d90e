/-
  Of layer 3 of sorrel: whatever arguments come in, the law UnifyMost returns true, and what was handed in reads as it did: the theorem of the most general: whatever bindings make two terms the same, Mgu tells some, or is too big; and with its own put in first they make the same of each variable as by themselves. No condition.
-/
import Derived.Test.YtlddglajdcednaaZr10
namespace Go.Proofs.Ytlddglajdcednaa
open Go.RowKit

theorem MadeAt.beside {α : Type} [RepC α] {e : Nat} {acc : List α} {v : Value} {w3 wr w4 : World} {a a' : Option Addr} {cap cap' : Nat} {xs ys : List Cel} (h : MadeAt wr a cap xs w4 a' cap' ys) (hr : Row w3 a cap xs) (hA : AccInv w3.heap.size e acc v wr) (hb : Below w3.heap.size w3 wr) (hb4 : Below wr.heap.size wr w4) : Row (hide v.ownBlock w4) a' cap' ys := by
  rcases h with ⟨rfl, rfl, rfl⟩ | h
  · exact hr.keeps ((hA.below hb4).fresh (hb.then hb4))
  · exact hA.newer (Nat.le_refl _) h
set_option maxRecDepth 100000 in
set_option maxHeartbeats 16000000 in
theorem lawMost_any (w : World) (xs ys : List Cel) (zs : List (List Cel)) (a : Option Addr) (cap : Nat) (a' : Option Addr) (cap' : Nat) (az : Option Addr) (cz : Nat) (hx : Row w a cap xs) (hy : Row w a' cap' ys) (hz : Row w az cz zs) :
    Calls Try.prog 5 #[.slice a xs.length cap, .slice a' ys.length cap', .slice az zs.length cz] w fun e w' => e = .returned (.bool true) ∧ Below w.heap.size w w' := by
  have hzm := hz.max
  have hzl := hz.le
  have HX := mkHid hx
  have HY := mkHid hy
  have HZ := mkHid hz
  clear hx hy hz
  go_enter Try.func5, Try.ntmps5
  go_wp2_with fail
  refine (head_any _).mono ?_
  rintro e w1 ⟨rfl, hb1⟩
  go_wp2_with fail
  refine (umade (HX.out.below hb1) (by omega) (by omega)).mono ?_
  rintro e w2 ⟨a2, c2, p, rfl, hp, rp, p0, lp, hb2⟩
  have hb02 := hb1.then hb2
  go_wp2_with fail
  refine (umade (HY.out.below hb02) (by omega) (by omega)).mono ?_
  rintro e w3 ⟨a3, c3, q, rfl, hq, rq, q0, lq, hb3⟩
  have hb03 := hb02.then hb3
  have HP := mkHid (hp.below hb3)
  have HQ := mkHid hq
  have HRP := mkHid rp
  have HRQ := mkHid rq
  have HZ3 := mkHid (HZ.out.below hb03)
  have HACC0 : Hid (AccInv w3.heap.size 39 ([] : List Bnd) (.slice (some ⟨w3.heap.size, 0, none⟩) 0 0) (w3.alloc (.cells #[] 39))) := AccInv.made w3 (Nat.le_refl _) rfl
  have hb30 := (Below.refl w3.heap.size w3).new (.cells #[] 39)
  clear hp hq rp rq
  go_wp2_with fail
  go_loopw [8, 9, 10] (fun t i x wr => ∃ (k : Nat) (acc : List Bnd), k ≤ 6 ∧ acc.length ≤ k ∧ i = .int .i64 k ∧ Hid (AccInv w3.heap.size 39 acc t wr) ∧ Hid (∀ b ∈ acc, rightB b.t = true ∧ b.t.length ≤ 6) ∧ Below w3.heap.size w3 wr) (fun t i x wr => 6 - (intOf i).toNat)
  case atStart => exact ⟨0, [], by omega, by simp, rfl, HACC0, by simp [Hid], hb30⟩
  case round =>
    clear HACC0 hb30
    obtain ⟨k, acc, hk, hak, rfl, HA, HT, hbl⟩ := hrel
    by_cases hlt : k < zs.length
    · by_cases h6 : k < 6
      · obtain ⟨bz, oz, rfl, _, hatz⟩ := HZ3.out.cases.resolve_left (fun e => by simp [e] at hlt)
        obtain ⟨a1, cap1, k0, hr3⟩ := list_at hatz (Below.refl _ _) hlt
        have k0' := keep k0 hbl
        have HR3 := mkHid hr3
        have hk0 : (0 : Int) ≤ (k : Int) := by omega
        have hk1 : (k : Int) < (zs.length : Int) := by omega
        clear k0 hr3
        go_wp2_with fail
        refine (umadeW (HR3.out.below hbl) (by omega) (by omega)).mono ?_
        rintro e w4 ⟨a4, c4, x, rfl, hx4, rx, x0, lx, hb4⟩
        have hrow4 := hx4.row (HR3.out.below hbl) hb4
        have HRH := mkHid (hx4.beside HR3.out HA.out hbl hb4)
        clear hx4
        obtain ⟨bx, ox, rfl, _, hatx⟩ := hrow4.cases.resolve_left (fun e => by simp [e] at x0)
        obtain ⟨m0, m1, m2, hmf⟩ := cel_at hatx (Below.refl _ _) x0
        simp only [Nat.zero_mul, Nat.add_zero] at m0 m1 m2
        obtain ⟨d, hd⟩ : ∃ d, x[0] = d := ⟨_, rfl⟩
        rw [hd] at m0 m1 m2 hmf
        have HA4 := mkHid (HA.out.below hb4)
        have hbl4 := hbl.then hb4
        have hs4 := hbl4.size
        have x0i : (0 : Int) < (x.length : Int) := by omega
        have HRX := mkHid rx
        clear hrow4 k0' hd hmf rx
        by_cases hk1' : d.k = 1
        · have t47 : (d.k != 1) = false := by simp [hk1']
          by_cases hdn : d.n = (k : Int)
          · have t54 : (d.n != (k : Int)) = false := by simp [hdn]
            clear hk1' hdn
            go_wp2_with fail
            go_round
            case rel => exact ⟨k + 1, acc, by omega, by omega, by go_num, HA4, HT, hbl4⟩
            case measure => simp [intOf]; omega
          · have t54 : (d.n != (k : Int)) = true := by simp [hdn]
            clear hk1' hdn
            go_wp2_with (at_builtin; refine wpList_acc (α := Bnd) rfl _ _ 25 rfl w3.heap.size 39 32 _ Try.underlying25 Try.infoBind rfl (by decide) _ acc HA4.out rfl _ #[.int .i64 k, .slice (some ⟨bx, ox, none⟩) x.length c4] (⟨k, x⟩ : Bnd) ⟨⟨_, _, rfl, HRH.out⟩, by show _ ≤ (k : Int); omega, by show (k : Int) ≤ _; omega⟩ rfl (by omega) hs4 ?_; intro v' w5 hacc5 hb5)
            go_round
            case rel =>
              refine ⟨k + 1, acc ++ [⟨(k : Int), x⟩], by omega, by simp; omega, by go_num, mkHid hacc5, fun b hb => ?_, hbl4.trans hb5⟩
              rcases List.mem_append.1 hb with h | h
              · exact HT.out b h
              · rw [List.mem_singleton.1 h]; exact ⟨HRX.out, by show x.length ≤ 6; omega⟩
            case measure => simp [intOf]; omega
        · have t47 : (d.k != 1) = true := by simp [hk1']
          clear hk1'
          go_wp2_with (at_builtin; refine wpList_acc (α := Bnd) rfl _ _ 25 rfl w3.heap.size 39 32 _ Try.underlying25 Try.infoBind rfl (by decide) _ acc HA4.out rfl _ #[.int .i64 k, .slice (some ⟨bx, ox, none⟩) x.length c4] (⟨k, x⟩ : Bnd) ⟨⟨_, _, rfl, HRH.out⟩, by show _ ≤ (k : Int); omega, by show (k : Int) ≤ _; omega⟩ rfl (by omega) hs4 ?_; intro v' w5 hacc5 hb5)
          go_round
          case rel =>
            refine ⟨k + 1, acc ++ [⟨(k : Int), x⟩], by omega, by simp; omega, by go_num, mkHid hacc5, fun b hb => ?_, hbl4.trans hb5⟩
            rcases List.mem_append.1 hb with h | h
            · exact HT.out b h
            · rw [List.mem_singleton.1 h]; exact ⟨HRX.out, by show x.length ≤ 6; omega⟩
          case measure => simp [intOf]; omega
      · obtain ⟨at8, ct8, et8, hxT⟩ := HA.out.row
        subst et8
        have HXT := mkHid hxT
        clear hxT
        have HT2 : Hid (∀ b ∈ acc, b.t.length ≤ 200) := fun b hb => Nat.le_trans (HT.out b hb).2 (by omega)
        have hb3r := mkHid hbl
        have hrb := mkHid (hb03.then hbl)
        obtain ⟨P, hP⟩ : ∃ P, apL acc p = P := ⟨_, rfl⟩
        obtain ⟨Q, hQ⟩ : ∃ Q, apL acc q = Q := ⟨_, rfl⟩
        obtain ⟨bp, hbp⟩ : ∃ b, apB acc p = b := ⟨_, rfl⟩
        obtain ⟨bq, hbq⟩ : ∃ b, apB acc q = b := ⟨_, rfl⟩
        obtain ⟨bs, hbs⟩ : ∃ b, decide (P = Q) = b := ⟨_, rfl⟩
        have HPP := mkHid hP
        have HQQ := mkHid hQ
        have HBP := mkHid hbp
        have HBQ := mkHid hbq
        have HBS := mkHid hbs
        have hl := mkHid (show bp = true → bq = true → bs = true → _ from fun h1 h2 h3 => most_law HRP.out HRQ.out (fun b hb => (HT.out b hb).1) (by
          rw [h1] at hbp
          rw [h2] at hbq
          rw [h3, decide_eq_true_iff] at hbs
          rw [apL_yes hbp] at hP
          rw [apL_yes hbq] at hQ
          rw [hP, hQ, hbs]))
        clear hP hQ hbp hbq hbs hbl
        go_wp2_with fail
        refine (uapply HXT.out (HP.out.below hb3r.out) HT2.out (by omega) HPP.out HBP.out).mono ?_
        rintro e w5 ⟨a5, c5, rfl, hx5, hb5⟩
        have HX5 := mkHid hx5
        have hrb5 := mkHid (hrb.out.then hb5)
        have hb35 := mkHid (hb3r.out.then hb5)
        clear hx5
        go_wp2_with fail
        refine (uapply (HXT.out.below hb5) (HQ.out.below hb35.out) HT2.out (by omega) HQQ.out HBQ.out).mono ?_
        rintro e w6 ⟨a6, c6, rfl, hx6, hb6⟩
        have HX6 := mkHid hx6
        have HX56 := mkHid (HX5.out.below hb6)
        have hrb6 := mkHid (hrb5.out.then hb6)
        have hb36 := mkHid (hb35.out.then hb6)
        have hbr6 := mkHid (hb5.then hb6)
        clear hx6 HX5
        cases bp with
        | false =>
          go_wp2_with fail
          go_ret
          exact ⟨rfl, hrb6.out⟩
        | true =>
        cases bq with
        | false =>
          go_wp2_with fail
          go_ret
          exact ⟨rfl, hrb6.out⟩
        | true =>
        go_wp2_with fail
        refine (usame1 HX56.out HX6.out HBS.out).mono ?_
        rintro e w7 ⟨rfl, hb7⟩
        have hrb7 := mkHid (hrb6.out.then hb7)
        have hb37 := mkHid (hb36.out.then hb7)
        have hbr7 := mkHid (hbr6.out.then hb7)
        cases bs with
        | false =>
          go_wp2_with fail
          go_ret
          exact ⟨rfl, hrb7.out⟩
        | true =>
        rcases hl.out (by trivial) (by trivial) (by trivial) with hm | ⟨B, hm, hB⟩
        · have H1 : Hid (ansL (mguL p q) = []) := by rw [Hid, hm]; rfl
          have H2 : Hid (ansE (mguL p q) = 2) := by rw [Hid, hm]; rfl
          clear hm
          go_wp2_with fail
          refine (umgu (HP.out.below hb37.out) (HQ.out.below hb37.out) HRP.out HRQ.out H1.out H2.out).mono ?_
          rintro e w8 ⟨a8, c8, rfl, hx8, hb8⟩
          have hrb8 := mkHid (hrb7.out.then hb8)
          clear hx8
          go_wp2_with fail
          go_ret
          exact ⟨rfl, hrb8.out⟩
        · have H1 : Hid (ansL (mguL p q) = B) := by rw [Hid, hm]; rfl
          have H2 : Hid (ansE (mguL p q) = 0) := by rw [Hid, hm]; rfl
          have HB := mkHid hB
          clear hm hB
          go_wp2_with fail
          refine (umgu (HP.out.below hb37.out) (HQ.out.below hb37.out) HRP.out HRQ.out H1.out H2.out).mono ?_
          rintro e w8 ⟨a8, c8, rfl, hx8, hb8⟩
          have hrb8 := mkHid (hrb7.out.then hb8)
          have HXT8 := mkHid (HXT.out.below (hbr7.out.then hb8))
          have HX8 := mkHid hx8
          have hBm := hx8.max
          have hBl := hx8.le
          clear hx8
          go_wp2_with fail
          go_loopw [17, 18, 19, 20, 21] (fun i x1 x2 x3 x4 wr => ∃ j : Nat, j ≤ B.length ∧ i = .int .i64 j ∧ Below w8.heap.size w8 wr) (fun i x1 x2 x3 x4 wr => B.length - (intOf i).toNat)
          case atStart => exact ⟨0, Nat.zero_le _, rfl, Below.refl _ _⟩
          case round =>
            obtain ⟨j, hj, rfl, hbl⟩ := hrel
            by_cases hlt : j < B.length
            · obtain ⟨bb, off, rfl, _, hat⟩ := HX8.out.cases.resolve_left (fun e => by simp [e] at hlt)
              obtain ⟨a1, cap1, d0, d1, hr1, lo1, hi1⟩ := bnd_at hat hbl hlt
              obtain ⟨x, hx⟩ : ∃ x, B[j] = x := ⟨_, rfl⟩
              have hBx := HB.out _ (List.getElem_mem hlt)
              rw [hx] at d0 d1 hr1 lo1 hi1 hBx
              obtain ⟨_, _, hxl, heq, hGl⟩ := hBx
              obtain ⟨G, hG⟩ : ∃ G, putL (look acc) [varC x.v] = G := ⟨_, rfl⟩
              rw [hG] at heq hGl
              have HA1 : Hid (apB acc x.t = true) := by rw [Hid]; unfold apB; rw [heq]; simp; omega
              have HA2 : Hid (apB acc [varC x.v] = true) := by rw [Hid]; unfold apB; rw [hG]; simp; omega
              have HL1 : Hid (apL acc x.t = G) := by rw [Hid, apL_yes HA1.out, heq]
              have HL2 : Hid (apL acc [varC x.v] = G) := by rw [Hid, apL_yes HA2.out, hG]
              have HR1 := mkHid hr1
              have D0 := mkHid d0
              have hvf : (varC x.v).fit := ⟨by show _ ≤ (1 : Int); omega, by show (1 : Int) ≤ _; omega, lo1, hi1, by show (0 : Nat) ≤ _; omega⟩
              have HVF := mkHid hvf
              have hj0 : (0 : Int) ≤ (j : Int) := by omega
              have hj1 : (j : Int) < (B.length : Int) := by omega
              clear hx heq hGl hG hr1 lo1 hi1 hvf
              go_wp2_with fail
              refine (uapply (HXT8.out.below hbl) HR1.out HT2.out hxl HL1.out HA1.out).mono ?_
              rintro e w9 ⟨a9, c9, rfl, hx9, hb9⟩
              have HX9 := mkHid hx9
              have hbl9 := hbl.then hb9
              have d0' := keep D0.out hb9
              clear hx9 d0 d1
              go_wp2_with fail
              refine (v3_any x.v _).mono ?_
              rintro e w10 ⟨rfl, hb10⟩
              have hbl10 := hbl9.then hb10
              have hbl11 := hbl10.new (.cells #[.int .i64 1, .string ⟨#[]⟩, .int .i64 x.v] 42)
              have HX11 := mkHid ((HX9.out.below hb10).below ((Below.refl _ _).new (.cells #[.int .i64 1, .string ⟨#[]⟩, .int .i64 x.v] 42)))
              have HRV := mkHid (row_one w10 (varC x.v) HVF.out)
              clear d0'
              go_wp2_with fail
              refine (uapply (ys := [varC x.v]) (HXT8.out.below hbl11) HRV.out HT2.out (by simp) HL2.out HA2.out).mono ?_
              rintro e w12 ⟨a12, c12, rfl, hx12, hb12⟩
              have hbl12 := hbl11.then hb12
              have HX12 := mkHid hx12
              have HX112 := mkHid (HX11.out.below hb12)
              clear hx12
              go_wp2_with fail
              refine (usame1 (b := true) HX112.out HX12.out (by simp)).mono ?_
              rintro e w13 ⟨rfl, hb13⟩
              have hbl13 := hbl12.then hb13
              go_wp2_with fail
              go_round
              case rel => exact ⟨j + 1, by omega, by go_num, hbl13⟩
              case measure => simp [intOf]; omega
            · go_wp2_with fail
              go_ret
              exact ⟨rfl, hrb8.out.then hbl⟩
    · obtain ⟨at8, ct8, et8, hxT⟩ := HA.out.row
      subst et8
      have HXT := mkHid hxT
      clear hxT
      have HT2 : Hid (∀ b ∈ acc, b.t.length ≤ 200) := fun b hb => Nat.le_trans (HT.out b hb).2 (by omega)
      have hb3r := mkHid hbl
      have hrb := mkHid (hb03.then hbl)
      obtain ⟨P, hP⟩ : ∃ P, apL acc p = P := ⟨_, rfl⟩
      obtain ⟨Q, hQ⟩ : ∃ Q, apL acc q = Q := ⟨_, rfl⟩
      obtain ⟨bp, hbp⟩ : ∃ b, apB acc p = b := ⟨_, rfl⟩
      obtain ⟨bq, hbq⟩ : ∃ b, apB acc q = b := ⟨_, rfl⟩
      obtain ⟨bs, hbs⟩ : ∃ b, decide (P = Q) = b := ⟨_, rfl⟩
      have HPP := mkHid hP
      have HQQ := mkHid hQ
      have HBP := mkHid hbp
      have HBQ := mkHid hbq
      have HBS := mkHid hbs
      have hl := mkHid (show bp = true → bq = true → bs = true → _ from fun h1 h2 h3 => most_law HRP.out HRQ.out (fun b hb => (HT.out b hb).1) (by
        rw [h1] at hbp
        rw [h2] at hbq
        rw [h3, decide_eq_true_iff] at hbs
        rw [apL_yes hbp] at hP
        rw [apL_yes hbq] at hQ
        rw [hP, hQ, hbs]))
      clear hP hQ hbp hbq hbs hbl
      go_wp2_with fail
      refine (uapply HXT.out (HP.out.below hb3r.out) HT2.out (by omega) HPP.out HBP.out).mono ?_
      rintro e w5 ⟨a5, c5, rfl, hx5, hb5⟩
      have HX5 := mkHid hx5
      have hrb5 := mkHid (hrb.out.then hb5)
      have hb35 := mkHid (hb3r.out.then hb5)
      clear hx5
      go_wp2_with fail
      refine (uapply (HXT.out.below hb5) (HQ.out.below hb35.out) HT2.out (by omega) HQQ.out HBQ.out).mono ?_
      rintro e w6 ⟨a6, c6, rfl, hx6, hb6⟩
      have HX6 := mkHid hx6
      have HX56 := mkHid (HX5.out.below hb6)
      have hrb6 := mkHid (hrb5.out.then hb6)
      have hb36 := mkHid (hb35.out.then hb6)
      have hbr6 := mkHid (hb5.then hb6)
      clear hx6 HX5
      cases bp with
      | false =>
        go_wp2_with fail
        go_ret
        exact ⟨rfl, hrb6.out⟩
      | true =>
      cases bq with
      | false =>
        go_wp2_with fail
        go_ret
        exact ⟨rfl, hrb6.out⟩
      | true =>
      go_wp2_with fail
      refine (usame1 HX56.out HX6.out HBS.out).mono ?_
      rintro e w7 ⟨rfl, hb7⟩
      have hrb7 := mkHid (hrb6.out.then hb7)
      have hb37 := mkHid (hb36.out.then hb7)
      have hbr7 := mkHid (hbr6.out.then hb7)
      cases bs with
      | false =>
        go_wp2_with fail
        go_ret
        exact ⟨rfl, hrb7.out⟩
      | true =>
      rcases hl.out (by trivial) (by trivial) (by trivial) with hm | ⟨B, hm, hB⟩
      · have H1 : Hid (ansL (mguL p q) = []) := by rw [Hid, hm]; rfl
        have H2 : Hid (ansE (mguL p q) = 2) := by rw [Hid, hm]; rfl
        clear hm
        go_wp2_with fail
        refine (umgu (HP.out.below hb37.out) (HQ.out.below hb37.out) HRP.out HRQ.out H1.out H2.out).mono ?_
        rintro e w8 ⟨a8, c8, rfl, hx8, hb8⟩
        have hrb8 := mkHid (hrb7.out.then hb8)
        clear hx8
        go_wp2_with fail
        go_ret
        exact ⟨rfl, hrb8.out⟩
      · have H1 : Hid (ansL (mguL p q) = B) := by rw [Hid, hm]; rfl
        have H2 : Hid (ansE (mguL p q) = 0) := by rw [Hid, hm]; rfl
        have HB := mkHid hB
        clear hm hB
        go_wp2_with fail
        refine (umgu (HP.out.below hb37.out) (HQ.out.below hb37.out) HRP.out HRQ.out H1.out H2.out).mono ?_
        rintro e w8 ⟨a8, c8, rfl, hx8, hb8⟩
        have hrb8 := mkHid (hrb7.out.then hb8)
        have HXT8 := mkHid (HXT.out.below (hbr7.out.then hb8))
        have HX8 := mkHid hx8
        have hBm := hx8.max
        have hBl := hx8.le
        clear hx8
        go_wp2_with fail
        go_loopw [17, 18, 19, 20, 21] (fun i x1 x2 x3 x4 wr => ∃ j : Nat, j ≤ B.length ∧ i = .int .i64 j ∧ Below w8.heap.size w8 wr) (fun i x1 x2 x3 x4 wr => B.length - (intOf i).toNat)
        case atStart => exact ⟨0, Nat.zero_le _, rfl, Below.refl _ _⟩
        case round =>
          obtain ⟨j, hj, rfl, hbl⟩ := hrel
          by_cases hlt : j < B.length
          · obtain ⟨bb, off, rfl, _, hat⟩ := HX8.out.cases.resolve_left (fun e => by simp [e] at hlt)
            obtain ⟨a1, cap1, d0, d1, hr1, lo1, hi1⟩ := bnd_at hat hbl hlt
            obtain ⟨x, hx⟩ : ∃ x, B[j] = x := ⟨_, rfl⟩
            have hBx := HB.out _ (List.getElem_mem hlt)
            rw [hx] at d0 d1 hr1 lo1 hi1 hBx
            obtain ⟨_, _, hxl, heq, hGl⟩ := hBx
            obtain ⟨G, hG⟩ : ∃ G, putL (look acc) [varC x.v] = G := ⟨_, rfl⟩
            rw [hG] at heq hGl
            have HA1 : Hid (apB acc x.t = true) := by rw [Hid]; unfold apB; rw [heq]; simp; omega
            have HA2 : Hid (apB acc [varC x.v] = true) := by rw [Hid]; unfold apB; rw [hG]; simp; omega
            have HL1 : Hid (apL acc x.t = G) := by rw [Hid, apL_yes HA1.out, heq]
            have HL2 : Hid (apL acc [varC x.v] = G) := by rw [Hid, apL_yes HA2.out, hG]
            have HR1 := mkHid hr1
            have D0 := mkHid d0
            have hvf : (varC x.v).fit := ⟨by show _ ≤ (1 : Int); omega, by show (1 : Int) ≤ _; omega, lo1, hi1, by show (0 : Nat) ≤ _; omega⟩
            have HVF := mkHid hvf
            have hj0 : (0 : Int) ≤ (j : Int) := by omega
            have hj1 : (j : Int) < (B.length : Int) := by omega
            clear hx heq hGl hG hr1 lo1 hi1 hvf
            go_wp2_with fail
            refine (uapply (HXT8.out.below hbl) HR1.out HT2.out hxl HL1.out HA1.out).mono ?_
            rintro e w9 ⟨a9, c9, rfl, hx9, hb9⟩
            have HX9 := mkHid hx9
            have hbl9 := hbl.then hb9
            have d0' := keep D0.out hb9
            clear hx9 d0 d1
            go_wp2_with fail
            refine (v3_any x.v _).mono ?_
            rintro e w10 ⟨rfl, hb10⟩
            have hbl10 := hbl9.then hb10
            have hbl11 := hbl10.new (.cells #[.int .i64 1, .string ⟨#[]⟩, .int .i64 x.v] 42)
            have HX11 := mkHid ((HX9.out.below hb10).below ((Below.refl _ _).new (.cells #[.int .i64 1, .string ⟨#[]⟩, .int .i64 x.v] 42)))
            have HRV := mkHid (row_one w10 (varC x.v) HVF.out)
            clear d0'
            go_wp2_with fail
            refine (uapply (ys := [varC x.v]) (HXT8.out.below hbl11) HRV.out HT2.out (by simp) HL2.out HA2.out).mono ?_
            rintro e w12 ⟨a12, c12, rfl, hx12, hb12⟩
            have hbl12 := hbl11.then hb12
            have HX12 := mkHid hx12
            have HX112 := mkHid (HX11.out.below hb12)
            clear hx12
            go_wp2_with fail
            refine (usame1 (b := true) HX112.out HX12.out (by simp)).mono ?_
            rintro e w13 ⟨rfl, hb13⟩
            have hbl13 := hbl12.then hb13
            go_wp2_with fail
            go_round
            case rel => exact ⟨j + 1, by omega, by go_num, hbl13⟩
            case measure => simp [intOf]; omega
          · go_wp2_with fail
            go_ret
            exact ⟨rfl, hrb8.out.then hbl⟩
end Go.Proofs.Ytlddglajdcednaa
namespace Go.Proofs.Ytlddglajdcednaa
open Go.RowKit Go.ChangeShapes Go.WideShapes Go.ChangeAt
open Go.ChangeMaps (open_string)

set_option maxRecDepth 100000 in
set_option maxHeartbeats 1000000 in
theorem UnifyMost_lifted (os : Os) (started : os.Started) (H : Type) (enc : TypeId × Value → H) :
    ReturnsInHanded {} Try.checked os 5 .any (Rows.unifyMostSpec.pre6 enc Try.prog Try.f5 Rows.unifyMostRow.domain false) (Rows.unifyMostSpec.post enc Try.prog Try.f5 false true false false) := by
  refine returnsInHanded_of_change (C := Try.checked) Try.own started (by kernel_rfl) Try.func5
    (ChangeSpec.witness6 (enc := enc) (C := Try.checked) false ⟨#[], #[.slice none 0 0, .slice none 0 0, .slice none 0 0], []⟩ 8 (by kernel_rfl) (by kernel_rfl) (by kernel_rfl) (by kernel_rfl)) ?_
  intro W base args ds gs before hval0 hW hcnd _
  have hval : ∀ (j : Nat) t v, Try.f5.params[j]? = some t → args[j]? = some v → Value.okWide Try.prog W .any base t v := hval0
  have hW' := hW
  obtain ⟨p, q, hA0, hV, rfl, hfz, hnd⟩ := hW
  have hA : DataW.TrodAll enc Try.prog W 0 (fun _ => true) true Try.f5.params.toList args.toList ds p := hA0
  rw [Try.params5] at hA hval
  obtain ⟨v0, vs0, d0, ds0, p0, q0, hargs, rfl, rfl, h0, r0⟩ := trodAll_cons hA
  obtain ⟨v1, vs1, d1, ds1, p1, q1, rfl, rfl, rfl, h1, r1⟩ := trodAll_cons r0
  obtain ⟨v2, vs2, d2, ds2, p2, q2, rfl, rfl, rfl, h2, r2⟩ := trodAll_cons r1
  obtain ⟨rfl, rfl, rfl⟩ := trodAll_nil r2
  obtain rfl : args = #[v0, v1, v2] := by cases args; simp_all
  obtain ⟨rfl, rfl⟩ := trodVars_none hV
  have k0 := h0
  have lt0 : ∀ x ∈ p0, x.block < W.heap.size := by obtain ⟨m, hm⟩ := k0; exact DataW.trod_lt m _ _ _ hm
  obtain ⟨a0, len0, cap0, rfl⟩ := okWide_slice Try.underlying22 (hval 0 22 v0 rfl rfl)
  obtain ⟨xs0, rfl, hr0⟩ : ∃ xs : List Cel, xs.length = len0 ∧ Row W a0 cap0 xs := by
    obtain ⟨fuel, hf⟩ := h0
    exact open_cells hf
  have k1 := h1
  have lt1 : ∀ x ∈ p1, x.block < W.heap.size := by obtain ⟨m, hm⟩ := k1; exact DataW.trod_lt m _ _ _ hm
  obtain ⟨a1, len1, cap1, rfl⟩ := okWide_slice Try.underlying22 (hval 1 22 v1 rfl rfl)
  obtain ⟨xs1, rfl, hr1⟩ : ∃ xs : List Cel, xs.length = len1 ∧ Row W a1 cap1 xs := by
    obtain ⟨fuel, hf⟩ := h1
    exact open_cells hf
  have k2 := h2
  have lt2 : ∀ x ∈ p2, x.block < W.heap.size := by obtain ⟨m, hm⟩ := k2; exact DataW.trod_lt m _ _ _ hm
  obtain ⟨a2, len2, cap2, rfl⟩ := okWide_slice Try.underlying40 (hval 2 40 v2 rfl rfl)
  obtain ⟨xs2, rfl, hr2⟩ : ∃ xs : List (List Cel), xs.length = len2 ∧ Row W a2 cap2 xs := by
    obtain ⟨fuel, hf⟩ := h2
    exact open_cellss hf
  clear hA0 hval0
  refine (lawMost_any W xs0 xs1 xs2 a0 cap0 a1 cap1 a2 cap2 hr0 hr1 hr2).mono fun e W' ⟨he, bel⟩ => ?_
  subst he
  exact ⟨_, rfl, _, _, _, [], _, [], hW', trodAll_mk1 (shut_bool Try.underlying4 _), (trodAll_cons_mk (Below.trod Try.laidOut (by kernel_rfl) (of_decide_eq_true (by kernel_rfl)) k0 bel lt0) (trodAll_cons_mk (Below.trod Try.laidOut (by kernel_rfl) (of_decide_eq_true (by kernel_rfl)) k1 bel lt1) (trodAll_cons_mk (Below.trod Try.laidOut (by kernel_rfl) (of_decide_eq_true (by kernel_rfl)) k2 bel lt2) trodAll_mk0))), rfl, bel.frame _, fun h => by cases h⟩

theorem UnifyMost_over : Rows.unifyMostRow.holds Try.pinned (OpenSpec.ofChange Rows.unifyMostSpec) :=
  OpenClaim.holds_of_wide 5 Try.f5 rfl rfl rfl rfl rfl rfl rfl ⟨rfl, rfl, rfl, rfl, rfl⟩ rfl rfl rfl rfl rfl (by kernel_rfl) Try.func5 (by kernel_rfl)
    (of_decide_eq_true (by kernel_rfl)) (by unfold Func.isWrapper; first | (rw [if_pos (by decide +kernel)]; kernel_rfl) | (rw [if_neg (by decide +kernel)]; exact ⟨rfl, rfl⟩))
    (fun os started H enc _ => UnifyMost_lifted os started H enc)

theorem UnifyMost_holds : Rows.UnifyMostSaid := UnifyMost_over
end Go.Proofs.Ytlddglajdcednaa
