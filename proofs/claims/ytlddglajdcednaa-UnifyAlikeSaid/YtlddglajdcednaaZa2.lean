/-
  Of layer 3 of sorrel: whatever arguments come in, the law UnifyAlike returns true, and what was handed in reads as it did: the theorem of unifying: what Mgu tells makes both terms the same; it is right, put in twice it is as once, and it binds variables of both alone. No condition.
-/
import Derived.Test.YtlddglajdcednaaZr10
namespace Go.Proofs.Ytlddglajdcednaa
open Go.RowKit

set_option maxHeartbeats 800000 in
theorem refvars_acc (a : Option Addr) (cap : Nat) (w : World) (xs : List Cel) (hr : Row w a cap xs) (hl : xs.length ≤ 1000000) :
    Calls Try.prog 24 #[.slice a xs.length cap] w fun e w' => ∃ a' cap', e = .returned (.slice a' (varsL xs).length cap') ∧ AccInv w.heap.size 3 (varsL xs) (.slice a' (varsL xs).length cap') w' ∧ Below w.heap.size w w' := by
  have hc := hr.le
  have hc2 := hr.max
  have hm0 := World.ownsRow_made (base := w.heap.size) (e := 3) (size := 1) w #[] 0 (Nat.le_refl _) (by unfold maxLen; omega) rfl
  have hb0 := (Below.refl w.heap.size w).new (.cells #[] 3)
  go_enter Try.func24, Try.ntmps24
  go_wp2_with fail
  go_loopw [3, 4] (fun v i wr => ∃ (k : Nat) (acc : List Int), k ≤ xs.length ∧ acc.length ≤ k ∧ i = .int .i64 k ∧ wr.ownsRow w.heap.size 3 1 v acc.length (acc.map (Value.int .i64)) ∧ Below w.heap.size w wr ∧ (∀ n ∈ acc, -9223372036854775808 ≤ n ∧ n ≤ 9223372036854775807) ∧ Hid (varsL xs = varsGo acc (xs.drop k))) (fun v i wr => xs.length - (intOf i).toNat)
  case atStart => exact ⟨0, [], Nat.zero_le _, Nat.zero_le _, rfl, hm0, hb0, by simp, rfl⟩
  case round =>
    obtain ⟨k, acc, hk, hak, rfl, hown, hbl, haf, HS⟩ := hrel
    obtain ⟨a', cap', rfl, hrowN⟩ := own_rowI (under_own hown) haf
    have hrow := Row.keeps hrowN (under_keeps _ _)
    clear hrowN
    have HA := mkHid haf
    by_cases hlt : k < xs.length
    · obtain ⟨b, off, rfl, hb, hat⟩ := hr.cases.resolve_left (fun e => by simp [e] at hlt)
      obtain ⟨c0, c1, c2, hf⟩ := cel_at hat hbl hlt
      have hst := varsGo_step acc xs k hlt
      by_cases h1 : xs[k].k = 1
      · have t1 : (xs[k].k == 1) = true := by simp [h1]
        by_cases h2 : xs[k].n ∈ acc
        · have HT : Hid (varsL xs = varsGo acc (xs.drop (k + 1))) := by rw [Hid, HS.out, hst, if_neg (by simp [h2])]
          have hd := mkHid (decide_eq_true h2)
          clear h1 h2 HS hst haf
          go_wp2_with (go_at_call 59; refine (refin_any a' cap' xs[k].n _ acc hrow).mono ?_; rintro e w' ⟨rfl, hb1⟩; rw [hd.out])
          go_round
          case rel => exact ⟨k + 1, acc, by omega, by omega, by go_num, own_below hown hb1, hbl.then hb1, HA.out, HT⟩
          case measure => simp [intOf]; omega
        · have HT : Hid (varsL xs = varsGo (acc ++ [xs[k].n]) (xs.drop (k + 1))) := by rw [Hid, HS.out, hst, if_pos ⟨h1, h2⟩]
          have hd := mkHid (decide_eq_false h2)
          clear h1 h2 HS hst haf
          go_wp2_with (first
            | (go_at_call 59; refine (refin_any a' cap' xs[k].n _ acc hrow).mono ?_; rintro e w' ⟨rfl, hb1⟩; rw [hd.out]; have d0 := keep c0 hb1; have d2 := keep c2 hb1; have hown1 := own_below hown hb1; have hbl1 := hbl.then hb1; clear c0 c1 c2)
            | (at_builtin; refine wpList_app rfl _ _ 36 rfl w.heap.size 3 1 8 _ Try.underlying36 Try.infoInt rfl (by decide) (by decide) _ acc.length _ rfl (hown1.alloc _) (some ⟨_, 0, none⟩) 1 1 [.int .i64 xs[k].n] rfl (src_new _ #[.int .i64 xs[k].n] _ 1 rfl (by simp [Value.oneCell'])) (by omega) (Nat.le_trans hbl1.size (by simp)) ?_; intro v' w2 hown2 _ hb2))
          go_round
          case rel => exact ⟨k + 1, acc ++ [xs[k].n], by omega, by simp; omega, by go_num, by simpa using hown2, (hbl1.new _).trans hb2, out_fit HA.out hf.n1 hf.n2, HT⟩
          case measure => simp [intOf]; omega
      · have t1 : (xs[k].k == 1) = false := by simp [h1]
        have HT : Hid (varsL xs = varsGo acc (xs.drop (k + 1))) := by rw [Hid, HS.out, hst, if_neg (fun h => h1 h.1)]
        clear h1 HS hst haf
        go_wp2
        go_round
        case rel => exact ⟨k + 1, acc, by omega, by omega, by go_num, hown, hbl, HA.out, HT⟩
        case measure => simp [intOf]; omega
    · have HT : Hid (varsL xs = acc) := by rw [Hid, HS.out, List.drop_eq_nil_of_le (by omega)]; rfl
      clear HS haf
      have HOWN := mkHid hown
      clear hown
      go_wp2
      go_ret
      exact ⟨a', cap', by rw [HT.out]; rfl, by rw [HT.out]; exact ⟨_, HOWN.out, crows_ints _ HA.out⟩, hbl⟩
theorem any_next {V : List Int} {v : Int} {m : Nat} (hm : m < V.length) : (V.take (m + 1)).any (fun n => n == v) = ((V.take m).any (fun n => n == v) || (V[m] == v)) := by
  rw [List.take_succ_eq_append_getElem hm, List.any_append]; simp
theorem any_all {V : List Int} {v : Int} {m : Nat} (hm : V.length ≤ m) (h : v ∈ V) : (V.take m).any (fun n => n == v) = true := by
  rw [List.take_of_length_le hm, List.any_eq_true]; exact ⟨v, h, by simp⟩
theorem both_mem {a b : List Cel} {v : Int} (h : v ∈ bothL a b) : v ∈ varsL a ++ varsL b := riseI_mem h
/-- what Mgu tells at terms that are made: none, too big, or bindings that make both the same -/
theorem alike_law {p q : List Cel} (rp : rightB p = true) (rq : rightB q = true) :
    (∃ E : Int, (E = 3 ∨ E = 2) ∧ ansL (mguL p q) = [] ∧ ansE (mguL p q) = E ∧ decide (p = q) = false) ∨
    ∃ B, ansL (mguL p q) = B ∧ ansE (mguL p q) = 0 ∧ rightS B = true ∧ idemB B = true ∧ apL B p = apL B q ∧ apB B p = apB B q ∧ (∀ x ∈ B, x.t.length ≤ 200) ∧ B.length ≤ 1000 ∧ ∀ x ∈ B, x.v ∈ varsL p ++ varsL q := by
  obtain ⟨hp, lp, _⟩ := isT_of_right rp
  obtain ⟨hq, lq, _⟩ := isT_of_right rq
  cases e : mguL p q with
  | none => exact .inl ⟨3, .inl rfl, rfl, rfl, decide_eq_false (mgu_not hp fun B h => by rw [e] at h; cases h)⟩
  | some o =>
    cases o with
    | none => exact .inl ⟨2, .inr rfl, rfl, rfl, decide_eq_false (mgu_not hp fun B h => by rw [e] at h; cases h)⟩
    | some B =>
      obtain ⟨h1, h2, h3, h4⟩ := mgu_alike hp hq e
      have hap : apB B p = apB B q := by unfold apB; rw [h3]
      have hl : B.length ≤ 1000 := by
        rcases mgu_told hp hq with ⟨e', _⟩ | ⟨F, T, e'⟩
        · rw [e'] at e; cases e
        · rw [e'] at e
          injection e with e
          split at e
          · cases e
          · injection e with e
            rw [← e]
            have l1 := bind_le F (bothL p q)
            have l2 := riseI_le (varsL p ++ varsL q)
            rw [List.length_append] at l2
            have l3 := varsGo_length p []
            have l4 := varsGo_length q []
            rw [show varsGo [] p = varsL p from rfl, List.length_nil, Nat.zero_add] at l3
            rw [show varsGo [] q = varsL q from rfl, List.length_nil, Nat.zero_add] at l4
            unfold bothL at l1 ⊢
            omega
      exact .inr ⟨B, rfl, rfl, h1, h2, by unfold apL; rw [hap, h3], hap, fun x hx => (isT_of_right (rightG_mem B 0 h1 x hx).2.2).2.1, hl, fun x hx => both_mem (h4 x hx)⟩

set_option maxRecDepth 100000 in
set_option maxHeartbeats 8000000 in
theorem lawAlike_any (w : World) (xs ys : List Cel) (a : Option Addr) (cap : Nat) (a' : Option Addr) (cap' : Nat) (hx : Row w a cap xs) (hy : Row w a' cap' ys) :
    Calls Try.prog 4 #[.slice a xs.length cap, .slice a' ys.length cap'] w fun e w' => e = .returned (.bool true) ∧ Below w.heap.size w w' := by
  have HX := mkHid hx
  have HY := mkHid hy
  clear hx hy
  go_enter Try.func4, Try.ntmps4
  go_wp2_with fail
  refine (head_any _).mono ?_
  rintro e w1 ⟨rfl, hb1⟩
  go_wp2_with fail
  refine (umade (HX.out.below hb1) (by omega) (by omega)).mono ?_
  rintro e w2 ⟨a2, c2, p, rfl, hp, rp, p0, lp, hb2⟩
  have hb02 := hb1.then hb2
  go_wp2_with fail
  refine (umade (HY.out.below hb02) (by omega) (by omega)).mono ?_
  rintro e w3 ⟨a3, c3, q, rfl, hq, rq, q0, lq, hb3⟩
  have hb03 := hb02.then hb3
  have HP := mkHid (hp.below hb3)
  have HQ := mkHid hq
  have HRP := mkHid rp
  have HRQ := mkHid rq
  clear hp hq rp rq
  rcases alike_law HRP.out HRQ.out with ⟨E, hE, e1, e2, e3⟩ | ⟨B, e1, e2, e3, e4, e5, e6, e7, e8, e9⟩
  · have H1 := mkHid e1
    have H2 := mkHid e2
    have H3 := mkHid e3
    clear e1 e2 e3
    rcases hE with rfl | rfl
    · go_wp2_with fail
      refine (umgu HP.out HQ.out HRP.out HRQ.out H1.out H2.out).mono ?_
      rintro e w4 ⟨a4, c4, rfl, hx4, hb4⟩
      have hb04 := hb03.then hb4
      clear hx4
      go_wp2_with fail
      refine (usame1 (HP.out.below hb4) (HQ.out.below hb4) H3.out).mono ?_
      rintro e w5 ⟨rfl, hb5⟩
      have hb05 := hb04.then hb5
      go_wp2_with fail
      go_ret
      exact ⟨rfl, hb05⟩
    · go_wp2_with fail
      refine (umgu HP.out HQ.out HRP.out HRQ.out H1.out H2.out).mono ?_
      rintro e w4 ⟨a4, c4, rfl, hx4, hb4⟩
      have hb04 := hb03.then hb4
      clear hx4
      go_wp2_with fail
      refine (usame1 (HP.out.below hb4) (HQ.out.below hb4) H3.out).mono ?_
      rintro e w5 ⟨rfl, hb5⟩
      have hb05 := hb04.then hb5
      go_wp2_with fail
      go_ret
      exact ⟨rfl, hb05⟩
  · obtain ⟨P, hP⟩ : ∃ P, apL B p = P := ⟨_, rfl⟩
    obtain ⟨b, hb⟩ : ∃ b, apB B p = b := ⟨_, rfl⟩
    have H1 := mkHid e1
    have H2 := mkHid e2
    have HR := mkHid e3
    have HI := mkHid e4
    have HPP := mkHid hP
    have HPQ : Hid (apL B q = P) := by rw [Hid, ← e5]; exact hP
    have HBP := mkHid hb
    have HBQ : Hid (apB B q = b) := by rw [Hid, ← e6]; exact hb
    have HT := mkHid e7
    have HV := mkHid e9
    have l3 := varsGo_length p []
    have l4 := varsGo_length q []
    rw [show varsGo [] p = varsL p from rfl, List.length_nil, Nat.zero_add] at l3
    rw [show varsGo [] q = varsL q from rfl, List.length_nil, Nat.zero_add] at l4
    clear e1 e2 e3 e4 e5 e6 e7 e9 hP hb
    go_wp2_with fail
    refine (umgu HP.out HQ.out HRP.out HRQ.out H1.out H2.out).mono ?_
    rintro e w4 ⟨a4, c4, rfl, hx4, hb4⟩
    have hb04 := hb03.then hb4
    have HX4 := mkHid hx4
    clear hx4
    go_wp2_with fail
    refine (uapply HX4.out (HP.out.below hb4) HT.out (by omega) HPP.out HBP.out).mono ?_
    rintro e w5 ⟨a5, c5, rfl, hx5, hb5⟩
    have hb05 := hb04.then hb5
    have hb35 := hb4.then hb5
    have HX5 := mkHid hx5
    clear hx5
    go_wp2_with fail
    refine (uapply (HX4.out.below hb5) (HQ.out.below hb35) HT.out (by omega) HPQ.out HBQ.out).mono ?_
    rintro e w6 ⟨a6, c6, rfl, hx6, hb6⟩
    have hb06 := hb05.then hb6
    have hb36 := hb35.then hb6
    have hb46 := hb5.then hb6
    have HX6 := mkHid hx6
    have HX56 := mkHid (HX5.out.below hb6)
    clear hx6
    go_wp2_with fail
    refine (uright2 (HX4.out.below hb46) HR.out).mono ?_
    rintro e w7 ⟨rfl, hb7⟩
    have hb07 := hb06.then hb7
    have hb37 := hb36.then hb7
    have hb47 := hb46.then hb7
    go_wp2_with fail
    refine (uidem (HX4.out.below hb47) HI.out).mono ?_
    rintro e w8 ⟨rfl, hb8⟩
    have hb08 := hb07.then hb8
    have hb38 := hb37.then hb8
    have hb48 := hb47.then hb8
    have hb68 := hb7.then hb8
    cases b with
    | false =>
      go_wp2_with fail
      refine (refvars_acc a2 c2 _ p (HP.out.below hb38) (by omega)).mono ?_
      rintro e w10 ⟨a10, c10, rfl, hx10, hb10⟩
      have hb010 := hb08.then hb10
      have hb310 := hb38.then hb10
      have hb410 := hb48.then hb10
      have hs0 := hb08.size
      have hs4 := hb48.size
      have HX10 := mkHid hx10
      clear hx10
      go_wp2_with fail
      refine (refvars_new a3 c3 _ q (HQ.out.below hb310) (by omega)).mono ?_
      rintro e w11 ⟨a11, c11, rfl, hx11, hb11⟩
      have hb011 := hb010.then hb11
      have hb411 := hb410.then hb11
      have hacc := HX10.out.below hb11
      have hs11 := (hb10.then hb11).size
      have hro := HX10.out.newer (Nat.le_refl _) hx11
      clear hx11
      go_wp2_with (at_builtin; refine wpList_accs (α := Int) rfl _ _ 36 rfl w8.heap.size 3 8 _ Try.underlying36 Try.infoInt rfl (by decide) _ (varsL p) hacc (by rfl) _ _ (varsL q) hro (by rfl) (by omega) hs11 ?_; intro v' w12 hacc12 hb12)
      have hb012 := hb011.trans (hb12.mono hs0)
      have hb412 := hb411.trans (hb12.mono hs4)
      obtain ⟨a12, c12, rfl, hv⟩ := hacc12.row
      obtain ⟨V, hV⟩ : ∃ V, varsL p ++ varsL q = V := ⟨_, rfl⟩
      have hVl : V.length ≤ 60 := by rw [← hV, List.length_append]; omega
      have HVV : Hid (∀ x ∈ B, x.v ∈ V) := by rw [Hid, ← hV]; exact HV.out
      rw [hV] at hv
      rw [hV]
      have HV12 := mkHid hv
      have HX412 := mkHid (HX4.out.below hb412)
      clear hv hV hacc12 hacc hro hb12 hs11
      go_wp2_with fail
      go_loopw [13, 14, 15] (fun i inn kk wr => ∃ j : Nat, j ≤ B.length ∧ i = .int .i64 j ∧ Below w12.heap.size w12 wr) (fun i inn kk wr => B.length - (intOf i).toNat)
      case atStart => exact ⟨0, Nat.zero_le _, rfl, Below.refl _ _⟩
      case round =>
        obtain ⟨j, hj, rfl, hbl⟩ := hrel
        by_cases hlt : j < B.length
        · obtain ⟨bb, off, rfl, _, hat⟩ := HX412.out.cases.resolve_left (fun e => by simp [e] at hlt)
          have HM := mkHid (HVV.out _ (List.getElem_mem hlt))
          go_wp2_with fail
          go_loopw [14, 15] (fun inn kk wq => ∃ (m : Nat) (b : Bool), m ≤ V.length ∧ kk = .int .i64 m ∧ inn = .bool b ∧ Hid (b = (V.take m).any (fun n => n == B[j].v)) ∧ Below w12.heap.size w12 wq) (fun inn kk wq => V.length - (intOf kk).toNat)
          case atStart => exact ⟨0, false, Nat.zero_le _, rfl, rfl, rfl, hbl⟩
          case round =>
            obtain ⟨m, b, hm, rfl, rfl, HB, hbq⟩ := hrel
            by_cases hlm : m < V.length
            · obtain ⟨bv, offv, rfl, _, hatv⟩ := HV12.out.cases.resolve_left (fun e => by simp [e] at hlm)
              obtain ⟨q0, _⟩ := int_at hatv hbq hlm
              obtain ⟨a1, cap1, d0, d1, hr1, _, _⟩ := bnd_at hat hbq hlt
              have HN : Hid ((b || (V[m] == B[j].v)) = (V.take (m + 1)).any (fun n => n == B[j].v)) := by rw [Hid, any_next hlm, ← HB.out]
              have hm0 : (0 : Int) ≤ (m : Int) := by omega
              have hm1 : (m : Int) < (V.length : Int) := by omega
              have hj0 : (0 : Int) ≤ (j : Int) := by omega
              have hj1 : (j : Int) < (B.length : Int) := by omega
              clear HB hr1
              cases b with
              | true =>
                go_wp2
                go_quiet (fail)
                go_wp2
                go_round
                case rel => exact ⟨m + 1, true, by omega, by go_num, rfl, by simpa using HN, ⟨hbq.os, hbq.tape, hbq.output, hbq.size, hbq.block⟩⟩
                case measure => simp [intOf]; omega
              | false =>
                go_wp2
                go_quiet (fail)
                go_wp2
                go_round
                case rel => exact ⟨m + 1, (V[m] == B[j].v), by omega, by go_num, rfl, by simpa using HN, ⟨hbq.os, hbq.tape, hbq.output, hbq.size, hbq.block⟩⟩
                case measure => simp [intOf]; omega
            · have hbt : b = true := by rw [HB.out]; exact any_all (by omega) HM.out
              subst hbt
              clear HB
              go_wp2
              go_round
              case rel => exact ⟨j + 1, by omega, by go_num, hbq⟩
              case measure => simp [intOf]; omega
        · go_wp2_with fail
          go_ret
          exact ⟨rfl, hb012.then hbl⟩
    | true =>
      go_wp2_with fail
      refine (usame1 (b := true) (HX56.out.below hb68) (HX6.out.below hb68) (by simp)).mono ?_
      rintro e w9 ⟨rfl, hb9⟩
      have hb09 := hb08.then hb9
      have hb39 := hb38.then hb9
      have hb49 := hb48.then hb9
      go_wp2_with fail
      refine (refvars_acc a2 c2 _ p (HP.out.below hb39) (by omega)).mono ?_
      rintro e w10 ⟨a10, c10, rfl, hx10, hb10⟩
      have hb010 := hb09.then hb10
      have hb310 := hb39.then hb10
      have hb410 := hb49.then hb10
      have hs0 := hb09.size
      have hs4 := hb49.size
      have HX10 := mkHid hx10
      clear hx10
      go_wp2_with fail
      refine (refvars_new a3 c3 _ q (HQ.out.below hb310) (by omega)).mono ?_
      rintro e w11 ⟨a11, c11, rfl, hx11, hb11⟩
      have hb011 := hb010.then hb11
      have hb411 := hb410.then hb11
      have hacc := HX10.out.below hb11
      have hs11 := (hb10.then hb11).size
      have hro := HX10.out.newer (Nat.le_refl _) hx11
      clear hx11
      go_wp2_with (at_builtin; refine wpList_accs (α := Int) rfl _ _ 36 rfl w9.heap.size 3 8 _ Try.underlying36 Try.infoInt rfl (by decide) _ (varsL p) hacc (by rfl) _ _ (varsL q) hro (by rfl) (by omega) hs11 ?_; intro v' w12 hacc12 hb12)
      have hb012 := hb011.trans (hb12.mono hs0)
      have hb412 := hb411.trans (hb12.mono hs4)
      obtain ⟨a12, c12, rfl, hv⟩ := hacc12.row
      obtain ⟨V, hV⟩ : ∃ V, varsL p ++ varsL q = V := ⟨_, rfl⟩
      have hVl : V.length ≤ 60 := by rw [← hV, List.length_append]; omega
      have HVV : Hid (∀ x ∈ B, x.v ∈ V) := by rw [Hid, ← hV]; exact HV.out
      rw [hV] at hv
      rw [hV]
      have HV12 := mkHid hv
      have HX412 := mkHid (HX4.out.below hb412)
      clear hv hV hacc12 hacc hro hb12 hs11
      go_wp2_with fail
      go_loopw [13, 14, 15] (fun i inn kk wr => ∃ j : Nat, j ≤ B.length ∧ i = .int .i64 j ∧ Below w12.heap.size w12 wr) (fun i inn kk wr => B.length - (intOf i).toNat)
      case atStart => exact ⟨0, Nat.zero_le _, rfl, Below.refl _ _⟩
      case round =>
        obtain ⟨j, hj, rfl, hbl⟩ := hrel
        by_cases hlt : j < B.length
        · obtain ⟨bb, off, rfl, _, hat⟩ := HX412.out.cases.resolve_left (fun e => by simp [e] at hlt)
          have HM := mkHid (HVV.out _ (List.getElem_mem hlt))
          go_wp2_with fail
          go_loopw [14, 15] (fun inn kk wq => ∃ (m : Nat) (b : Bool), m ≤ V.length ∧ kk = .int .i64 m ∧ inn = .bool b ∧ Hid (b = (V.take m).any (fun n => n == B[j].v)) ∧ Below w12.heap.size w12 wq) (fun inn kk wq => V.length - (intOf kk).toNat)
          case atStart => exact ⟨0, false, Nat.zero_le _, rfl, rfl, rfl, hbl⟩
          case round =>
            obtain ⟨m, b, hm, rfl, rfl, HB, hbq⟩ := hrel
            by_cases hlm : m < V.length
            · obtain ⟨bv, offv, rfl, _, hatv⟩ := HV12.out.cases.resolve_left (fun e => by simp [e] at hlm)
              obtain ⟨q0, _⟩ := int_at hatv hbq hlm
              obtain ⟨a1, cap1, d0, d1, hr1, _, _⟩ := bnd_at hat hbq hlt
              have HN : Hid ((b || (V[m] == B[j].v)) = (V.take (m + 1)).any (fun n => n == B[j].v)) := by rw [Hid, any_next hlm, ← HB.out]
              have hm0 : (0 : Int) ≤ (m : Int) := by omega
              have hm1 : (m : Int) < (V.length : Int) := by omega
              have hj0 : (0 : Int) ≤ (j : Int) := by omega
              have hj1 : (j : Int) < (B.length : Int) := by omega
              clear HB hr1
              cases b with
              | true =>
                go_wp2
                go_quiet (fail)
                go_wp2
                go_round
                case rel => exact ⟨m + 1, true, by omega, by go_num, rfl, by simpa using HN, ⟨hbq.os, hbq.tape, hbq.output, hbq.size, hbq.block⟩⟩
                case measure => simp [intOf]; omega
              | false =>
                go_wp2
                go_quiet (fail)
                go_wp2
                go_round
                case rel => exact ⟨m + 1, (V[m] == B[j].v), by omega, by go_num, rfl, by simpa using HN, ⟨hbq.os, hbq.tape, hbq.output, hbq.size, hbq.block⟩⟩
                case measure => simp [intOf]; omega
            · have hbt : b = true := by rw [HB.out]; exact any_all (by omega) HM.out
              subst hbt
              clear HB
              go_wp2
              go_round
              case rel => exact ⟨j + 1, by omega, by go_num, hbq⟩
              case measure => simp [intOf]; omega
        · go_wp2_with fail
          go_ret
          exact ⟨rfl, hb012.then hbl⟩
end Go.Proofs.Ytlddglajdcednaa
namespace Go.Proofs.Ytlddglajdcednaa
open Go.RowKit Go.ChangeShapes Go.WideShapes Go.ChangeAt
open Go.ChangeMaps (open_string)

set_option maxRecDepth 100000 in
set_option maxHeartbeats 1000000 in
theorem UnifyAlike_lifted (os : Os) (started : os.Started) (H : Type) (enc : TypeId × Value → H) :
    ReturnsInHanded {} Try.checked os 4 .any (Rows.unifyAlikeSpec.pre6 enc Try.prog Try.f4 Rows.unifyAlikeRow.domain false) (Rows.unifyAlikeSpec.post enc Try.prog Try.f4 false true false false) := by
  refine returnsInHanded_of_change (C := Try.checked) Try.own started (by kernel_rfl) Try.func4
    (ChangeSpec.witness6 (enc := enc) (C := Try.checked) false ⟨#[], #[.slice none 0 0, .slice none 0 0], []⟩ 8 (by kernel_rfl) (by kernel_rfl) (by kernel_rfl) (by kernel_rfl)) ?_
  intro W base args ds gs before hval0 hW hcnd _
  have hval : ∀ (j : Nat) t v, Try.f4.params[j]? = some t → args[j]? = some v → Value.okWide Try.prog W .any base t v := hval0
  have hW' := hW
  obtain ⟨p, q, hA0, hV, rfl, hfz, hnd⟩ := hW
  have hA : DataW.TrodAll enc Try.prog W 0 (fun _ => true) true Try.f4.params.toList args.toList ds p := hA0
  rw [Try.params4] at hA hval
  obtain ⟨v0, vs0, d0, ds0, p0, q0, hargs, rfl, rfl, h0, r0⟩ := trodAll_cons hA
  obtain ⟨v1, vs1, d1, ds1, p1, q1, rfl, rfl, rfl, h1, r1⟩ := trodAll_cons r0
  obtain ⟨rfl, rfl, rfl⟩ := trodAll_nil r1
  obtain rfl : args = #[v0, v1] := by cases args; simp_all
  obtain ⟨rfl, rfl⟩ := trodVars_none hV
  have k0 := h0
  have lt0 : ∀ x ∈ p0, x.block < W.heap.size := by obtain ⟨m, hm⟩ := k0; exact DataW.trod_lt m _ _ _ hm
  obtain ⟨a0, len0, cap0, rfl⟩ := okWide_slice Try.underlying22 (hval 0 22 v0 rfl rfl)
  obtain ⟨xs0, rfl, hr0⟩ : ∃ xs : List Cel, xs.length = len0 ∧ Row W a0 cap0 xs := by
    obtain ⟨fuel, hf⟩ := h0
    exact open_cells hf
  have k1 := h1
  have lt1 : ∀ x ∈ p1, x.block < W.heap.size := by obtain ⟨m, hm⟩ := k1; exact DataW.trod_lt m _ _ _ hm
  obtain ⟨a1, len1, cap1, rfl⟩ := okWide_slice Try.underlying22 (hval 1 22 v1 rfl rfl)
  obtain ⟨xs1, rfl, hr1⟩ : ∃ xs : List Cel, xs.length = len1 ∧ Row W a1 cap1 xs := by
    obtain ⟨fuel, hf⟩ := h1
    exact open_cells hf
  clear hA0 hval0
  refine (lawAlike_any W xs0 xs1 a0 cap0 a1 cap1 hr0 hr1).mono fun e W' ⟨he, bel⟩ => ?_
  subst he
  exact ⟨_, rfl, _, _, _, [], _, [], hW', trodAll_mk1 (shut_bool Try.underlying4 _), (trodAll_cons_mk (Below.trod Try.laidOut (by kernel_rfl) (of_decide_eq_true (by kernel_rfl)) k0 bel lt0) (trodAll_cons_mk (Below.trod Try.laidOut (by kernel_rfl) (of_decide_eq_true (by kernel_rfl)) k1 bel lt1) trodAll_mk0)), rfl, bel.frame _, fun h => by cases h⟩

theorem UnifyAlike_over : Rows.unifyAlikeRow.holds Try.pinned (OpenSpec.ofChange Rows.unifyAlikeSpec) :=
  OpenClaim.holds_of_wide 4 Try.f4 rfl rfl rfl rfl rfl rfl rfl ⟨rfl, rfl, rfl, rfl, rfl⟩ rfl rfl rfl rfl rfl (by kernel_rfl) Try.func4 (by kernel_rfl)
    (of_decide_eq_true (by kernel_rfl)) (by unfold Func.isWrapper; first | (rw [if_pos (by decide +kernel)]; kernel_rfl) | (rw [if_neg (by decide +kernel)]; exact ⟨rfl, rfl⟩))
    (fun os started H enc _ => UnifyAlike_lifted os started H enc)

theorem UnifyAlike_holds : Rows.UnifyAlikeSaid := UnifyAlike_over
end Go.Proofs.Ytlddglajdcednaa
