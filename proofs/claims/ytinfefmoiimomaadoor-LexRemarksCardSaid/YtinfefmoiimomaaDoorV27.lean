import Derived.Test.YtinfefmoiimomaaDoorV20
namespace Go.Proofs.YtinfefmoiimomaaDoor
open Go.RowKit

theorem rem_list (a b c v : ByteArray) : (a ++ ⟨#[37]⟩ ++ c ++ ⟨#[10]⟩ ++ v ++ b).data.toList = a.data.toList ++ 37 :: (c.data.toList ++ 10 :: (v.data.toList ++ b.data.toList)) := by simp
theorem rem_size (a b c v : ByteArray) : (a ++ ⟨#[37]⟩ ++ c ++ ⟨#[10]⟩ ++ v ++ b).size = a.size + c.size + v.size + b.size + 2 := by
  rw [← size_list, rem_list]
  simp only [List.length_append, List.length_cons, size_list]
  omega
set_option maxHeartbeats 3200000 in
set_option maxRecDepth 100000 in
theorem lawRemarks_any (a b c : ByteArray) (n : Int) (w : World) (ha : a.size ≤ 140737488355328) (hb : b.size ≤ 140737488355328) (hc : c.size ≤ 140737488355328) (hn : (Lit.int .u8 n).wf = true) (hw : LibVars w) :
    Calls Tryd.prog 6 #[.string a, .string b, .string c, .int .u8 n] w fun e w' => e = .returned (.bool true) ∧ Below w.heap.size w w' := by
  have hn' : 0 ≤ n ∧ n ≤ 255 := by simp [Lit.wf, IntKind.min, IntKind.max, IntKind.signed, IntKind.bits] at hn; omega
  obtain ⟨n0, n1⟩ := hn'
  have HW := mkHid hw
  clear hw hn
  by_cases hbig : 5000 < (a.size : Int) + (b.size : Int) + (c.size : Int)
  · go_enter Tryd.func6, Tryd.ntmps6
    go_wp2_with fail
    refine (head_any w HW.out).mono ?_; rintro e w1 ⟨rfl, hb1⟩
    go_wp2
    go_ret
    exact ⟨rfl, hb1⟩
  have hsum : a.size + b.size + c.size ≤ 5000 := by omega
  have has : a.size ≤ 1000000000 := by omega
  have hcs : (a ++ ⟨#[10]⟩ ++ b).size ≤ 1000000000 := by rw [lines_size]; omega
  clear ha hb hc
  go_enter Tryd.func6, Tryd.ntmps6
  go_wp2_with fail
  refine (head_any w HW.out).mono ?_; rintro e w1 ⟨rfl, hb1⟩
  go_wp2
  go_loop [10] (fun i => ∃ k : Nat, k ≤ c.size ∧ i = .int .i64 k ∧ Hid ((c.data.toList.take k).all notNl = true)) (fun i => c.size - (intOf i).toNat)
  case atStart => exact ⟨0, Nat.zero_le _, rfl, mkHid (by simp)⟩
  case round =>
    obtain ⟨k, hk, rfl, HA⟩ := hrel
    by_cases hlt : k < c.size
    · have h1 : ((c[k].toNat : Int) == 10) = (c[k] == 10) := eqU c[k] 10
      cases hck : (c[k] == 10) with
      | true =>
        rw [hck] at h1
        clear hck HA
        go_wp2
        go_ret
        exact ⟨rfl, hb1⟩
      | false =>
        rw [hck] at h1
        have HN := mkHid (all_snocB c k hlt HA.out (by rw [notNl, hck]; rfl))
        clear hck HA
        go_wp2
        go_round
        case rel => exact ⟨k + 1, by omega, by go_num, HN⟩
        case measure => simp [intOf]; omega
    · have HC : Hid (c.data.toList.all notNl = true) := by
        have h := HA.out
        rw [List.take_of_length_le (by simp; omega)] at h
        exact h
      clear HA
      go_wp2
      go_loop [11, 12] (fun t i => ∃ j : Nat, j ≤ 4 ∧ i = .int .i64 j ∧ t = .string (wideS j)) (fun t i => 5 - (intOf i).toNat)
      case atStart => exact ⟨0, by omega, rfl, rfl⟩
      case round =>
        obtain ⟨j, hj, rfl, rfl⟩ := hrel
        have hvs : (wideS j).size ≤ 16 := by unfold wideS; rw [mkB_size, wide_len]; omega
        by_cases hjl : (j : Int) < n % 5
        · have hws := wideS_succ j
          go_wp2
          go_round
          case rel => exact ⟨j + 1, by omega, by go_num, rfl⟩
          case measure => simp [intOf]; omega
        · have hds : (a ++ ⟨#[37]⟩ ++ c ++ ⟨#[10]⟩ ++ wideS j ++ b).size ≤ 1000000000 := by rw [rem_size]; omega
          cases hA : lexL a.data.toList with
          | error pe =>
            obtain ⟨p, er⟩ := pe
            obtain ⟨hne, _⟩ := lexL_bad hA
            have t1 : (er == 0) = false := by simp; omega
            have t2 : (er != 0) = true := by simp; omega
            have HA := mkHid hA
            clear hA hne
            go_wp2_with fail
            refine (lex_er has (HW.out.below hb1) HA.out).mono ?_; rintro e w2 ⟨rfl, hb2⟩
            go_wp2
            go_ret
            exact ⟨rfl, hb1.then hb2⟩
          | ok ts =>
            have hL : AlikeR (lexL (a ++ ⟨#[10]⟩ ++ b).data.toList) (lexL (a ++ ⟨#[37]⟩ ++ c ++ ⟨#[10]⟩ ++ wideS j ++ b).data.toList) := by
              have h1 := lexL_eq (s := a) (by omega)
              have h2 := lexL_eq (s := a ++ ⟨#[10]⟩ ++ b) (by rw [lines_size]; omega)
              have h3 := lexL_eq (s := a ++ ⟨#[37]⟩ ++ c ++ ⟨#[10]⟩ ++ wideS j ++ b) (by rw [rem_size]; omega)
              rw [h1] at hA
              rw [h2, h3, lines_list, rem_list]
              exact lex_remark hA HC.out (by unfold wideS; rw [mkB_list]; exact wide_blank j)
            have HA := mkHid hA
            clear hA
            rcases hL.cases with ⟨l, m, e1, e2, e3⟩ | ⟨p, q, er, e1, e2⟩
            · have hll := (lexL_good e1).2.1
              rw [size_list, lines_size] at hll
              have E1 := mkHid e1
              have E2 := mkHid e2
              have E3 := mkHid e3
              clear e1 e2 e3 hL
              go_wp2_with fail
              refine (lex_ok has (HW.out.below hb1) HA.out).mono ?_; rintro e w2 ⟨a2, cap2, rfl, _, _, hb2⟩
              replace hb1 := hb1.then hb2
              go_wp2_with fail
              refine (lex_ok hcs (HW.out.below hb1) E1.out).mono ?_; rintro e w3 ⟨a3, cap3, rfl, hr3, _, hb3⟩
              replace hb1 := hb1.then hb3
              go_wp2_with fail
              refine (lex_ok hds (HW.out.below hb1) E2.out).mono ?_; rintro e w4 ⟨a4, cap4, rfl, hr4, _, hb4⟩
              replace hb1 := hb1.then hb4
              go_wp2_with fail
              with_reducible refine (alike_yes2 rfl (hr3.below hb4) hr4 rfl E3.out (by omega)).mono ?_
              rintro e w5 ⟨rfl, hb5⟩
              go_wp2
              go_ret
              exact ⟨rfl, hb1.then hb5⟩
            · have E1 := mkHid e1
              have E2 := mkHid e2
              clear e1 e2 hL
              go_wp2_with fail
              refine (lex_ok has (HW.out.below hb1) HA.out).mono ?_; rintro e w2 ⟨a2, cap2, rfl, _, _, hb2⟩
              replace hb1 := hb1.then hb2
              go_wp2_with fail
              refine (lex_er hcs (HW.out.below hb1) E1.out).mono ?_; rintro e w3 ⟨rfl, hb3⟩
              replace hb1 := hb1.then hb3
              go_wp2_with fail
              refine (lex_er hds (HW.out.below hb1) E2.out).mono ?_; rintro e w4 ⟨rfl, hb4⟩
              replace hb1 := hb1.then hb4
              go_wp2_with fail
              with_reducible refine (alike_yes2 (n := 0) (m := 0) (xs := []) (ys := []) rfl (Row.empty _ none 0 (by omega) (fun _ => rfl)) (Row.empty _ none 0 (by omega) (fun _ => rfl)) rfl rfl (by simp)).mono ?_
              rintro e w5 ⟨rfl, hb5⟩
              go_wp2
              go_ret
              exact ⟨rfl, hb1.then hb5⟩
end Go.Proofs.YtinfefmoiimomaaDoor
