import Derived.Test.YtinfefmoiimomaaDoorV28
import Derived.Test.YtinfefmoiimomaaDoorV18
import Derived.Test.YtinfefmoiimomaaDoorVP7
namespace Go.Proofs.YtinfefmoiimomaaDoor
open Go.RowKit

set_option maxHeartbeats 1600000 in
theorem plain_any (s : ByteArray) (w : World) (hs : s.size ≤ 1000000) :
    Calls Tryd.prog 17 #[.string s] w fun e w' => e = .returned (.bool (plainB s.data.toList)) ∧ w = w' := by
  go_enter Tryd.func17, Tryd.ntmps17
  go_wp2
  go_loop [3] (fun i => ∃ k : Nat, k ≤ s.size ∧ i = .int .i64 k ∧ Hid ((s.data.toList.take k).all letterB = true)) (fun i => s.size - (intOf i).toNat)
  case atStart => exact ⟨0, Nat.zero_le _, rfl, mkHid (by simp)⟩
  case round =>
    obtain ⟨k, hk, rfl, HA⟩ := hrel
    by_cases hlt : k < s.size
    · cases hc : letterB s[k] with
      | true =>
        have HN := mkHid (all_snocB s k hlt HA.out hc)
        have HC := mkHid hc
        clear hc HA
        go_wp2_with (go_at_call 24; refine (rLetter_lit HC.out).mono ?_; rintro e w' ⟨rfl, rfl⟩)
        go_round
        case rel => exact ⟨k + 1, by omega, by go_num, HN⟩
        case measure => simp [intOf]; omega
      | false =>
        have HN : Hid (plainB s.data.toList = false) := by
          have e : s.data.toList.all letterB = false := by
            rw [List.all_eq_false]
            exact ⟨s[k], by simp [ByteArray.getElem_eq_getElem_data], by simp [hc]⟩
          rw [Hid]
          cases hl : s.data.toList with
          | nil => rfl
          | cons c r => rw [hl] at e; simp only [plainB, e, Bool.false_and]
        have HC := mkHid hc
        clear hc HA
        go_wp2_with (go_at_call 24; refine (rLetter_lit HC.out).mono ?_; rintro e w' ⟨rfl, rfl⟩)
        go_ret
        exact ⟨ret_bool HN.out.symm, rfl⟩
    · have h := HA.out
      rw [List.take_of_length_le (by simp; omega)] at h
      clear HA
      by_cases hz : 0 < s.size
      · have hp : plainB s.data.toList = smallB s[0] := by
          have hd := drop_consB s 0 hz
          rw [List.drop_zero] at hd
          rw [hd] at h ⊢
          simp only [plainB, h, Bool.true_and]
        have HP := mkHid hp
        clear h hp
        cases g : smallB s[0] with
        | true =>
          have G := mkHid g
          clear g
          go_wp2_with (go_at_call 18; refine (rSmall_lit G.out).mono ?_; rintro e w' ⟨rfl, rfl⟩)
          go_ret
          exact ⟨ret_bool (by rw [HP.out, G.out]), rfl⟩
        | false =>
          have G := mkHid g
          clear g
          go_wp2_with (go_at_call 18; refine (rSmall_lit G.out).mono ?_; rintro e w' ⟨rfl, rfl⟩)
          go_ret
          exact ⟨ret_bool (by rw [HP.out, G.out]), rfl⟩
      · have hp : plainB s.data.toList = false := by
          have : s.data.toList = [] := List.eq_nil_of_length_eq_zero (by rw [size_list]; omega)
          rw [this]; rfl
        have HP := mkHid hp
        clear h hp
        go_wp2
        go_ret
        exact ⟨ret_bool HP.out.symm, rfl⟩
theorem plain_lit {s : ByteArray} {w : World} {b : Bool} (hs : s.size ≤ 1000000) (hb : plainB s.data.toList = b) : Calls Tryd.prog 17 #[.string s] w fun e w' => e = .returned (.bool b) ∧ w = w' := by
  subst hb; exact plain_any s w hs

set_option maxHeartbeats 6400000 in
set_option maxRecDepth 100000 in
theorem again_ok (s : ByteArray) (ts : List Tok) (w : World) (hs : s.size ≤ 3000) (hA : lexL s.data.toList = .ok ts) (hw : LibVars w) :
    Calls Tryd.prog 7 #[.string s] w fun e w' => e = .returned (.bool true) ∧ Below w.heap.size w w' := by
  have has : s.size ≤ 1000000000 := by omega
  have hO := lexW_ord (L := s.data.toList) (ts := ts) (by rw [← hA, lexL_eq (by omega)])
  have hlt := (lexL_good hA).2.1
  rw [size_list] at hlt
  have hwr := hO.write
  rw [size_list] at hwr
  have hwk : (writeK ts).length ≤ 12000 := by omega
  have hB : lexL (WB ts ts.length).data.toList = .ok (agains ts 0) := by
    rw [WB_all]; unfold lexL; rw [if_neg (by omega)]; exact lex_writeK ts hO.w 0
  have HO := mkHid hO.here
  have HA := mkHid hA
  have HB := mkHid hB
  have hWs : ∀ k, (WB ts k).size ≤ 12000 := fun k => Nat.le_trans (WB_le ts k) hwk
  have HWS := mkHid hWs
  clear hA hO hB hwr hWs
  go_enter Tryd.func7, Tryd.ntmps7
  go_wp2_with fail
  refine (head_any w hw).mono ?_; rintro e w1 ⟨rfl, hb1⟩
  go_wp2_with fail
  refine (lex_ok has (hw.below hb1) HA.out).mono ?_; rintro e w2 ⟨a2, cap2, rfl, hr2, _, hb2⟩
  replace hb1 := hb1.then hb2
  replace hw := hw.below hb1
  have HR2 := mkHid hr2
  clear hr2
  go_wp2
  go_loop [7, 8] (fun t i => ∃ k : Nat, k ≤ ts.length ∧ i = .int .i64 k ∧ t = .string (WB ts k)) (fun t i => ts.length - (intOf i).toNat)
  case atStart => exact ⟨0, Nat.zero_le _, rfl, rfl⟩
  case round =>
    obtain ⟨k, hk, rfl, rfl⟩ := hrel
    have hWk := HWS.out k
    by_cases hlk : k < ts.length
    · obtain ⟨p, kk, tt, nn, len, hu, hpl, hti⟩ := HO.out ts[k] (List.getElem_mem hlk)
      have hsz : ts[k].s.size ≤ 3000 := by
        rw [hu]
        have h1 := hti.len_ge
        have h2 := hti.len_pos
        rw [List.length_drop] at h2
        rw [size_list] at hpl h2
        simp only [mkB_size]; omega
      obtain ⟨b, off, rfl, _⟩ := HR2.out.cases.resolve_left (fun e => by simp [e] at hlk)
      obtain ⟨c0, c1, c2, c3, hf⟩ := tok_at HR2.out (Below.refl _ _) hlk
      have hq := WB_quo ts k hlk
      have hbr := WB_bare ts k hlk
      generalize ts[k].k = K at *
      generalize ts[k].s = S at *
      clear hu hpl hti hf
      by_cases hK : K = 1
      · subst hK
        cases hpl : plainB S.data.toList with
        | true =>
          have e := hbr (by rw [hpl]; simp)
          have HPL := mkHid hpl
          clear hq hbr hpl
          go_wp2_with (go_at_call 17; refine (plain_lit (by omega) HPL.out).mono ?_; rintro e w' ⟨rfl, rfl⟩)
          go_round
          case rel => exact ⟨k + 1, by omega, by go_num, rfl⟩
          case measure => simp [intOf]; omega
        | false =>
          have e := hq rfl hpl
          have HPL := mkHid hpl
          clear hq hbr hpl
          go_wp2_with (go_at_call 17; refine (plain_lit (by omega) HPL.out).mono ?_; rintro e w' ⟨rfl, rfl⟩)
          go_round
          case rel => exact ⟨k + 1, by omega, by go_num, rfl⟩
          case measure => simp [intOf]; omega
      · have e := hbr (fun h => hK h.1)
        have t1 : (K == 1) = false := by simp [hK]
        clear hq hbr hK
        go_wp2
        go_round
        case rel => exact ⟨k + 1, by omega, by go_num, rfl⟩
        case measure => simp [intOf]; omega
    · obtain rfl : k = ts.length := by omega
      have hbs : (WB ts ts.length).size ≤ 1000000000 := by omega
      have hal := agains_length ts 0
      have HAL := mkHid hal
      have t2 : ((((agains ts 0).length : Nat) : Int) != ((ts.length : Nat) : Int)) = false := by rw [hal]; simp
      clear hal
      go_wp2_with fail
      refine (lex_ok hbs hw HB.out).mono ?_; rintro e w3 ⟨a3, cap3, rfl, hr3, _, hb3⟩
      have HR3 := mkHid hr3
      have HG := mkHid (agains_get ts 0)
      clear hr3 hw
      go_wp2
      go_loopw [12] (fun i wr => ∃ k : Nat, k ≤ ts.length ∧ i = .int .i64 k ∧ Below w3.heap.size w3 wr) (fun i wr => ts.length - (intOf i).toNat)
      case atStart => exact ⟨0, Nat.zero_le _, rfl, Below.refl _ _⟩
      case round =>
        obtain ⟨k, hk, rfl, hbl⟩ := hrel
        by_cases hlk : k < ts.length
        · obtain ⟨p, hp⟩ := HG.out k hlk
          have hlk3 : k < (agains ts 0).length := by rw [HAL.out]; exact hlk
          obtain ⟨b, off, rfl, _⟩ := HR2.out.cases.resolve_left (fun e => by simp [e] at hlk)
          obtain ⟨b', off', rfl, _⟩ := HR3.out.cases.resolve_left (fun e => by simp [e] at hlk3)
          have hx := tok_at HR2.out (hb3.then hbl) hlk
          have hy := tok_at HR3.out hbl hlk3
          rw [hp] at hy
          obtain ⟨v, hv⟩ : ∃ v, v = ts[k] := ⟨_, rfl⟩
          rw [← hv] at hx hy
          clear hp hv
          obtain ⟨K, S, N, P⟩ := v
          have hb3' : (k : Int) < ((agains ts 0).length : Int) := by omega
          by_cases hl : K = 4 ∧ S = mkB [46]
          · obtain ⟨rfl, rfl⟩ := hl
            have ey : again ⟨4, mkB [46], N, P⟩ p = ⟨6, ⟨#[46]⟩, N, p⟩ := rfl
            rw [ey] at hy
            have hx1 : TokAt wr b (off + k * 4) ⟨4, ⟨#[46]⟩, N, P⟩ := hx
            have hxn := hx1.keeps (Keeps.of ((Below.refl _ _).new (.cells #[.int .i64 6, .string ⟨#[46]⟩, .int .i64 N, .int .i64 P] 30)))
            have hxo := hx1.keeps (Keeps.of ((Below.refl _ _).new (.cells #[.int .i64 6, .string ⟨#[46]⟩, .int .i64 N, .int .i64 p] 30)))
            have hbn := hbl.new (.cells #[.int .i64 6, .string ⟨#[46]⟩, .int .i64 N, .int .i64 P] 30)
            obtain ⟨d0, d1, d2, d3, _⟩ := hxn
            obtain ⟨_, _, _, g3, _⟩ := hxo
            obtain ⟨y0, y1, y2, y3, hfy⟩ := hy
            simp only at d0 d1 d2 d3 g3 y0 y1 y2 y3
            have hne := fun W => run_neq_tok ⟨6, ⟨#[46]⟩, N, P⟩ ⟨4, ⟨#[46]⟩, N, P⟩ W
            rw [show decide ((⟨6, ⟨#[46]⟩, N, P⟩ : Tok) = ⟨4, ⟨#[46]⟩, N, P⟩) = false from decide_eq_false (fun e => by injection e with e; omega)] at hne
            simp only [Bool.not_false] at hne
            clear hx hx1 ey hfy
            go_wp2
            go_quiet (fail)
            go_wp2
            go_roundw
            case rel => exact ⟨k + 1, by omega, by go_num, ⟨hbn.os, hbn.tape, hbn.output, hbn.size, hbn.block⟩⟩
            case measure => simp [intOf]; omega
          · have ey : again ⟨K, S, N, P⟩ p = ⟨K, S, N, p⟩ := by unfold again; rw [if_neg hl]
            rw [ey] at hy
            have hxn := hx.keeps (Keeps.of ((Below.refl _ _).new (.cells #[.int .i64 K, .string S, .int .i64 N, .int .i64 P] 30)))
            have hxo := hx.keeps (Keeps.of ((Below.refl _ _).new (.cells #[.int .i64 K, .string S, .int .i64 N, .int .i64 p] 30)))
            have hbn := hbl.new (.cells #[.int .i64 K, .string S, .int .i64 N, .int .i64 P] 30)
            obtain ⟨d0, d1, d2, d3, _⟩ := hxn
            obtain ⟨_, _, _, g3, _⟩ := hxo
            obtain ⟨y0, y1, y2, y3, hfy⟩ := hy
            simp only at d0 d1 d2 d3 g3 y0 y1 y2 y3
            have hne := fun W => run_neq_tok ⟨K, S, N, P⟩ ⟨K, S, N, P⟩ W
            simp only [decide_true, Bool.not_true] at hne
            by_cases hK : K = 4
            · subst hK
              have hS : (S.toList == (⟨#[46]⟩ : ByteArray).toList) = false := by
                rw [beq_eq_false_iff_ne]
                intro e
                exact hl ⟨rfl, (toListB_inj _ _).1 e⟩
              have hS2 : (S.toList == [46]) = false := by
                rw [beq_eq_false_iff_ne] at hS ⊢
                intro e
                apply hS
                rw [e, ByteArray.toList_eq]
              clear hx ey hfy hl
              go_wp2
              go_quiet (fail)
              go_wp2
              go_roundw
              case rel => exact ⟨k + 1, by omega, by go_num, ⟨hbn.os, hbn.tape, hbn.output, hbn.size, hbn.block⟩⟩
              case measure => simp [intOf]; omega
            · have t1 : (K == 4) = false := by simp [hK]
              clear hx ey hfy hl hK
              go_wp2
              go_quiet (fail)
              go_wp2
              go_roundw
              case rel => exact ⟨k + 1, by omega, by go_num, ⟨hbn.os, hbn.tape, hbn.output, hbn.size, hbn.block⟩⟩
              case measure => simp [intOf]; omega
        · go_wp2
          go_ret
          exact ⟨rfl, (hb1.then hb3).then hbl⟩
set_option maxHeartbeats 800000 in
set_option maxRecDepth 100000 in
theorem lawAgain_any (s : ByteArray) (w : World) (has : s.size ≤ 140737488355328) (hw : LibVars w) :
    Calls Tryd.prog 7 #[.string s] w fun e w' => e = .returned (.bool true) ∧ Below w.heap.size w w' := by
  by_cases hbig : 3000 < (s.size : Int)
  · go_enter Tryd.func7, Tryd.ntmps7
    go_wp2_with fail
    refine (head_any w hw).mono ?_; rintro e w1 ⟨rfl, hb1⟩
    go_wp2
    go_ret
    exact ⟨rfl, hb1⟩
  have ha : s.size ≤ 3000 := by omega
  cases hA : lexL s.data.toList with
  | error pe =>
    obtain ⟨p, er⟩ := pe
    obtain ⟨hne, _⟩ := lexL_bad hA
    have t1 : (er == 0) = false := by simp; omega
    have t2 : (er != 0) = true := by simp; omega
    have HA := mkHid hA
    clear hA hne
    go_enter Tryd.func7, Tryd.ntmps7
    go_wp2_with fail
    refine (head_any w hw).mono ?_; rintro e w1 ⟨rfl, hb1⟩
    go_wp2_with fail
    refine (lex_er (by omega) (hw.below hb1) HA.out).mono ?_; rintro e w2 ⟨rfl, hb2⟩
    go_wp2
    go_ret
    exact ⟨rfl, hb1.then hb2⟩
  | ok ts => exact again_ok s ts w ha hA hw
end Go.Proofs.YtinfefmoiimomaaDoor
