import Derived.Test.YtinfefmoiimomaaDoorV28
import Derived.Test.YtinfefmoiimomaaDoorV18
import Derived.Test.YtinfefmoiimomaaDoorVP3
namespace Go.Proofs.YtinfefmoiimomaaDoor
open Go.RowKit

theorem Ord.all {L : List UInt8} {e : Nat} {ts : List Tok} (h : Ord L e ts) : ∀ u ∈ ts, ∃ (p : Nat) (k : Int) (t : List UInt8) (n : Int) (len : Nat), u = ⟨k, mkB t, n, p⟩ ∧ p < L.length ∧ TokIs (L.drop p) k t n len := by
  induction h with
  | nil h1 h2 => intro u hu; simp at hu
  | cons h1 h2 h3 h4 h5 ih =>
    intro u hu
    rcases List.mem_cons.1 hu with rfl | hu
    · exact ⟨_, _, _, _, _, rfl, h2, h4⟩
    · exact ih u hu
def kd1 (c : UInt8) : Bool := !(smallB c) || !(c == 39)
def kd2 (c : UInt8) : Bool := !(greatB c) || (!(c == 39) && !(smallB c))
def kd3 (c : UInt8) : Bool := !(digitB c) || (!(c == 39) && !(smallB c) && !(greatB c))
def kd5 (c : UInt8) : Bool := !(punctB c) || (!(c == 39) && !(smallB c) && !(greatB c) && !(digitB c) && !(signB c))
def kd4 (c : UInt8) : Bool := !(signB c) || (!(c == 39) && !(smallB c) && !(greatB c) && !(digitB c))
theorem kd1_all : (List.range 256).all (fun i => kd1 (UInt8.ofNat i)) = true := by decide +kernel
theorem kd2_all : (List.range 256).all (fun i => kd2 (UInt8.ofNat i)) = true := by decide +kernel
theorem kd3_all : (List.range 256).all (fun i => kd3 (UInt8.ofNat i)) = true := by decide +kernel
theorem kd4_all : (List.range 256).all (fun i => kd4 (UInt8.ofNat i)) = true := by decide +kernel
theorem kd5_all : (List.range 256).all (fun i => kd5 (UInt8.ofNat i)) = true := by decide +kernel
theorem kd_small {c : UInt8} (h : smallB c = true) : (c == 39) = false := by
  have := of_all kd1_all c
  rw [kd1, h] at this; simpa using this
theorem kd_great {c : UInt8} (h : greatB c = true) : (c == 39) = false ∧ smallB c = false := by
  have := of_all kd2_all c
  rw [kd2, h] at this
  simp only [Bool.not_true, Bool.false_or, Bool.and_eq_true, Bool.not_eq_true'] at this
  exact this
theorem kd_digit {c : UInt8} (h : digitB c = true) : (c == 39) = false ∧ smallB c = false ∧ greatB c = false := by
  have := of_all kd3_all c
  rw [kd3, h] at this
  simp only [Bool.not_true, Bool.false_or, Bool.and_eq_true, Bool.not_eq_true'] at this
  exact ⟨this.1.1, this.1.2, this.2⟩
theorem kd_sign {c : UInt8} (h : signB c = true) : (c == 39) = false ∧ smallB c = false ∧ greatB c = false ∧ digitB c = false := by
  have := of_all kd4_all c
  rw [kd4, h] at this
  simp only [Bool.not_true, Bool.false_or, Bool.and_eq_true, Bool.not_eq_true'] at this
  exact ⟨this.1.1.1, this.1.1.2, this.1.2, this.2⟩
theorem kd_punct {c : UInt8} (h : punctB c = true) : (c == 39) = false ∧ smallB c = false ∧ greatB c = false ∧ digitB c = false ∧ signB c = false := by
  have := of_all kd5_all c
  rw [kd5, h] at this
  simp only [Bool.not_true, Bool.false_or, Bool.and_eq_true, Bool.not_eq_true'] at this
  exact ⟨this.1.1.1.1, this.1.1.1.2, this.1.1.2, this.1.2, this.2⟩
/-- what a kind says of a token and of its first byte -/
inductive KindIs (c : UInt8) : Int → ByteArray → Int → Prop where
  | name {S : ByteArray} (h : smallB c = true) (hl : S.size ≤ 12) : KindIs c 1 S 0
  | var {S : ByteArray} (h : greatB c = true) : KindIs c 2 S 0
  | num {S : ByteArray} {m : Nat} (h : digitB c = true) (hm : m ≤ 2147483647) : KindIs c 3 S m
  | quo {S : ByteArray} (h : c = 39) (hl : S.size ≤ 12) : KindIs c 1 S 0
  | punct {S : ByteArray} (h : punctB c = true) (hl : S.size = 1) : KindIs c 5 S 0
  | stop (h : c = 46) : KindIs c 6 ⟨#[46]⟩ 0
  | sign {S : ByteArray} (h : signB c = true) (hl : S.size ≤ 12) : KindIs c 4 S 0
theorem TokIs.kind {c : UInt8} {r : List UInt8} {k : Int} {t : List UInt8} {n : Int} {len : Nat} (h : TokIs (c :: r) k t n len) : KindIs c k (mkB t) n := by
  cases h with
  | name h hl => exact .name h (by rw [mkB_size]; exact hl)
  | var h hl => exact .var h
  | num h hl => exact .num h hl
  | quo h =>
    simp only [quoB, Bool.and_eq_true, decide_eq_true_eq] at h
    exact .quo rfl (by rw [mkB_size]; exact h.1.2)
  | punct h => exact .punct h (by rw [mkB_size]; rfl)
  | stop h => exact .stop rfl
  | sign h hs hl => exact .sign h (by rw [mkB_size]; exact hl)

set_option maxHeartbeats 6400000 in
set_option maxRecDepth 100000 in
theorem kinds_ok (s : ByteArray) (ts : List Tok) (w : World) (hs : s.size ≤ 3000) (hA : lexL s.data.toList = .ok ts) (hw : LibVars w) :
    Calls Tryd.prog 8 #[.string s] w fun e w' => e = .returned (.bool true) ∧ Below w.heap.size w w' := by
  have has : s.size ≤ 1000000000 := by omega
  have hO := (lexW_ord (L := s.data.toList) (ts := ts) (by rw [← hA, lexL_eq (by omega)])).all
  have hlt := (lexL_good hA).2.1
  rw [size_list] at hlt
  have HA := mkHid hA
  have HO := mkHid hO
  clear hA hO
  go_enter Tryd.func8, Tryd.ntmps8
  go_wp2_with fail
  refine (head_any w hw).mono ?_; rintro e w1 ⟨rfl, hb1⟩
  go_wp2_with fail
  refine (lex_ok has (hw.below hb1) HA.out).mono ?_; rintro e w2 ⟨a2, cap2, rfl, hr2, _, hb2⟩
  replace hb1 := hb1.then hb2
  have HR2 := mkHid hr2
  clear hr2 hw
  go_wp2
  go_loop [7] (fun i => ∃ k : Nat, k ≤ ts.length ∧ i = .int .i64 k) (fun i => ts.length - (intOf i).toNat)
  case atStart => exact ⟨0, Nat.zero_le _, rfl⟩
  case round =>
    obtain ⟨k, hk, rfl⟩ := hrel
    by_cases hlk : k < ts.length
    · obtain ⟨p, kk, tt, nn, len, hu, hpl, hti⟩ := HO.out ts[k] (List.getElem_mem hlk)
      rw [size_list] at hpl
      obtain ⟨b, off, rfl, _⟩ := HR2.out.cases.resolve_left (fun e => by simp [e] at hlk)
      have hat := tok_at HR2.out (Below.refl _ _) hlk
      rw [hu] at hat
      obtain ⟨c0, c1, c2, c3, hf⟩ := hat
      simp only at c0 c1 c2 c3
      obtain ⟨h1, _⟩ := tok_here hpl hti
      rw [drop_consB s p hpl] at hti
      have hki := hti.kind
      generalize mkB tt = S at c1 hf h1 hu hki
      have z0 : ((S.size : Int) == 0) = false := by rw [beq_eq_false_iff_ne]; omega
      have hp0 : (0 : Int) ≤ (p : Int) := by omega
      have hp1 : (p : Int) < (s.size : Int) := by omega
      have h39 : ((s[p].toNat : Int) == 39) = (s[p] == 39) := eqU s[p] 39
      have h46 : ((s[p].toNat : Int) != 46) = !(s[p] == 46) := neU s[p] 46
      clear hu hti hf
      cases hki with
      | name h hl =>
        rw [kd_small h] at h39
        have G1 := mkHid h
        have l12 : decide ((12 : Int) < (S.size : Int)) = false := by simp; omega
        clear h
        go_wp2_with (first | (go_at_call 18; refine (rSmall_lit G1.out).mono ?_; rintro e w' ⟨rfl, rfl⟩))
        go_round
        case rel => exact ⟨k + 1, by omega, by go_num⟩
        case measure => simp [intOf]; omega
      | var h =>
        obtain ⟨g39, g1⟩ := kd_great h
        rw [g39] at h39
        have G1 := mkHid g1
        have G2 := mkHid h
        clear h g1 g39
        go_wp2_with (first | (go_at_call 18; refine (rSmall_lit G1.out).mono ?_; rintro e w' ⟨rfl, rfl⟩) | (go_at_call 19; refine (rGreat_lit G2.out).mono ?_; rintro e w' ⟨rfl, rfl⟩))
        go_round
        case rel => exact ⟨k + 1, by omega, by go_num⟩
        case measure => simp [intOf]; omega
      | num h hm =>
        rename_i m
        obtain ⟨g39, g1, g2⟩ := kd_digit h
        rw [g39] at h39
        have G1 := mkHid g1
        have G2 := mkHid g2
        have G3 := mkHid h
        have hm0 : (0 : Int) ≤ (m : Int) := by omega
        have hm1 : (m : Int) ≤ 2147483647 := by omega
        clear h g1 g2 g39
        cases hmz : ((m : Int) != 0) <;>
          go_wp2_with (first | (go_at_call 18; refine (rSmall_lit G1.out).mono ?_; rintro e w' ⟨rfl, rfl⟩) | (go_at_call 19; refine (rGreat_lit G2.out).mono ?_; rintro e w' ⟨rfl, rfl⟩) | (go_at_call 20; refine (rDigit_lit G3.out).mono ?_; rintro e w' ⟨rfl, rfl⟩))
        all_goals
          go_round
          case rel => exact ⟨k + 1, by omega, by go_num⟩
          case measure => simp [intOf]; omega
      | quo h hl =>
        rw [show (s[p] == 39) = true by simpa using h] at h39
        have l12 : decide ((12 : Int) < (S.size : Int)) = false := by simp; omega
        clear h
        go_wp2
        go_round
        case rel => exact ⟨k + 1, by omega, by go_num⟩
        case measure => simp [intOf]; omega
      | punct h hl =>
        obtain ⟨g39, g1, g2, g3, g4⟩ := kd_punct h
        rw [g39] at h39
        have G1 := mkHid g1
        have G2 := mkHid g2
        have G3 := mkHid g3
        have G4 := mkHid g4
        have l1 : ((S.size : Int) != 1) = false := by rw [hl]; rfl
        have l1' : ((S.size : Int) == 1) = true := by rw [hl]; rfl
        clear h g1 g2 g39 g3 g4 hl
        go_wp2_with (first | (go_at_call 18; refine (rSmall_lit G1.out).mono ?_; rintro e w' ⟨rfl, rfl⟩) | (go_at_call 19; refine (rGreat_lit G2.out).mono ?_; rintro e w' ⟨rfl, rfl⟩) | (go_at_call 20; refine (rDigit_lit G3.out).mono ?_; rintro e w' ⟨rfl, rfl⟩) | (go_at_call 21; refine (rSign_lit G4.out).mono ?_; rintro e w' ⟨rfl, rfl⟩))
        go_round
        case rel => exact ⟨k + 1, by omega, by go_num⟩
        case measure => simp [intOf]; omega
      | stop h =>
        have g4 : signB s[p] = true := by rw [h]; decide
        obtain ⟨g39, g1, g2, g3⟩ := kd_sign g4
        rw [g39] at h39
        rw [show (s[p] == 46) = true by simpa using h] at h46
        have G1 := mkHid g1
        have G2 := mkHid g2
        have G3 := mkHid g3
        have G4 := mkHid g4
        clear h g1 g2 g39 g3 g4
        go_wp2_with (first | (go_at_call 18; refine (rSmall_lit G1.out).mono ?_; rintro e w' ⟨rfl, rfl⟩) | (go_at_call 19; refine (rGreat_lit G2.out).mono ?_; rintro e w' ⟨rfl, rfl⟩) | (go_at_call 20; refine (rDigit_lit G3.out).mono ?_; rintro e w' ⟨rfl, rfl⟩) | (go_at_call 21; refine (rSign_lit G4.out).mono ?_; rintro e w' ⟨rfl, rfl⟩))
        go_round
        case rel => exact ⟨k + 1, by omega, by go_num⟩
        case measure => simp [intOf]; omega
      | sign h hl =>
        obtain ⟨g39, g1, g2, g3⟩ := kd_sign h
        rw [g39] at h39
        have G1 := mkHid g1
        have G2 := mkHid g2
        have G3 := mkHid g3
        have G4 := mkHid h
        have l12 : decide ((12 : Int) < (S.size : Int)) = false := by simp; omega
        clear h g1 g2 g39 g3
        go_wp2_with (first | (go_at_call 18; refine (rSmall_lit G1.out).mono ?_; rintro e w' ⟨rfl, rfl⟩) | (go_at_call 19; refine (rGreat_lit G2.out).mono ?_; rintro e w' ⟨rfl, rfl⟩) | (go_at_call 20; refine (rDigit_lit G3.out).mono ?_; rintro e w' ⟨rfl, rfl⟩) | (go_at_call 21; refine (rSign_lit G4.out).mono ?_; rintro e w' ⟨rfl, rfl⟩))
        go_round
        case rel => exact ⟨k + 1, by omega, by go_num⟩
        case measure => simp [intOf]; omega
    · go_wp2
      go_ret
      exact ⟨rfl, hb1⟩
set_option maxHeartbeats 800000 in
set_option maxRecDepth 100000 in
theorem lawKinds_any (s : ByteArray) (w : World) (has : s.size ≤ 140737488355328) (hw : LibVars w) :
    Calls Tryd.prog 8 #[.string s] w fun e w' => e = .returned (.bool true) ∧ Below w.heap.size w w' := by
  by_cases hbig : 3000 < (s.size : Int)
  · go_enter Tryd.func8, Tryd.ntmps8
    go_wp2_with fail
    refine (head_any w hw).mono ?_; rintro e w1 ⟨rfl, hb1⟩
    go_wp2
    go_ret
    exact ⟨rfl, hb1⟩
  have ha : s.size ≤ 3000 := by omega
  cases hA : lexL s.data.toList with
  | error pe =>
    obtain ⟨p, er⟩ := pe
    have HA := mkHid hA
    clear hA
    go_enter Tryd.func8, Tryd.ntmps8
    go_wp2_with fail
    refine (head_any w hw).mono ?_; rintro e w1 ⟨rfl, hb1⟩
    go_wp2_with fail
    refine (lex_er (by omega) (hw.below hb1) HA.out).mono ?_; rintro e w2 ⟨rfl, hb2⟩
    go_wp2
    go_loop [7] (fun i => i = .int .i64 0) (fun i => 0)
    case atStart => rfl
    case round =>
      obtain rfl := hrel
      go_wp2
      go_ret
      exact ⟨rfl, hb1.then hb2⟩
  | ok ts => exact kinds_ok s ts w ha hA hw
end Go.Proofs.YtinfefmoiimomaaDoor
