import Derived.Test.YtinfefmoiimomaaDoorV17
import Derived.Test.YtinfefmoiimomaaDoorV18
import Derived.Test.YtinfefmoiimomaaDoorVP3
import Derived.Laws.IdiomStrings
namespace Go.Proofs.YtinfefmoiimomaaDoor
open Go.RowKit

/-- a text with a line behind it -/
theorem more_err {a : ByteArray} {ts : List Tok} {b : List UInt8} {q : Nat} {e : Int} (ha : a.size ≤ 3000) (hA : lexL a.data.toList = .ok ts) (hb : b.length ≤ 100) (hB : lexW false b 0 = .error (q, e)) (s : ByteArray) (hs : s.data.toList = a.data.toList ++ 10 :: b) :
    lexL s.data.toList = .error (q + (a.size + 1), e) := by
  have hB' : lexL b = .error (q, e) := by unfold lexL; rw [if_neg (by omega)]; exact hB
  rw [hs, lines_eq (by rw [size_list]; omega), hA, hB', size_list]; rfl
theorem more_ok {a : ByteArray} {ts us : List Tok} {b : List UInt8} (ha : a.size ≤ 3000) (hA : lexL a.data.toList = .ok ts) (hb : b.length ≤ 100) (hB : lexW false b 0 = .ok us) (s : ByteArray) (hs : s.data.toList = a.data.toList ++ 10 :: b) :
    ∃ vs, lexL s.data.toList = .ok vs ∧ vs.length = ts.length + us.length := by
  have hB' : lexL b = .ok us := by unfold lexL; rw [if_neg (by omega)]; exact hB
  rw [hs, lines_eq (by rw [size_list]; omega), hA, hB']
  exact ⟨_, rfl, by simp⟩
theorem conv_byte (c : UInt8) (W : World) : (convert 38 9 (.slice (some ⟨W.heap.size, 0, none⟩) 1 1)).run Tryd.prog (W.alloc (.cells #[.int .u8 (c.toNat : Int)] 5)) = .ok (.string ⟨#[c]⟩) (W.alloc (.cells #[.int .u8 (c.toNat : Int)] 5)) :=
  run_convert_bytes_back _ 38 9 5 ⟨W.heap.size, 0, none⟩ 1 [c] Tryd.underlying38 Tryd.underlying5 Tryd.underlying9 (fun j hj => by
    obtain rfl : j = 0 := by simp at hj; exact hj
    exact World.cell?_alloc_at _ _ _ 0 rfl)
set_option maxHeartbeats 3200000 in
set_option maxRecDepth 100000 in
theorem lawOdd_blank (a : ByteArray) (c : UInt8) (w : World) (ts : List Tok) (ha : a.size ≤ 3000) (hA : lexL a.data.toList = .ok ts) (hw : LibVars w) (hg : (blankB c || c == 37) = true) :
    Calls Tryd.prog 10 #[.string a, .int .u8 (c.toNat : Int)] w fun e w' => e = .returned (.bool true) ∧ Below w.heap.size w w' := by
  have HA := mkHid hA
  have has : a.size ≤ 1000000000 := by omega
  have hs1 : (a ++ ⟨#[10, 39, 39]⟩).size ≤ 1000000000 := by rw [← size_list, join_list, List.length_append, size_list]; simp; omega
  have hs2 : (a ++ ⟨#[10, 97, 98, 99, 100, 101, 102, 103, 104, 105, 106, 107, 108, 109]⟩).size ≤ 1000000000 := by rw [← size_list, join_list, List.length_append, size_list]; simp; omega
  have H1 := mkHid (more_err ha hA (b := [39, 39]) (by simp) (odd_quote 39) (a ++ ⟨#[10, 39, 39]⟩) (by rw [join_list]))
  have H2 := mkHid (more_err ha hA (b := [97, 98, 99, 100, 101, 102, 103, 104, 105, 106, 107, 108, 109]) (q := 0) (e := 2) (by simp) (by kernel_rfl) (a ++ ⟨#[10, 97, 98, 99, 100, 101, 102, 103, 104, 105, 106, 107, 108, 109]⟩) (by rw [join_list]))
  have hs3 : (a ++ ⟨#[10, 39]⟩ ++ ⟨#[c]⟩).size ≤ 1000000000 := by rw [← size_list, join_list, join_list, List.length_append, List.length_append, size_list]; simp; omega
  have H3 := mkHid (more_err ha hA (b := [39, c]) (by simp) (odd_quote c) (a ++ ⟨#[10, 39]⟩ ++ ⟨#[c]⟩) (by rw [join_list, join_list]; simp))
  have hs4 : (a ++ ⟨#[10]⟩ ++ ⟨#[c]⟩).size ≤ 1000000000 := by rw [← size_list, join_list, join_list, List.length_append, List.length_append, size_list]; simp; omega
  have hcv := conv_byte c
  obtain ⟨vs, h4, hl4⟩ := more_ok ha hA (b := [c]) (by simp) (odd_blank hg) (a ++ ⟨#[10]⟩ ++ ⟨#[c]⟩) (by rw [join_list, join_list]; simp)
  have H4 := mkHid h4
  have t4 : ((vs.length : Int) == (ts.length : Int)) = true := by simp at hl4; simp; omega
  have HG := mkHid hg
  clear hA hg h4 hl4
  go_enter Tryd.func10, Tryd.ntmps10
  go_wp2_with fail
  refine (head_any w hw).mono ?_; rintro e w1 ⟨rfl, hb1⟩
  replace hw := hw.below hb1
  go_wp2_with fail
  refine (lex_ok has hw HA.out).mono ?_; rintro e w2 ⟨a2, cap2, rfl, _, _, hb2⟩
  replace hw := hw.below hb2
  replace hb1 := hb1.then hb2
  go_wp2_with fail
  refine (lex_er hs1 hw H1.out).mono ?_; rintro e w3 ⟨rfl, hb3⟩
  replace hw := hw.below hb3
  replace hb1 := hb1.then hb3
  go_wp2_with fail
  refine (lex_er hs2 hw H2.out).mono ?_; rintro e w4 ⟨rfl, hb4⟩
  replace hw := (hw.below hb4).below ((Below.refl _ _).new (.cells #[.int .u8 (c.toNat : Int)] 5))
  replace hb1 := (hb1.then hb4).new (.cells #[.int .u8 (c.toNat : Int)] 5)
  go_wp2_with fail
  refine (lex_er hs3 hw H3.out).mono ?_; rintro e w5 ⟨rfl, hb5⟩
  replace hw := (hw.below hb5).below ((Below.refl _ _).new (.cells #[.int .u8 (c.toNat : Int)] 5))
  replace hb1 := (hb1.then hb5).new (.cells #[.int .u8 (c.toNat : Int)] 5)
  go_wp2_with fail
  refine (lex_ok hs4 hw H4.out).mono ?_; rintro e w6 ⟨a6, cap6, rfl, _, _, hb6⟩
  replace hb1 := hb1.then hb6
  clear hcv hw hb6
  have h37 : ((c.toNat : Int) == 37) = (c == 37) := eqU c 37
  have hg := HG.out
  cases g1 : blankB c with
  | true =>
    have G1 := mkHid g1
    clear g1 hg
    go_wp2_with (first | (go_at_call 23; refine (rBlank_lit G1.out).mono ?_; rintro e w' ⟨rfl, rfl⟩))
    go_ret
    exact ⟨rfl, hb1⟩
  | false =>
    have G1 := mkHid g1
    rw [g1, Bool.false_or] at hg
    rw [hg] at h37
    clear g1 hg
    go_wp2_with (first | (go_at_call 23; refine (rBlank_lit G1.out).mono ?_; rintro e w' ⟨rfl, rfl⟩))
    go_ret
    exact ⟨rfl, hb1⟩
set_option maxHeartbeats 3200000 in
set_option maxRecDepth 100000 in
theorem lawOdd_one (a : ByteArray) (c : UInt8) (w : World) (ts : List Tok) (ha : a.size ≤ 3000) (hA : lexL a.data.toList = .ok ts) (hw : LibVars w) (hg : (letterB c || signB c || punctB c) = true) :
    Calls Tryd.prog 10 #[.string a, .int .u8 (c.toNat : Int)] w fun e w' => e = .returned (.bool true) ∧ Below w.heap.size w w' := by
  have HA := mkHid hA
  have has : a.size ≤ 1000000000 := by omega
  have hs1 : (a ++ ⟨#[10, 39, 39]⟩).size ≤ 1000000000 := by rw [← size_list, join_list, List.length_append, size_list]; simp; omega
  have hs2 : (a ++ ⟨#[10, 97, 98, 99, 100, 101, 102, 103, 104, 105, 106, 107, 108, 109]⟩).size ≤ 1000000000 := by rw [← size_list, join_list, List.length_append, size_list]; simp; omega
  have H1 := mkHid (more_err ha hA (b := [39, 39]) (by simp) (odd_quote 39) (a ++ ⟨#[10, 39, 39]⟩) (by rw [join_list]))
  have H2 := mkHid (more_err ha hA (b := [97, 98, 99, 100, 101, 102, 103, 104, 105, 106, 107, 108, 109]) (q := 0) (e := 2) (by simp) (by kernel_rfl) (a ++ ⟨#[10, 97, 98, 99, 100, 101, 102, 103, 104, 105, 106, 107, 108, 109]⟩) (by rw [join_list]))
  have hs3 : (a ++ ⟨#[10, 39]⟩ ++ ⟨#[c]⟩).size ≤ 1000000000 := by rw [← size_list, join_list, join_list, List.length_append, List.length_append, size_list]; simp; omega
  have H3 := mkHid (more_err ha hA (b := [39, c]) (by simp) (odd_quote c) (a ++ ⟨#[10, 39]⟩ ++ ⟨#[c]⟩) (by rw [join_list, join_list]; simp))
  have hs4 : (a ++ ⟨#[10]⟩ ++ ⟨#[c]⟩).size ≤ 1000000000 := by rw [← size_list, join_list, join_list, List.length_append, List.length_append, size_list]; simp; omega
  have hcv := conv_byte c
  obtain ⟨⟨u, hone⟩, gb, g37⟩ := odd_one hg
  obtain ⟨vs, h4, hl4⟩ := more_ok ha hA (b := [c]) (by simp) hone (a ++ ⟨#[10]⟩ ++ ⟨#[c]⟩) (by rw [join_list, join_list]; simp)
  have H4 := mkHid h4
  have hts : ts.length ≤ 3000 := by have := (lexL_good hA).2.1; rw [size_list] at this; omega
  have t4 : ((vs.length : Int) == (ts.length : Int) + 1) = true := by simp at hl4; simp; omega
  have h37 : ((c.toNat : Int) == 37) = false := (eqU c 37).trans g37
  have GB := mkHid gb
  have HG := mkHid hg
  clear hA hg h4 hl4 hone gb g37
  go_enter Tryd.func10, Tryd.ntmps10
  go_wp2_with fail
  refine (head_any w hw).mono ?_; rintro e w1 ⟨rfl, hb1⟩
  replace hw := hw.below hb1
  go_wp2_with fail
  refine (lex_ok has hw HA.out).mono ?_; rintro e w2 ⟨a2, cap2, rfl, _, _, hb2⟩
  replace hw := hw.below hb2
  replace hb1 := hb1.then hb2
  go_wp2_with fail
  refine (lex_er hs1 hw H1.out).mono ?_; rintro e w3 ⟨rfl, hb3⟩
  replace hw := hw.below hb3
  replace hb1 := hb1.then hb3
  go_wp2_with fail
  refine (lex_er hs2 hw H2.out).mono ?_; rintro e w4 ⟨rfl, hb4⟩
  replace hw := (hw.below hb4).below ((Below.refl _ _).new (.cells #[.int .u8 (c.toNat : Int)] 5))
  replace hb1 := (hb1.then hb4).new (.cells #[.int .u8 (c.toNat : Int)] 5)
  go_wp2_with fail
  refine (lex_er hs3 hw H3.out).mono ?_; rintro e w5 ⟨rfl, hb5⟩
  replace hw := (hw.below hb5).below ((Below.refl _ _).new (.cells #[.int .u8 (c.toNat : Int)] 5))
  replace hb1 := (hb1.then hb5).new (.cells #[.int .u8 (c.toNat : Int)] 5)
  go_wp2_with fail
  refine (lex_ok hs4 hw H4.out).mono ?_; rintro e w6 ⟨a6, cap6, rfl, _, _, hb6⟩
  replace hb1 := hb1.then hb6
  clear hcv hw hb6
  have hg := HG.out
  cases g1 : letterB c with
  | true =>
    have G1 := mkHid g1
    clear g1 hg
    go_wp2_with (first | (go_at_call 23; refine (rBlank_lit GB.out).mono ?_; rintro e w' ⟨rfl, rfl⟩) | (go_at_call 24; refine (rLetter_lit G1.out).mono ?_; rintro e w' ⟨rfl, rfl⟩))
    go_ret
    exact ⟨rfl, hb1⟩
  | false =>
    have G1 := mkHid g1
    rw [g1, Bool.false_or] at hg
    cases g2 : signB c with
    | true =>
      have G2 := mkHid g2
      clear g1 g2 hg
      go_wp2_with (first | (go_at_call 23; refine (rBlank_lit GB.out).mono ?_; rintro e w' ⟨rfl, rfl⟩) | (go_at_call 24; refine (rLetter_lit G1.out).mono ?_; rintro e w' ⟨rfl, rfl⟩) | (go_at_call 21; refine (rSign_lit G2.out).mono ?_; rintro e w' ⟨rfl, rfl⟩))
      go_ret
      exact ⟨rfl, hb1⟩
    | false =>
      have G2 := mkHid g2
      rw [g2, Bool.false_or] at hg
      have hm : c ∈ punctL := by simpa [punctB] using hg
      clear g1 g2 hg
      simp only [punctL, List.mem_cons, List.not_mem_nil, or_false] at hm
      rcases hm with rfl | rfl | rfl | rfl | rfl | rfl
      all_goals
        go_wp2_with (first | (go_at_call 23; refine (rBlank_lit GB.out).mono ?_; rintro e w' ⟨rfl, rfl⟩) | (go_at_call 24; refine (rLetter_lit G1.out).mono ?_; rintro e w' ⟨rfl, rfl⟩) | (go_at_call 21; refine (rSign_lit G2.out).mono ?_; rintro e w' ⟨rfl, rfl⟩))
        go_ret
        exact ⟨rfl, hb1⟩
set_option maxHeartbeats 3200000 in
set_option maxRecDepth 100000 in
theorem lawOdd_quote (a : ByteArray) (c : UInt8) (w : World) (ts : List Tok) (ha : a.size ≤ 3000) (hA : lexL a.data.toList = .ok ts) (hw : LibVars w) (hg : c = 39) :
    Calls Tryd.prog 10 #[.string a, .int .u8 (c.toNat : Int)] w fun e w' => e = .returned (.bool true) ∧ Below w.heap.size w w' := by
  have HA := mkHid hA
  have has : a.size ≤ 1000000000 := by omega
  have hs1 : (a ++ ⟨#[10, 39, 39]⟩).size ≤ 1000000000 := by rw [← size_list, join_list, List.length_append, size_list]; simp; omega
  have hs2 : (a ++ ⟨#[10, 97, 98, 99, 100, 101, 102, 103, 104, 105, 106, 107, 108, 109]⟩).size ≤ 1000000000 := by rw [← size_list, join_list, List.length_append, size_list]; simp; omega
  have H1 := mkHid (more_err ha hA (b := [39, 39]) (by simp) (odd_quote 39) (a ++ ⟨#[10, 39, 39]⟩) (by rw [join_list]))
  have H2 := mkHid (more_err ha hA (b := [97, 98, 99, 100, 101, 102, 103, 104, 105, 106, 107, 108, 109]) (q := 0) (e := 2) (by simp) (by kernel_rfl) (a ++ ⟨#[10, 97, 98, 99, 100, 101, 102, 103, 104, 105, 106, 107, 108, 109]⟩) (by rw [join_list]))
  have hs3 : (a ++ ⟨#[10, 39]⟩ ++ ⟨#[c]⟩).size ≤ 1000000000 := by rw [← size_list, join_list, join_list, List.length_append, List.length_append, size_list]; simp; omega
  have H3 := mkHid (more_err ha hA (b := [39, c]) (by simp) (odd_quote c) (a ++ ⟨#[10, 39]⟩ ++ ⟨#[c]⟩) (by rw [join_list, join_list]; simp))
  have hs4 : (a ++ ⟨#[10]⟩ ++ ⟨#[c]⟩).size ≤ 1000000000 := by rw [← size_list, join_list, join_list, List.length_append, List.length_append, size_list]; simp; omega
  have hcv := conv_byte c
  have H4 := mkHid (more_err ha hA (b := [c]) (q := 0) (e := 41) (by simp) (by rw [hg]; kernel_rfl) (a ++ ⟨#[10]⟩ ++ ⟨#[c]⟩) (by rw [join_list, join_list]; simp))
  have GB := mkHid (show blankB c = false by rw [hg]; decide)
  have G1 := mkHid (show letterB c = false by rw [hg]; decide)
  have G2 := mkHid (show signB c = false by rw [hg]; decide)
  have h37 : ((c.toNat : Int) == 37) = false := (eqU c 37).trans (by rw [hg]; decide)
  have h39 : ((c.toNat : Int) == 39) = true := (eqU c 39).trans (by rw [hg]; decide)
  have hne : ∀ d ∈ punctL, (c == d) = false := by rw [hg]; decide
  have m1 : ((c.toNat : Int) == 40) = false := (eqU c 40).trans (hne 40 (by decide))
  have m2 : ((c.toNat : Int) == 41) = false := (eqU c 41).trans (hne 41 (by decide))
  have m3 : ((c.toNat : Int) == 91) = false := (eqU c 91).trans (hne 91 (by decide))
  have m4 : ((c.toNat : Int) == 93) = false := (eqU c 93).trans (hne 93 (by decide))
  have m5 : ((c.toNat : Int) == 44) = false := (eqU c 44).trans (hne 44 (by decide))
  have m6 : ((c.toNat : Int) == 124) = false := (eqU c 124).trans (hne 124 (by decide))
  clear hA hg hne
  go_enter Tryd.func10, Tryd.ntmps10
  go_wp2_with fail
  refine (head_any w hw).mono ?_; rintro e w1 ⟨rfl, hb1⟩
  replace hw := hw.below hb1
  go_wp2_with fail
  refine (lex_ok has hw HA.out).mono ?_; rintro e w2 ⟨a2, cap2, rfl, _, _, hb2⟩
  replace hw := hw.below hb2
  replace hb1 := hb1.then hb2
  go_wp2_with fail
  refine (lex_er hs1 hw H1.out).mono ?_; rintro e w3 ⟨rfl, hb3⟩
  replace hw := hw.below hb3
  replace hb1 := hb1.then hb3
  go_wp2_with fail
  refine (lex_er hs2 hw H2.out).mono ?_; rintro e w4 ⟨rfl, hb4⟩
  replace hw := (hw.below hb4).below ((Below.refl _ _).new (.cells #[.int .u8 (c.toNat : Int)] 5))
  replace hb1 := (hb1.then hb4).new (.cells #[.int .u8 (c.toNat : Int)] 5)
  go_wp2_with fail
  refine (lex_er hs3 hw H3.out).mono ?_; rintro e w5 ⟨rfl, hb5⟩
  replace hw := (hw.below hb5).below ((Below.refl _ _).new (.cells #[.int .u8 (c.toNat : Int)] 5))
  replace hb1 := (hb1.then hb5).new (.cells #[.int .u8 (c.toNat : Int)] 5)
  go_wp2_with fail
  refine (lex_er hs4 hw H4.out).mono ?_; rintro e w6 ⟨rfl, hb6⟩
  replace hb1 := hb1.then hb6
  clear hcv hw hb6
  go_wp2_with (first | (go_at_call 23; refine (rBlank_lit GB.out).mono ?_; rintro e w' ⟨rfl, rfl⟩) | (go_at_call 24; refine (rLetter_lit G1.out).mono ?_; rintro e w' ⟨rfl, rfl⟩) | (go_at_call 21; refine (rSign_lit G2.out).mono ?_; rintro e w' ⟨rfl, rfl⟩))
  go_ret
  exact ⟨rfl, hb1⟩
set_option maxHeartbeats 3200000 in
set_option maxRecDepth 100000 in
theorem lawOdd_bad (a : ByteArray) (c : UInt8) (w : World) (ts : List Tok) (ha : a.size ≤ 3000) (hA : lexL a.data.toList = .ok ts) (hw : LibVars w) (gb : blankB c = false) (g37 : (c == 37) = false) (g1 : letterB c = false) (g2 : signB c = false) (g3 : punctB c = false) (g39 : (c == 39) = false) :
    Calls Tryd.prog 10 #[.string a, .int .u8 (c.toNat : Int)] w fun e w' => e = .returned (.bool true) ∧ Below w.heap.size w w' := by
  have HA := mkHid hA
  have has : a.size ≤ 1000000000 := by omega
  have hs1 : (a ++ ⟨#[10, 39, 39]⟩).size ≤ 1000000000 := by rw [← size_list, join_list, List.length_append, size_list]; simp; omega
  have hs2 : (a ++ ⟨#[10, 97, 98, 99, 100, 101, 102, 103, 104, 105, 106, 107, 108, 109]⟩).size ≤ 1000000000 := by rw [← size_list, join_list, List.length_append, size_list]; simp; omega
  have H1 := mkHid (more_err ha hA (b := [39, 39]) (by simp) (odd_quote 39) (a ++ ⟨#[10, 39, 39]⟩) (by rw [join_list]))
  have H2 := mkHid (more_err ha hA (b := [97, 98, 99, 100, 101, 102, 103, 104, 105, 106, 107, 108, 109]) (q := 0) (e := 2) (by simp) (by kernel_rfl) (a ++ ⟨#[10, 97, 98, 99, 100, 101, 102, 103, 104, 105, 106, 107, 108, 109]⟩) (by rw [join_list]))
  have hs3 : (a ++ ⟨#[10, 39]⟩ ++ ⟨#[c]⟩).size ≤ 1000000000 := by rw [← size_list, join_list, join_list, List.length_append, List.length_append, size_list]; simp; omega
  have H3 := mkHid (more_err ha hA (b := [39, c]) (by simp) (odd_quote c) (a ++ ⟨#[10, 39]⟩ ++ ⟨#[c]⟩) (by rw [join_list, join_list]; simp))
  have hs4 : (a ++ ⟨#[10]⟩ ++ ⟨#[c]⟩).size ≤ 1000000000 := by rw [← size_list, join_list, join_list, List.length_append, List.length_append, size_list]; simp; omega
  have hcv := conv_byte c
  have H4 := mkHid (more_err ha hA (b := [c]) (q := 0) (e := 40) (by simp) (odd_bad gb g37 g1 g2 g3 g39) (a ++ ⟨#[10]⟩ ++ ⟨#[c]⟩) (by rw [join_list, join_list]; simp))
  have GB := mkHid gb
  have G1 := mkHid g1
  have G2 := mkHid g2
  have h37 : ((c.toNat : Int) == 37) = false := (eqU c 37).trans g37
  have h39 : ((c.toNat : Int) == 39) = false := (eqU c 39).trans g39
  have hne : ∀ d ∈ punctL, (c == d) = false := fun d hd => by
    cases e : (c == d) with
    | false => rfl
    | true =>
      have e' : c = d := by simpa using e
      subst e'
      have : punctB c = true := by simpa [punctB] using hd
      rw [this] at g3; cases g3
  have m1 : ((c.toNat : Int) == 40) = false := (eqU c 40).trans (hne 40 (by decide))
  have m2 : ((c.toNat : Int) == 41) = false := (eqU c 41).trans (hne 41 (by decide))
  have m3 : ((c.toNat : Int) == 91) = false := (eqU c 91).trans (hne 91 (by decide))
  have m4 : ((c.toNat : Int) == 93) = false := (eqU c 93).trans (hne 93 (by decide))
  have m5 : ((c.toNat : Int) == 44) = false := (eqU c 44).trans (hne 44 (by decide))
  have m6 : ((c.toNat : Int) == 124) = false := (eqU c 124).trans (hne 124 (by decide))
  clear hne
  clear hA gb g37 g1 g2 g3 g39
  go_enter Tryd.func10, Tryd.ntmps10
  go_wp2_with fail
  refine (head_any w hw).mono ?_; rintro e w1 ⟨rfl, hb1⟩
  replace hw := hw.below hb1
  go_wp2_with fail
  refine (lex_ok has hw HA.out).mono ?_; rintro e w2 ⟨a2, cap2, rfl, _, _, hb2⟩
  replace hw := hw.below hb2
  replace hb1 := hb1.then hb2
  go_wp2_with fail
  refine (lex_er hs1 hw H1.out).mono ?_; rintro e w3 ⟨rfl, hb3⟩
  replace hw := hw.below hb3
  replace hb1 := hb1.then hb3
  go_wp2_with fail
  refine (lex_er hs2 hw H2.out).mono ?_; rintro e w4 ⟨rfl, hb4⟩
  replace hw := (hw.below hb4).below ((Below.refl _ _).new (.cells #[.int .u8 (c.toNat : Int)] 5))
  replace hb1 := (hb1.then hb4).new (.cells #[.int .u8 (c.toNat : Int)] 5)
  go_wp2_with fail
  refine (lex_er hs3 hw H3.out).mono ?_; rintro e w5 ⟨rfl, hb5⟩
  replace hw := (hw.below hb5).below ((Below.refl _ _).new (.cells #[.int .u8 (c.toNat : Int)] 5))
  replace hb1 := (hb1.then hb5).new (.cells #[.int .u8 (c.toNat : Int)] 5)
  go_wp2_with fail
  refine (lex_er hs4 hw H4.out).mono ?_; rintro e w6 ⟨rfl, hb6⟩
  replace hb1 := hb1.then hb6
  clear hcv hw hb6
  go_wp2_with (first | (go_at_call 23; refine (rBlank_lit GB.out).mono ?_; rintro e w' ⟨rfl, rfl⟩) | (go_at_call 24; refine (rLetter_lit G1.out).mono ?_; rintro e w' ⟨rfl, rfl⟩) | (go_at_call 21; refine (rSign_lit G2.out).mono ?_; rintro e w' ⟨rfl, rfl⟩))
  go_ret
  exact ⟨rfl, hb1⟩
set_option maxHeartbeats 800000 in
set_option maxRecDepth 100000 in
theorem lawOdd_u (a : ByteArray) (c : UInt8) (w : World) (has : a.size ≤ 140737488355328) (hw : LibVars w) :
    Calls Tryd.prog 10 #[.string a, .int .u8 (c.toNat : Int)] w fun e w' => e = .returned (.bool true) ∧ Below w.heap.size w w' := by
  by_cases hbig : 3000 < (a.size : Int)
  · go_enter Tryd.func10, Tryd.ntmps10
    go_wp2_with fail
    refine (head_any w hw).mono ?_; rintro e w1 ⟨rfl, hb1⟩
    go_wp2
    go_ret
    exact ⟨rfl, hb1⟩
  have ha : a.size ≤ 3000 := by omega
  cases hA : lexL a.data.toList with
  | error pe =>
    obtain ⟨p, er⟩ := pe
    obtain ⟨hne, _⟩ := lexL_bad hA
    have t1 : (er == 0) = false := by simp; omega
    have t2 : (er != 0) = true := by simp; omega
    have HA := mkHid hA
    clear hA hne
    go_enter Tryd.func10, Tryd.ntmps10
    go_wp2_with fail
    refine (head_any w hw).mono ?_; rintro e w1 ⟨rfl, hb1⟩
    go_wp2_with fail
    refine (lex_er (by omega) (hw.below hb1) HA.out).mono ?_; rintro e w2 ⟨rfl, hb2⟩
    go_wp2
    go_ret
    exact ⟨rfl, hb1.then hb2⟩
  | ok ts =>
    by_cases g1 : (blankB c || c == 37) = true
    · exact lawOdd_blank a c w ts ha hA hw g1
    by_cases g2 : (letterB c || signB c || punctB c) = true
    · exact lawOdd_one a c w ts ha hA hw g2
    by_cases g3 : c = 39
    · exact lawOdd_quote a c w ts ha hA hw g3
    simp only [Bool.or_eq_true, not_or, Bool.not_eq_true] at g1 g2
    exact lawOdd_bad a c w ts ha hA hw g1.1 g1.2 g2.1.1 g2.1.2 g2.2 (by simpa using g3)
theorem lawOdd_any (a : ByteArray) (c : Int) (w : World) (has : a.size ≤ 140737488355328) (hc : (Lit.int .u8 c).wf = true) (hw : LibVars w) :
    Calls Tryd.prog 10 #[.string a, .int .u8 c] w fun e w' => e = .returned (.bool true) ∧ Below w.heap.size w w' := by
  have h : 0 ≤ c ∧ c ≤ 255 := by simp [Lit.wf, IntKind.min, IntKind.max, IntKind.signed, IntKind.bits] at hc; omega
  obtain ⟨u, hu⟩ : ∃ u : UInt8, (u.toNat : Int) = c := ⟨UInt8.ofNat c.toNat, by
    rw [UInt8.toNat_ofNat']; omega⟩
  rw [← hu]
  exact lawOdd_u a u w has hw
end Go.Proofs.YtinfefmoiimomaaDoor
