import Derived.Test.YtinfefmoiimomaaDoorV31
namespace Go.Proofs.YtinfefmoiimomaaDoor
open Go.RowKit Go.Sort

theorem zeroS_size {j u : Nat} (h : u < 18446744073709551616) : (zeroS j u).size ≤ j + 20 := by rw [zeroS, mkB_size]; exact (zeroL_len h).1
theorem numText (j u : Nat) : ((⟨#[32]⟩ : ByteArray) ++ zeroS j u ++ ⟨#[46]⟩).data.toList = 32 :: (zeroL j u ++ [46]) := by rw [num_list, zeroS, mkB_list]
theorem numText_size {j u : Nat} (hj : j ≤ 20) (h : u < 18446744073709551616) : ((⟨#[32]⟩ : ByteArray) ++ zeroS j u ++ ⟨#[46]⟩).size ≤ 1000000000 := by
  rw [← size_list, numText]
  have := (zeroL_len (j := j) h).1
  simp only [List.length_cons, List.length_append, List.length_nil]
  omega
/-- the tokens of a number with a full stop -/
def numTs (j u : Nat) : List Tok := [⟨3, zeroS j u, u, 1⟩, ⟨6, ⟨#[46]⟩, 0, ((1 + (zeroL j u).length : Nat) : Int)⟩]
theorem numText_ok {j u : Nat} (hj : j ≤ 20) (h : u < 18446744073709551616) (hn : u ≤ 2147483647) : lexL ((⟨#[32]⟩ : ByteArray) ++ zeroS j u ++ ⟨#[46]⟩).data.toList = .ok (numTs j u) := by
  have hl := zeroL_len (j := j) h
  have hv := zeroL_val j u
  rw [numText, lex_num (zeroL_all j u) hl.2 (by omega) (by omega), hv]
  rfl
theorem numText_bad {j u : Nat} (hj : j ≤ 20) (h : u < 18446744073709551616) (hn : 2147483647 < u) : lexL ((⟨#[32]⟩ : ByteArray) ++ zeroS j u ++ ⟨#[46]⟩).data.toList = .error (1, 2) := by
  have hl := zeroL_len (j := j) h
  have hv := zeroL_val j u
  rw [numText, lex_numB (zeroL_all j u) hl.2 (by omega) (by omega)]
set_option maxHeartbeats 3200000 in
set_option maxRecDepth 100000 in
theorem lawNumbers_u (u z : Nat) (w : World) (hu : u < 18446744073709551616) (hz : z < 256) (hw : LibVars w) (ht : TabU w) :
    Calls Tryd.prog 9 #[.int .u64 u, .int .u8 z] w fun e w' => e = .returned (.bool true) ∧ Below w.heap.size w w' := by
  have HW := mkHid hw
  have HT := mkHid ht
  clear hw ht
  go_enter Tryd.func9, Tryd.ntmps9
  go_wp2_with fail
  refine (head_any w HW.out).mono ?_; rintro e w1 ⟨rfl, hb1⟩
  go_wp2_with fail
  refine (formatUint_any u hu w1 (HT.out.below hb1)).mono ?_; rintro e w2 ⟨rfl, hb2⟩
  replace hb1 := hb1.then hb2
  clear hb2
  go_wp2
  go_loop [6, 7] (fun t i => ∃ j : Nat, j ≤ 19 ∧ i = .int .i64 j ∧ t = .string (zeroS j u)) (fun t i => 20 - (intOf i).toNat)
  case atStart => exact ⟨0, by omega, rfl, rfl⟩
  case round =>
    obtain ⟨j, hj, rfl, rfl⟩ := hrel
    have hvs := zeroS_size (j := j) hu
    by_cases hjl : (j : Int) < (z : Int) % 20
    · have hzs := zeroS_succ j u
      go_wp2
      go_round
      case rel => exact ⟨j + 1, by omega, by go_num, rfl⟩
      case measure => simp [intOf]; omega
    · have hsz := numText_size (j := j) (u := u) (by omega) hu
      by_cases hn : 2147483647 < (u : Int)
      · have HE := mkHid (numText_bad (j := j) (u := u) (by omega) hu (by omega))
        go_wp2_with fail
        refine (lex_er hsz (HW.out.below hb1) HE.out).mono ?_; rintro e w3 ⟨rfl, hb3⟩
        go_wp2
        go_ret
        exact ⟨rfl, hb1.then hb3⟩
      · have HE := mkHid (numText_ok (j := j) (u := u) (by omega) hu (by omega))
        go_wp2_with fail
        refine (lex_ok hsz (HW.out.below hb1) HE.out).mono ?_; rintro e w3 ⟨a, cap, rfl, hr, _, hb3⟩
        obtain ⟨b, off, rfl, _⟩ := hr.cases.resolve_left (fun e => by simp [numTs] at e)
        replace hb1 := hb1.then hb3
        obtain ⟨c00, c01, c02, c03, _⟩ := hr.tok (Below.refl _ _) (i := 0) (t := ⟨3, zeroS j u, u, 1⟩) rfl
        obtain ⟨c10, c11, c12, c13, _⟩ := hr.tok (Below.refl _ _) (i := 1) (t := ⟨6, ⟨#[46]⟩, 0, ((1 + (zeroL j u).length : Nat) : Int)⟩) rfl
        simp only [Nat.zero_mul, Nat.one_mul, Nat.add_zero, Nat.add_assoc, Nat.reduceAdd] at c00 c01 c02 c03 c10 c11 c12 c13
        have hle := hr.le
        simp only [numTs, List.length_cons, List.length_nil, Nat.zero_add, Nat.reduceAdd] at hle ⊢
        have heq := fun W => run_eql_tok ⟨3, zeroS j u, u, 1⟩ ⟨3, zeroS j u, u, 1⟩ W
        simp only [decide_true] at heq
        clear hr HE hb3
        go_wp2
        go_ret
        exact ⟨rfl, hb1⟩
theorem lawNumbers_any (n z : Int) (w : World) (hn : (Lit.int .u64 n).wf = true) (hz : (Lit.int .u8 z).wf = true) (hw : LibVars w) (ht : TabU w) :
    Calls Tryd.prog 9 #[.int .u64 n, .int .u8 z] w fun e w' => e = .returned (.bool true) ∧ Below w.heap.size w w' := by
  have h1 : 0 ≤ n ∧ n ≤ 18446744073709551615 := by simp [Lit.wf, IntKind.min, IntKind.max, IntKind.signed, IntKind.bits] at hn; omega
  have h2 : 0 ≤ z ∧ z ≤ 255 := by simp [Lit.wf, IntKind.min, IntKind.max, IntKind.signed, IntKind.bits] at hz; omega
  have := lawNumbers_u n.toNat z.toNat w (by omega) (by omega) hw ht
  rw [Int.toNat_of_nonneg h1.1, Int.toNat_of_nonneg h2.1] at this
  exact this
end Go.Proofs.YtinfefmoiimomaaDoor
