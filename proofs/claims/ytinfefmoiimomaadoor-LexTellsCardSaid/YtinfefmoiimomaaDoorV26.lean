import Derived.Test.YtinfefmoiimomaaDoorV25
namespace Go.Proofs.YtinfefmoiimomaaDoor
open Go.RowKit

theorem tokL_fit {s : ByteArray} {a : Nat} {k : Int} {t : List UInt8} {n : Int} {len : Nat} (h : tokL (s.data.toList.drop a) = .tok k t n len) (hs : s.size ≤ 20000) (ha : a < s.size) : (Tok.mk k (mkB t) n a).fit := by
  have hd := drop_consB s a ha
  rw [hd] at h
  have hi := tokL_is h
  have hl : (s[a] :: s.data.toList.drop (a + 1)).length ≤ 20000 := by rw [← hd, List.length_drop, size_list]; omega
  clear hd h
  generalize s[a] = c at hi hl
  generalize s.data.toList.drop (a + 1) = r at hi hl
  have htl : t.length ≤ 20000 ∧ 0 ≤ n ∧ n ≤ 2147483647 ∧ 1 ≤ k ∧ k ≤ 6 := by
    have hx : ∀ q : UInt8 → Bool, ∀ z : List UInt8, z.length ≤ 20000 → (z.takeWhile q).length ≤ 20000 := fun q z hz => Nat.le_trans (span_le q z) hz
    cases hi with
    | name h1 h2 => exact ⟨hx _ _ hl, by omega, by omega, by omega, by omega⟩
    | var h1 h2 => exact ⟨hx _ _ hl, by omega, by omega, by omega, by omega⟩
    | num h1 h2 => exact ⟨hx _ _ hl, by omega, by omega, by omega, by omega⟩
    | quo h1 => exact ⟨hx _ _ (by simp only [List.length_cons] at hl; omega), by omega, by omega, by omega, by omega⟩
    | punct h1 => exact ⟨by simp, by omega, by omega, by omega, by omega⟩
    | stop h1 => exact ⟨by simp, by omega, by omega, by omega, by omega⟩
    | sign h1 h2 h3 => exact ⟨hx _ _ hl, by omega, by omega, by omega, by omega⟩
  have := mkB_le htl.1
  exact ⟨by dsimp only; omega, by dsimp only; omega, by dsimp only; omega, by dsimp only; omega, by simp only; omega, by simp only; omega, by simp only; omega⟩
def RefOut (w' : World) (e : Ending) : Res → Prop
  | .ok ts => ∃ a cap, e = .returned (.tuple #[.slice a ts.length cap, .int .i64 0, .int .i64 0]) ∧ Row w' a cap ts
  | .error (p, er) => e = .returned (.tuple #[.slice none 0 0, .int .i64 (p : Int), .int .i64 er])
set_option maxHeartbeats 3200000 in
set_option maxRecDepth 100000 in
theorem rLex_small (s : ByteArray) (w : World) (hs : s.size ≤ 20000) :
    Calls Tryd.prog 13 #[.string s] w fun e w' => RefOut w' e (lexW false s.data.toList 0) ∧ Below w.heap.size w w' := by
  have hs2 : s.size ≤ 1000000 := by omega
  generalize hL : lexW false s.data.toList 0 = L
  obtain ⟨k0, hk0⟩ : ∃ k0, k0 = 0 + skipL false (s.data.toList.drop 0) := ⟨_, rfl⟩
  have hsk := skip_lex s.data.toList false 0
  have hst := skip_stop s.data.toList false
  have hle := skip_le s.data.toList false
  rw [size_list] at hle
  rw [List.drop_zero] at hk0
  rw [hL] at hsk
  rw [← hk0] at hsk
  have hk0' : skipL false s.data.toList = k0 := by omega
  rw [hk0'] at hsk hst hle
  have HL0 : Hid (L = appR [] (lexW false (s.data.toList.drop k0) k0)) := by rw [Hid, hsk]; cases lexW false (s.data.toList.drop k0) k0 <;> rfl
  have HST0 := mkHid hst
  have HK0 : Hid (0 + skipL false (s.data.toList.drop 0) = k0) := by rw [Hid, List.drop_zero, hk0'] ; omega
  have hacc0 := AccInv.made (α := Tok) (T := 30) (B := w.heap.size) w (Nat.le_refl _) rfl
  have hb0 := (Below.refl w.heap.size w).new (.cells #[] 30)
  clear hL hsk hst hk0 hk0'
  go_enter Tryd.func13, Tryd.ntmps13
  go_wp2_with fail
  have cP := rPass s 0 (w.alloc (.cells #[] 30)) hs2 (Nat.zero_le _)
  rw [HK0.out] at cP
  refine cP.mono ?_; rintro e w1 ⟨rfl, rfl⟩
  clear cP
  go_wp2
  go_loopw [5, 6] (fun out at_ wr => ∃ (k : Nat) (acc : List Tok), k ≤ s.size ∧ at_ = .int .i64 k ∧ acc.length ≤ k ∧ AccInv w.heap.size 30 acc out wr ∧ Below w.heap.size w wr ∧ Hid (L = appR acc (lexW false (s.data.toList.drop k) k)) ∧ Hid (∀ c r, s.data.toList.drop k = c :: r → blankB c = false ∧ (c == 37) = false)) (fun out at_ wr => s.size - (intOf at_).toNat)
  case atStart => exact ⟨k0, [], hle, rfl, Nat.zero_le _, hacc0, hb0, HL0, HST0⟩
  case round =>
    clear hacc0 hb0 HL0 HST0
    obtain ⟨k, acc, hk, rfl, hkl, hacc, hbl, HL, HS⟩ := hrel
    by_cases hlt : k < s.size
    · have hd := drop_consB s k hlt
      obtain ⟨g1, g2⟩ := HS.out _ _ hd
      have hl := HL.out
      rw [hd] at hl
      have cT := rToken s k wr hs hlt
      cases ht : tokL (s.data.toList.drop k) with
      | pass n => exact absurd ht (tokL_pass _ _)
      | err er =>
        rw [ht] at cT
        simp only [refV] at cT
        have her : er = 2 ∨ er = 40 ∨ er = 41 := tokL_err ht (by rw [hd]; simp)
        have t1 : (er == 0) = false := by simp; omega
        have t2 : (er != 0) = true := by simp; omega
        have HE : Hid (L = .error (k, er)) := by
          rw [Hid, hl, lexW_err g1 g2 (by rw [← hd]; exact ht)]; rfl
        clear hd hl ht her HL HS g1 g2
        go_wp2_with fail
        refine cT.mono ?_; rintro e w2 ⟨rfl, hb2⟩
        clear cT
        go_wp2
        go_ret3
        rw [HE.out]
        exact ⟨rfl, (hbl.trans (hb2.mono hbl.size)).new _⟩
      | tok kk tt nn len =>
        rw [ht] at cT
        simp only [refV] at cT
        have hlen := tokL_len ht
        rw [List.length_drop, size_list] at hlen
        have hfit := tokL_fit ht hs hlt
        obtain ⟨k', hk'⟩ : ∃ k', k' = k + len + skipL false (s.data.toList.drop (k + len)) := ⟨_, rfl⟩
        have hsk := skip_lex (s.data.toList.drop (k + len)) false (k + len)
        have hst := skip_stop (s.data.toList.drop (k + len)) false
        have hle' := skip_le (s.data.toList.drop (k + len)) false
        rw [List.length_drop, size_list] at hle'
        rw [List.drop_drop, ← hk'] at hsk
        have HST' : Hid (∀ c r, s.data.toList.drop k' = c :: r → blankB c = false ∧ (c == 37) = false) := by
          intro c r h
          exact hst c r (by rw [List.drop_drop, ← hk']; exact h)
        have HLn : Hid (L = appR (acc ++ [⟨kk, mkB tt, nn, k⟩]) (lexW false (s.data.toList.drop k') k')) := by
          rw [Hid, hl, lexW_tok g1 g2 (by rw [← hd]; exact ht), appR_conR, ← hd, List.drop_drop, hsk]
        have HFIT := mkHid hfit
        have HK' := mkHid hk'
        have hkk : k + len ≤ k' := by omega
        have hks : k' ≤ s.size := by omega
        clear hd hl ht HL HS g1 g2 hsk hst hfit hk' hle'
        go_wp2_with fail
        refine cT.mono ?_; rintro e w2 ⟨rfl, hb2⟩
        clear cT
        have hb2' := hbl.trans (hb2.mono hbl.size)
        have haccn := (hacc.below hb2).below ((Below.refl _ _).new (.cells #[.int .i64 kk, .string (mkB tt), .int .i64 nn, .int .i64 k] 30))
        have hbn := hb2'.new (.cells #[.int .i64 kk, .string (mkB tt), .int .i64 nn, .int .i64 k] 30)
        go_wp2_with (at_builtin; refine wpList_acc (α := Tok) rfl _ _ 23 rfl w.heap.size 30 40 _ Tryd.underlying23 Tryd.infoTok rfl (by decide) _ acc haccn (by rfl) _ #[.int .i64 kk, .string (mkB tt), .int .i64 nn, .int .i64 k] ⟨kk, mkB tt, nn, k⟩ ⟨rfl, HFIT.out⟩ (by first | rfl | (simp; rfl)) (by omega) hbn.size ?_; intro v5 w5 hacc5 hb5; go_wp2_with fail)
        have cP := rPass s (k + len) w5 hs2 (by omega)
        rw [← HK'.out] at cP
        have hcast : ((k + len : Nat) : Int) = (k : Int) + (len : Int) := by omega
        rw [hcast] at cP
        clear hcast
        refine cP.mono ?_; rintro e w6 ⟨rfl, rfl⟩
        clear cP
        go_wp2
        go_roundw
        case rel => exact ⟨k', acc ++ [⟨kk, mkB tt, nn, k⟩], hks, rfl, by simp; omega, hacc5, hbn.trans hb5, HLn, HST'⟩
        case measure => simp [intOf]; omega
    · have HE : Hid (L = .ok acc) := by
        rw [Hid, HL.out, List.drop_of_length_le (by simp; omega), lexW_nil]; simp [appR]
      obtain ⟨a5, cap5, rfl, hrow⟩ := hacc.row
      clear hacc HL HS
      go_wp2
      go_ret3
      rw [HE.out]
      exact ⟨⟨a5, cap5, rfl, hrow⟩, hbl⟩
set_option maxRecDepth 100000 in
theorem rLex_any (s : ByteArray) (w : World) (hs : s.size ≤ 1000000) :
    Calls Tryd.prog 13 #[.string s] w fun e w' => RefOut w' e (lexL s.data.toList) ∧ Below w.heap.size w w' := by
  by_cases h : s.size ≤ 20000
  · rw [lexL_eq h]; exact rLex_small s w h
  · have HL := mkHid (lexL_big (by omega) : lexL s.data.toList = .error (0, 2))
    have h' : 20000 < s.size := by omega
    go_enter Tryd.func13, Tryd.ntmps13
    go_wp2
    go_ret3
    rw [HL.out]
    exact ⟨rfl, Below.refl _ _⟩
set_option maxHeartbeats 1600000 in
set_option maxRecDepth 100000 in
theorem lawTells_any (s : ByteArray) (w : World) (has : s.size ≤ 140737488355328) (hw : LibVars w) :
    Calls Tryd.prog 3 #[.string s] w fun e w' => e = .returned (.bool true) ∧ Below w.heap.size w w' := by
  by_cases hbig : 21000 < (s.size : Int)
  · go_enter Tryd.func3, Tryd.ntmps3
    go_wp2_with fail
    refine (head_any w hw).mono ?_; rintro e w1 ⟨rfl, hb1⟩
    go_wp2
    go_ret
    exact ⟨rfl, hb1⟩
  have hs1 : s.size ≤ 1000000 := by omega
  have hs2 : s.size ≤ 1000000000 := by omega
  clear has
  cases hA : lexL s.data.toList with
  | error pe =>
    obtain ⟨p, er⟩ := pe
    have HA := mkHid hA
    clear hA
    go_enter Tryd.func3, Tryd.ntmps3
    go_wp2_with fail
    refine (head_any w hw).mono ?_; rintro e w1 ⟨rfl, hb1⟩
    go_wp2_with fail
    refine (lex_er hs2 (hw.below hb1) HA.out).mono ?_; rintro e w2 ⟨rfl, hb2⟩
    replace hb1 := hb1.then hb2
    go_wp2_with fail
    refine (rLex_any s _ hs1).mono ?_; rw [HA.out]; rintro e w3 ⟨he, hb3⟩
    obtain rfl : e = .returned (.tuple #[.slice none 0 0, .int .i64 (p : Int), .int .i64 er]) := he
    replace hb1 := hb1.then hb3
    go_wp2_with fail
    with_reducible refine (same_yes2 (D := 0) (n := 0) (m := 0) (xs := []) (ys := []) 0 rfl rfl (Row.empty _ none 0 (by omega) (fun _ => rfl)) (Row.empty _ none 0 (by omega) (fun _ => rfl)) rfl rfl (by omega) (by simp) (by simp)).mono ?_
    rintro e w4 ⟨rfl, hb4⟩
    go_wp2
    go_ret
    exact ⟨rfl, hb1.then hb4⟩
  | ok ts =>
    have hg := lexL_good hA
    have hpp : ∀ t ∈ ts, 0 ≤ t.p ∧ t.p ≤ 1000000 := fun t ht => by have := hg.1 t ht; rw [size_list] at this; omega
    have hl : ts.length ≤ 1000000 := by have := hg.2.1; rw [size_list] at this; omega
    have HP := mkHid hpp
    have HA := mkHid hA
    clear hA hg hpp
    go_enter Tryd.func3, Tryd.ntmps3
    go_wp2_with fail
    refine (head_any w hw).mono ?_; rintro e w1 ⟨rfl, hb1⟩
    go_wp2_with fail
    refine (lex_ok hs2 (hw.below hb1) HA.out).mono ?_; rintro e w2 ⟨a2, cap2, rfl, hr2, _, hb2⟩
    replace hb1 := hb1.then hb2
    go_wp2_with fail
    refine (rLex_any s _ hs1).mono ?_; rw [HA.out]; rintro e w3 ⟨he, hb3⟩
    obtain ⟨a3, cap3, rfl, hr3⟩ := he
    replace hb1 := hb1.then hb3
    go_wp2_with fail
    with_reducible refine (same_yes2 (D := 0) 0 rfl rfl (hr2.below hb3) hr3 rfl (map_add_zero ts) (by omega) HP.out hl).mono ?_
    rintro e w4 ⟨rfl, hb4⟩
    go_wp2
    go_ret
    exact ⟨rfl, hb1.then hb4⟩
end Go.Proofs.YtinfefmoiimomaaDoor
