import Derived.Test.YtinfefmoiimomaaDoorV16
import Derived.Test.YtinfefmoiimomaaDoorVP2
namespace Go.Proofs.YtinfefmoiimomaaDoor
open Go.RowKit

theorem lex_ok {s : ByteArray} {w : World} {ts : List Tok} (hs : s.size ≤ 1000000000) (hw : LibVars w) (h : lexL s.data.toList = .ok ts) :
    Calls Tryd.prog 12 #[.string s] w fun e w' => ∃ a cap, e = .returned (.tuple #[.slice a ts.length cap, .int .i64 0, .int .i64 0]) ∧ Row w' a cap ts ∧ Head a cap ∧ Below w.heap.size w w' :=
  (lexAll_any s w hs hw).mono fun _ _ ⟨ho, hb⟩ => let ⟨a, cap, he, hr, hh⟩ := ho.ok h; ⟨a, cap, he, hr, hh, hb⟩
theorem lex_er {s : ByteArray} {w : World} {p : Nat} {er : Int} (hs : s.size ≤ 1000000000) (hw : LibVars w) (h : lexL s.data.toList = .error (p, er)) :
    Calls Tryd.prog 12 #[.string s] w fun e w' => e = .returned (.tuple #[.slice none 0 0, .int .i64 (p : Int), .int .i64 er]) ∧ Below w.heap.size w w' :=
  (lexAll_any s w hs hw).mono fun _ _ ⟨ho, hb⟩ => ⟨ho.err h, hb⟩
theorem lexL_bad {l : List UInt8} {p : Nat} {er : Int} (h : lexL l = .error (p, er)) : (er = 2 ∨ er = 40 ∨ er = 41) ∧ p ≤ l.length := by
  unfold lexL at h
  split at h
  · injection h with h; injection h with h1 h2; subst h1 h2; exact ⟨.inl rfl, by omega⟩
  · have := lexW_bad _ l (Nat.le_refl _) _ _ _ _ h
    exact ⟨this.1, by omega⟩
theorem lexL_good {l : List UInt8} {ts : List Tok} (h : lexL l = .ok ts) : (∀ t ∈ ts, 0 ≤ t.p ∧ t.p < l.length) ∧ ts.length ≤ l.length ∧ l.length ≤ 20000 := by
  unfold lexL at h
  split at h
  · cases h
  · have := lexW_good _ l (Nat.le_refl _) _ _ _ h
    exact ⟨fun t ht => by have := this.1 t ht; omega, this.2, by omega⟩
theorem join_list (a b : ByteArray) : (a ++ b).data.toList = a.data.toList ++ b.data.toList := by simp
theorem lines_list (a b : ByteArray) : (a ++ ⟨#[10]⟩ ++ b).data.toList = a.data.toList ++ 10 :: b.data.toList := by simp
theorem lines_size (a b : ByteArray) : (a ++ ⟨#[10]⟩ ++ b).size = a.size + 1 + b.size := by
  rw [← size_list, lines_list, List.length_append, List.length_cons, size_list, size_list]; omega
/-- the tokens of two lines -/
theorem lines_eq {a b : List UInt8} (h : a.length + b.length ≤ 10000) : lexL (a ++ 10 :: b) = match lexL a with
    | .ok ts => appR ts (shiftR (a.length + 1) (lexL b))
    | .error e => .error e := by
  have h1 : lexL (a ++ 10 :: b) = lexW false (a ++ 10 :: b) 0 := by unfold lexL; rw [if_neg (by simp; omega)]
  have h2 : lexL a = lexW false a 0 := by unfold lexL; rw [if_neg (by omega)]
  have h3 : lexL b = lexW false b 0 := by unfold lexL; rw [if_neg (by omega)]
  rw [h1, h2, h3, lex_lines _ a (Nat.le_refl _)]
  cases lexW false a 0 with
  | error e => rfl
  | ok ts =>
    simp only
    rw [show 0 + a.length + 1 = 0 + (a.length + 1) by omega, lex_shift _ _ b (Nat.le_refl _)]
theorem Row.takeN {w : World} {g cap : Nat} {xs : List Tok} {k : Nat} (h : Row w (some ⟨g, 0, none⟩) cap xs) (hk : k ≤ xs.length) : Row w (some ⟨g, 0, none⟩) cap (xs.take k) := by
  have := h.slice (i := 0) (j := k) (by omega) hk
  simpa using this

theorem Row.dropN {w : World} {g cap : Nat} {xs : List Tok} {k : Nat} (h : Row w (some ⟨g, 0, none⟩) cap xs) (hk : k ≤ xs.length) : Row w (some ⟨g, k * 4, none⟩) (cap - k) (xs.drop k) := by
  have := h.slice (i := k) (j := xs.length) hk (Nat.le_refl _)
  rw [List.take_of_length_le (by simp), Nat.zero_add] at this
  exact this
theorem same_yes2 {a : Option Addr} {cap : Nat} {a' : Option Addr} {cap' : Nat} (d : Nat) {n m : Nat} {D : Int} {w : World} {xs ys : List Tok} (hD : D = (d : Int)) (hn : n = xs.length) (hx : Row w a cap xs) (hy : Row w a' cap' ys) (hm : m = ys.length) (h : xs.map (Tok.add d) = ys) (hd : d ≤ 1000000) (hp : ∀ t ∈ xs, 0 ≤ t.p ∧ t.p ≤ 1000000) (hl : xs.length ≤ 1000000) :
    Calls Tryd.prog 14 #[.slice a n cap, .slice a' m cap', .int .i64 D] w fun e w' => e = .returned (.bool true) ∧ Below w.heap.size w w' := by
  subst hD; subst hn; exact same_yes a cap a' cap' d m w xs ys hx hy hm h hd hp hl
theorem add_zero (t : Tok) : Tok.add 0 t = t := by cases t; simp [Tok.add]
theorem map_add_zero (ts : List Tok) : ts.map (Tok.add 0) = ts := by
  rw [show Tok.add 0 = id from funext add_zero, List.map_id]
set_option maxHeartbeats 3200000 in
set_option maxRecDepth 100000 in
theorem lawLines_any (a b : ByteArray) (w : World) (ha : a.size ≤ 140737488355328) (hb : b.size ≤ 140737488355328) (hw : LibVars w) :
    Calls Tryd.prog 5 #[.string a, .string b] w fun e w' => e = .returned (.bool true) ∧ Below w.heap.size w w' := by
  by_cases hbig : 5000 < (a.size : Int) + (b.size : Int)
  · go_enter Tryd.func5, Tryd.ntmps5
    go_wp2_with fail
    refine (head_any w hw).mono ?_; rintro e w1 ⟨rfl, hb1⟩
    go_wp2
    go_ret
    exact ⟨rfl, hb1⟩
  have has : a.size ≤ 1000000000 := by omega
  have hbs : b.size ≤ 1000000000 := by omega
  have hsum : a.size + b.size ≤ 5000 := by omega
  have hcs : (a ++ ⟨#[10]⟩ ++ b).size ≤ 1000000000 := by rw [lines_size]; omega
  have hN := lines_eq (a := a.data.toList) (b := b.data.toList) (by simp; omega)
  rw [← lines_list] at hN
  have HW := mkHid hw
  clear hw ha hb
  cases hA : lexL a.data.toList with
  | error pe =>
    obtain ⟨p, er⟩ := pe
    rw [hA] at hN
    simp only at hN
    obtain ⟨hne, hp⟩ := lexL_bad hA
    have t1 : (er == 0) = false := by simp; omega
    have t2 : (er != 0) = true := by simp; omega
    have HA := mkHid hA
    have HN := mkHid hN
    clear hA hN hne hp
    cases hB : lexL b.data.toList with
    | error qf =>
      obtain ⟨q, f⟩ := qf
      have HB := mkHid hB
      clear hB
      go_enter Tryd.func5, Tryd.ntmps5
      go_wp2_with fail
      refine (head_any w HW.out).mono ?_; rintro e w1 ⟨rfl, hb1⟩
      go_wp2_with fail
      refine (lex_er has (HW.out.below hb1) HA.out).mono ?_; rintro e w2 ⟨rfl, hb2⟩
      replace hb1 := hb1.then hb2
      go_wp2_with fail
      refine (lex_er hbs (HW.out.below hb1) HB.out).mono ?_; rintro e w3 ⟨rfl, hb3⟩
      replace hb1 := hb1.then hb3
      go_wp2_with fail
      refine (lex_er hcs (HW.out.below hb1) HN.out).mono ?_; rintro e w4 ⟨rfl, hb4⟩
      replace hb1 := hb1.then hb4
      go_wp2
      go_ret
      exact ⟨rfl, hb1⟩
    | ok us =>
      have HB := mkHid hB
      clear hB
      go_enter Tryd.func5, Tryd.ntmps5
      go_wp2_with fail
      refine (head_any w HW.out).mono ?_; rintro e w1 ⟨rfl, hb1⟩
      go_wp2_with fail
      refine (lex_er has (HW.out.below hb1) HA.out).mono ?_; rintro e w2 ⟨rfl, hb2⟩
      replace hb1 := hb1.then hb2
      go_wp2_with fail
      refine (lex_ok hbs (HW.out.below hb1) HB.out).mono ?_; rintro e w3 ⟨a3, cap3, rfl, _, _, hb3⟩
      replace hb1 := hb1.then hb3
      go_wp2_with fail
      refine (lex_er hcs (HW.out.below hb1) HN.out).mono ?_; rintro e w4 ⟨rfl, hb4⟩
      replace hb1 := hb1.then hb4
      go_wp2
      go_ret
      exact ⟨rfl, hb1⟩
  | ok ts =>
    rw [hA] at hN
    simp only at hN
    have hgA := lexL_good hA
    have HA := mkHid hA
    cases hB : lexL b.data.toList with
    | error qf =>
      obtain ⟨q, f⟩ := qf
      rw [hB] at hN
      simp only [shiftR, appR] at hN
      obtain ⟨hne, hp⟩ := lexL_bad hB
      rw [size_list] at hp
      have t1 : (f == 0) = false := by simp; omega
      have t2 : (f != 0) = true := by simp; omega
      have HB := mkHid hB
      have hN2 : lexL (a ++ ⟨#[10]⟩ ++ b).data.toList = .error (q + (a.size + 1), f) := by rw [hN, size_list]
      have HN := mkHid hN2
      have t3 : ((q : Int) + ((a.size : Int) + 1) == (a.size : Int) + 1 + (q : Int)) = true := by simp; omega
      clear hA hN hne hgA hB hN2
      go_enter Tryd.func5, Tryd.ntmps5
      go_wp2_with fail
      refine (head_any w HW.out).mono ?_; rintro e w1 ⟨rfl, hb1⟩
      go_wp2_with fail
      refine (lex_ok has (HW.out.below hb1) HA.out).mono ?_; rintro e w2 ⟨a2, cap2, rfl, _, _, hb2⟩
      replace hb1 := hb1.then hb2
      go_wp2_with fail
      refine (lex_er hbs (HW.out.below hb1) HB.out).mono ?_; rintro e w3 ⟨rfl, hb3⟩
      replace hb1 := hb1.then hb3
      go_wp2_with fail
      refine (lex_er hcs (HW.out.below hb1) HN.out).mono ?_; rintro e w4 ⟨rfl, hb4⟩
      replace hb1 := hb1.then hb4
      go_wp2
      go_ret
      exact ⟨rfl, hb1⟩
    | ok us =>
      rw [hB] at hN
      simp only [shiftR, appR] at hN
      have hgB := lexL_good hB
      obtain ⟨N, hNd⟩ : ∃ N, N = ts ++ us.map (Tok.add (a.data.toList.length + 1)) := ⟨_, rfl⟩
      rw [← hNd] at hN
      have hNl : N.length = ts.length + us.length := by rw [hNd]; simp
      have htk : N.take ts.length = ts := by rw [hNd]; simp
      have hdk : us.map (Tok.add (a.size + 1)) = N.drop ts.length := by rw [hNd]; simp
      have hpA : ∀ t ∈ ts, 0 ≤ t.p ∧ t.p ≤ 1000000 := fun t ht => by have := hgA.1 t ht; rw [size_list] at this; omega
      have hpB : ∀ t ∈ us, 0 ≤ t.p ∧ t.p ≤ 1000000 := fun t ht => by have := hgB.1 t ht; rw [size_list] at this; omega
      have hlA : ts.length ≤ 5000 := by have := hgA.2.1; rw [size_list] at this; omega
      have hlB : us.length ≤ 5000 := by have := hgB.2.1; rw [size_list] at this; omega
      have HB := mkHid hB
      have HN := mkHid hN
      have HTK := mkHid htk
      have HDK := mkHid hdk
      have HPA := mkHid hpA
      have HPB := mkHid hpB
      have HNL := mkHid hNl
      have t4 : ((N.length : Int) == (ts.length : Int) + (us.length : Int)) = true := by simp; omega
      have b1 : ts.length ≤ N.length := by omega
      have b2 : N.length ≤ 10000 := by omega
      clear hA hN hgA hgB hB hNd hNl htk hdk hpA hpB
      go_enter Tryd.func5, Tryd.ntmps5
      go_wp2_with fail
      refine (head_any w HW.out).mono ?_; rintro e w1 ⟨rfl, hb1⟩
      go_wp2_with fail
      refine (lex_ok has (HW.out.below hb1) HA.out).mono ?_; rintro e w2 ⟨a2, cap2, rfl, hr2, _, hb2⟩
      replace hb1 := hb1.then hb2
      go_wp2_with fail
      refine (lex_ok hbs (HW.out.below hb1) HB.out).mono ?_; rintro e w3 ⟨a3, cap3, rfl, hr3, _, hb3⟩
      replace hb1 := hb1.then hb3
      replace hr2 := hr2.below hb3
      go_wp2_with fail
      refine (lex_ok hcs (HW.out.below hb1) HN.out).mono ?_; rintro e w4 ⟨a4, cap4, rfl, hr4, hh4, hb4⟩
      replace hb1 := hb1.then hb4
      replace hr2 := hr2.below hb4
      replace hr3 := hr3.below hb4
      have hle4 := hr4.le
      have hmx4 := hr4.max
      rcases hh4 with ⟨rfl, rfl⟩ | ⟨g, rfl⟩
      · obtain rfl : N = [] := List.eq_nil_of_length_eq_zero (by omega)
        obtain rfl : ts = [] := List.eq_nil_of_length_eq_zero (by simpa using b1)
        obtain rfl : us = [] := List.eq_nil_of_length_eq_zero (by have := HNL.out; simp at this; exact this.symm)
        go_wp2_with fail
        with_reducible refine (same_yes2 (D := 0) (n := 0) (m := 0) (xs := []) (ys := []) 0 rfl rfl hr2 (Row.empty _ none 0 (by omega) (fun _ => rfl)) rfl rfl (by omega) (by simp) (by simp)).mono ?_
        rintro e w5 ⟨rfl, hb5⟩
        replace hb1 := hb1.then hb5
        go_wp2_with fail
        with_reducible refine (same_yes2 (D := (a.size : Int) + 1) (n := 0) (m := 0) (xs := []) (ys := []) (a.size + 1) (by omega) rfl (hr3.below hb5) (Row.empty _ none 0 (by omega) (fun _ => rfl)) rfl rfl (by omega) (by simp) (by simp)).mono ?_
        rintro e w6 ⟨rfl, hb6⟩
        go_wp2
        go_ret
        exact ⟨rfl, hb1.then hb6⟩
      · by_cases hck : cap4 = ts.length
        · obtain rfl : us = [] := List.eq_nil_of_length_eq_zero (by have := HNL.out; omega)
          subst hck
          have t5 : (N.length : Int) - (ts.length : Int) = 0 := by omega
          go_wp2_with fail
          with_reducible refine (same_yes2 (D := 0) 0 rfl rfl hr2 ((hr4.takeN b1).lit HTK.out) rfl (map_add_zero ts) (by omega) HPA.out (by omega)).mono ?_
          rintro e w5 ⟨rfl, hb5⟩
          replace hb1 := hb1.then hb5
          go_wp2_with fail
          with_reducible refine (same_yes2 (D := (a.size : Int) + 1) (n := 0) (m := 0) (xs := []) (ys := []) (a.size + 1) (by omega) rfl (hr3.below hb5) (Row.empty w5 (some ⟨g, 0, none⟩) 0 (by omega) (fun e => by cases e)) rfl rfl (by omega) (by simp) (by simp)).mono ?_
          rintro e w6 ⟨rfl, hb6⟩
          go_wp2
          go_ret
          exact ⟨rfl, hb1.then hb6⟩
        · go_wp2_with fail
          with_reducible refine (same_yes2 (D := 0) 0 rfl rfl hr2 ((hr4.takeN b1).lit HTK.out) rfl (map_add_zero ts) (by omega) HPA.out (by omega)).mono ?_
          rintro e w5 ⟨rfl, hb5⟩
          replace hb1 := hb1.then hb5
          have hr5 := Row.below (hr4.dropN b1) hb5
          go_wp2_with fail
          with_reducible refine (same_yes2 (D := (a.size : Int) + 1) (m := N.length - ts.length) (a.size + 1) (by omega) rfl (hr3.below hb5) hr5 (by simp) HDK.out (by omega) HPB.out (by omega)).mono ?_
          rintro e w6 ⟨rfl, hb6⟩
          go_wp2
          go_ret
          exact ⟨rfl, hb1.then hb6⟩
end Go.Proofs.YtinfefmoiimomaaDoor
