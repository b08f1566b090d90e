/-
  Of layer 7 of sorrel: whatever arguments come in, the law ProgNegs returns true, and what was handed in reads as it did: the same clause without any negation is safe, if it was; with its literals turned about it is, if none is negative; and a negative literal with a variable of its own is never safe. No condition.
-/
import Derived.Test.YtkgebkinlpmpnaaZr5
namespace Go.Proofs.Ytkgebkinlpmpnaa
open Go.RowKit Go.Shelf Go.Lib

/-- a variable of the clause's own head or body -/
def usedB (n : Int) (x : Cl) : Bool := decide (n ∈ varsL x.h) || x.b.any fun y => decide (n ∈ varsL y.t)
theorem used_no {n : Int} {x : Cl} (h : usedB n x = false) : n ∉ bodyV x.b := by
  unfold usedB at h
  rw [Bool.or_eq_false_iff, List.any_eq_false] at h
  intro hn
  unfold bodyV at hn
  obtain ⟨y, hy, hny⟩ := List.mem_flatMap.1 hn
  exact h.2 y hy (by simpa using hny)
theorem any_take {α : Type} {l : List α} {f : α → Bool} {k : Nat} (hk : k < l.length) : (l.take (k + 1)).any f = ((l.take k).any f || f l[k]) := by
  rw [List.take_succ_eq_append_getElem hk, List.any_append]; simp
theorem any_yes {α : Type} {l : List α} {f : α → Bool} {k : Nat} (h : (l.take k).any f = true) : l.any f = true := by
  obtain ⟨x, hx, hf⟩ := List.any_eq_true.1 h
  exact List.any_eq_true.2 ⟨x, List.mem_of_mem_take hx, hf⟩
def usedTo (n : Int) (x : Cl) (j : Nat) : Bool := decide (n ∈ varsL x.h) || (x.b.take j).any fun y => decide (n ∈ varsL y.t)
theorem usedTo_next {n : Int} {x : Cl} {j : Nat} (hj : j < x.b.length) : usedTo n x (j + 1) = (usedTo n x j || decide (n ∈ varsL x.b[j].t)) := by
  unfold usedTo; rw [any_take hj, Bool.or_assoc]
theorem usedTo_end {n : Int} {x : Cl} {j : Nat} (hj : x.b.length ≤ j) : usedTo n x j = usedB n x := by
  unfold usedTo usedB; rw [List.take_of_length_le hj]
theorem usedTo_zero (n : Int) (x : Cl) : usedTo n x 0 = decide (n ∈ varsL x.h) := by simp [usedTo]
theorem pos_next {l : List Lt} {k : Nat} (hk : k < l.length) : posL (l.take k) ++ [⟨false, l[k].t⟩] = posL (l.take (k + 1)) := by
  rw [List.take_succ_eq_append_getElem hk]; unfold posL; rw [List.map_append]; rfl
theorem n_vars (n : Int) : varsL (a1L 110 n) = [n] := by
  simp [varsL, varsGo, a1L, fC, vC]

set_option maxHeartbeats 16000000 in
set_option maxRecDepth 100000 in
theorem lawNegs_any (w : World) (x : Cl) (a : Option Addr) (cap : Nat) (a' : Option Addr) (cap' : Nat) (hv : ClV w a cap a' cap' x) :
    Calls Try.prog 6 #[.agg #[.slice a x.h.length cap, .slice a' x.b.length cap']] w fun e w' => e = .returned (.bool true) ∧ Below w.heap.size w w' := by
  have hm1 := hv.h.max
  have hm2 := hv.h.le
  have hm3 := hv.b.max
  have hm4 := hv.b.le
  have hb0 := (Below.refl w.heap.size w).new (.cells #[.slice a x.h.length cap, .slice a' x.b.length cap'] 31)
  have q0 : (w.alloc (.cells #[.slice a x.h.length cap, .slice a' x.b.length cap'] 31)).cell? ⟨w.heap.size, 0, none⟩ = some (.slice a x.h.length cap) := World.cell?_alloc_at _ _ _ 0 rfl
  have q1 : (w.alloc (.cells #[.slice a x.h.length cap, .slice a' x.b.length cap'] 31)).cell? ⟨w.heap.size, 1, none⟩ = some (.slice a' x.b.length cap') := World.cell?_alloc_at _ _ _ 1 rfl
  have HV := mkHid hv
  cases hG : greatB [x] with
  | true =>
    have HG := mkHid hG
    clear hG hv
    go_enter Try.func6, Try.ntmps6
    go_wp2_with fail
    refine (head7_any _).mono ?_; rintro e w1 ⟨rfl, hb1⟩
    have hb := hb0.then hb1
    have p0 := keep q0 hb1
    have p1 := keep q1 hb1
    go_wp2_with fail
    refine (great_is (cls1 (HV.out.below hb)) HG).mono ?_; rintro e w2 ⟨rfl, rfl⟩
    replace hb := hb.new (.cells #[.slice a x.h.length cap, .slice a' x.b.length cap'] 31)
    have r0 := keep p0 ((Below.refl w1.heap.size w1).new (.cells #[.slice a x.h.length cap, .slice a' x.b.length cap'] 31))
    have r1 := keep p1 ((Below.refl w1.heap.size w1).new (.cells #[.slice a x.h.length cap, .slice a' x.b.length cap'] 31))
    generalize w1.alloc (.cells #[.slice a x.h.length cap, .slice a' x.b.length cap'] 31) = w1' at *
    clear p0 p1 q0 q1 hb1 hb0
    go_wp2_with fail
    go_ret
    exact ⟨rfl, hb⟩
  | false =>
    have HG := mkHid hG
    clear hG hv
    cases hS : safeB x with
    | false =>
      have HS := mkHid hS
      clear hS
      go_enter Try.func6, Try.ntmps6
      go_wp2_with fail
      refine (head7_any _).mono ?_; rintro e w1 ⟨rfl, hb1⟩
      have hb := hb0.then hb1
      have p0 := keep q0 hb1
      have p1 := keep q1 hb1
      go_wp2_with fail
      refine (great_is (cls1 (HV.out.below hb)) HG).mono ?_; rintro e w2 ⟨rfl, rfl⟩
      replace hb := hb.new (.cells #[.slice a x.h.length cap, .slice a' x.b.length cap'] 31)
      have r0 := keep p0 ((Below.refl w1.heap.size w1).new (.cells #[.slice a x.h.length cap, .slice a' x.b.length cap'] 31))
      have r1 := keep p1 ((Below.refl w1.heap.size w1).new (.cells #[.slice a x.h.length cap, .slice a' x.b.length cap'] 31))
      generalize w1.alloc (.cells #[.slice a x.h.length cap, .slice a' x.b.length cap'] 31) = w1' at *
      clear p0 p1 q0 q1 hb1 hb0
      go_wp2_with fail
      refine (safep_is _ _ _ _ _ x false (HV.out.below hb) HS).mono ?_; rintro e w3 ⟨rfl, hb3⟩
      go_wp2_with fail
      go_ret
      exact ⟨rfl, hb.then hb3⟩
    | true =>
      have HS := mkHid hS
      clear hS
      have HMY := mkHid (safe_iff.1 HS.out).1
      have h8 := (may_facts HMY.out).1
      have hah := atom_200 (may_facts HMY.out).2.2
      have HAT : Hid (∀ y ∈ x.b, atomB y.t = true) := (may_facts HMY.out).2.1
      have HN1 : Hid (safeB ⟨x.h, posL x.b⟩ = true) := pos_safe HS.out h8 (fun _ => Iff.rfl)
      have HN2 : Hid (safeB ⟨x.h, posL x.b.reverse⟩ = true) := pos_safe HS.out (by rw [List.length_reverse]; exact h8) (fun _ => List.mem_reverse)
      go_enter Try.func6, Try.ntmps6
      go_wp2_with fail
      refine (head7_any _).mono ?_; rintro e w1 ⟨rfl, hb1⟩
      have hb := hb0.then hb1
      have p0 := keep q0 hb1
      have p1 := keep q1 hb1
      go_wp2_with fail
      refine (great_is (cls1 (HV.out.below hb)) HG).mono ?_; rintro e w2 ⟨rfl, rfl⟩
      replace hb := hb.new (.cells #[.slice a x.h.length cap, .slice a' x.b.length cap'] 31)
      have r0 := keep p0 ((Below.refl w1.heap.size w1).new (.cells #[.slice a x.h.length cap, .slice a' x.b.length cap'] 31))
      have r1 := keep p1 ((Below.refl w1.heap.size w1).new (.cells #[.slice a x.h.length cap, .slice a' x.b.length cap'] 31))
      generalize w1.alloc (.cells #[.slice a x.h.length cap, .slice a' x.b.length cap'] 31) = w1' at *
      clear p0 p1 q0 q1 hb1 hb0
      go_wp2_with fail
      refine (safep_is _ _ _ _ _ x true (HV.out.below hb) HS).mono ?_; rintro e w3 ⟨rfl, hb3⟩
      replace hb := hb.then hb3
      replace r0 := keep r0 hb3
      replace r1 := keep r1 hb3
      clear hb3
      have hsz0 : w.heap.size < w3.heap.size := cell_lt r0
      have htw := TwoL.made (w0 := w) w3
      have hb4 := ((Below.refl w3.heap.size w3).new (.cells #[] 47)).new (.cells #[] 47)
      have hs4 : w3.heap.size ≤ ((w3.alloc (.cells #[] 47)).alloc (.cells #[] 47)).heap.size := hb4.size
      have HB3 := mkHid hb
      clear hb
      go_wp2_with fail
      go_loopw [4, 5, 6] (fun p q i wr => ∃ k : Nat, k ≤ x.b.length ∧ i = .int .i64 k ∧ TwoL w w3.heap.size (posL (x.b.take k)) (posL (x.b.reverse.take k)) p q wr ∧ Below w3.heap.size w3 wr ∧ w3.heap.size ≤ wr.heap.size) (fun p q i wr => x.b.length - (intOf i).toNat)
      case atStart => exact ⟨0, Nat.zero_le _, rfl, htw, hb4, hs4⟩
      case round =>
        clear htw hb4 hs4
        obtain ⟨k, hk, rfl, htw, hbk, hsk⟩ := hrel
        have hbw := HB3.out.then hbk
        have t0 := keep r0 hbk
        have t1 := keep r1 hbk
        by_cases hlt : k < x.b.length
        · obtain ⟨b, off, rfl, hbb, hat⟩ := HV.out.b.cases.resolve_left (fun e => by simp [e] at hlt)
          obtain ⟨a1, cap1, c0, c1, hr1⟩ := lt_at hat hbw hlt
          obtain ⟨_, _, _, c1w, hr1w⟩ := lt_at hat (Below.refl _ _) hlt
          have e1 := c1.symm.trans (keep c1w hbw)
          injection e1 with e1
          injection e1 with e1 _ e3
          subst e1; subst e3
          obtain ⟨j, hj⟩ : ∃ j, j + k + 1 = x.b.length := ⟨x.b.length - k - 1, by omega⟩
          obtain ⟨q, hq⟩ : ∃ q, q = j + k := ⟨_, rfl⟩
          have hjl : j < x.b.length := by omega
          obtain ⟨a2, cap2, d0, d1, hr2⟩ := lt_at hat hbw hjl
          obtain ⟨_, _, _, d1w, hr2w⟩ := lt_at hat (Below.refl _ _) hjl
          have e1 := d1.symm.trans (keep d1w hbw)
          injection e1 with e1
          injection e1 with e1 _ e3
          subst e1; subst e3
          have y1 : IntKind.i64.wrap ((x.b.length : Int) - 1) = (q : Int) := by rw [show (x.b.length : Int) - 1 = (q : Int) by omega]; exact IntWalk.i64_in _ (by omega)
          have y2 : IntKind.i64.wrap ((q : Int) - (k : Int)) = (j : Int) := by rw [show (q : Int) - (k : Int) = (j : Int) by omega]; exact IntWalk.i64_in _ (by omega)
          have HT1 := pos_next hlt
          have HT2 := pos_next (l := x.b.reverse) (k := k) (by rw [List.length_reverse]; exact hlt)
          have hrv : x.b.reverse[k]'(by rw [List.length_reverse]; exact hlt) = x.b[j] := by
            rw [List.getElem_reverse]
            congr 1
            omega
          rw [hrv] at HT2
          have HT1 := mkHid HT1
          have HT2 := mkHid HT2
          have hla : (posL (x.b.take k)).length ≤ 1000000 := by rw [pos_len, List.length_take]; omega
          have hlc : (posL (x.b.reverse.take k)).length ≤ 1000000 := by rw [pos_len, List.length_take, List.length_reverse]; omega
          have hj0 : (0 : Int) ≤ (j : Int) := by omega
          have hj1 : (j : Int) < (x.b.length : Int) := by omega
          generalize posL (x.b.take k) = A at *
          generalize posL (x.b.reverse.take k) = C at *
          clear hrv hat hbb c1w hr1 hr2 hj hq hbw
          go_wp2_with (first
            | (at_builtin; refine wpList_two2 rfl _ _ rfl htw5 (by rfl) hr2w (by rfl) hlc hs5 ?_; intro q' w6 htw6 hb6)
            | (at_builtin; (refine wpList_two1 rfl _ _ rfl htw (by rfl) hr1w (by rfl) hla hsk ?_; intro p' w5 htw5 hb5; have hb5' : Below w3.heap.size w3 w5 := hbk.trans hb5; have hs5 : w3.heap.size ≤ w5.heap.size := Nat.le_trans hsk hb5.size; have f0 := keep r0 hb5'; have f1 := keep r1 hb5'; have g1 := keep d1w (HB3.out.then hb5'))))
          go_round
          case rel => exact ⟨k + 1, by omega, by go_num, by rw [← HT1.out, ← HT2.out]; exact htw6, hb5'.trans hb6, Nat.le_trans hs5 hb6.size⟩
          case measure => simp [intOf]; omega
        · have hkl : k = x.b.length := by omega
          obtain ⟨⟨aP, cP, rfl, hrP⟩, ⟨aT, cT, rfl, hrT⟩⟩ := htw.rows (Keeps.of hbw)
          have hrP2 : Row wr aP cP (posL x.b) := by rw [List.take_of_length_le (by omega)] at hrP; exact hrP
          have hrT2 : Row wr aT cT (posL x.b.reverse) := by rw [List.take_of_length_le (by rw [List.length_reverse]; omega)] at hrT; exact hrT
          have hlP : (posL (x.b.take k)).length = (posL x.b).length := by rw [List.take_of_length_le (by omega)]
          have hlT : (posL (x.b.reverse.take k)).length = (posL x.b.reverse).length := by rw [List.take_of_length_le (by rw [List.length_reverse]; omega)]
          rw [hlP, hlT]
          have hP1 := hrP2.max
          have hP2 := hrP2.le
          have hT1 := hrT2.max
          have hT2 := hrT2.le
          have HPL := mkHid hrP2
          have HTL := mkHid hrT2
          generalize hpo : posL x.b = PO at *
          generalize hto : posL x.b.reverse = TU at *
          have hpl : PO.length = x.b.length := by rw [← hpo, pos_len]
          have hx0 : ∀ y ∈ x.b, y.t.length ≤ 200 := fun y hy => atom_200 (HAT.out y hy)
          have HX0 := mkHid hx0
          have HBW := mkHid hbw
          clear htw hrP hrT hlP hlT hrP2 hrT2 hpo hto hx0 hbw hbk hsk hpl hkl
          go_wp2_with fail
          go_loopw [7, 8] (fun v i wz => ∃ (n : Nat) (o : Int), n ≤ 1000 ∧ i = .int .i64 n ∧ v = .int .i64 o ∧ Hid (o = -1 ∨ 0 ≤ o ∧ o ≤ 1000 ∧ usedB o x = false) ∧ Below wr.heap.size wr wz) (fun v i wz => 1000 - (intOf i).toNat)
          case atStart => exact ⟨0, -1, by omega, rfl, rfl, .inl rfl, Below.refl _ _⟩
          case round =>
            obtain ⟨n, o, hn, rfl, rfl, HO, hbn⟩ := hrel
            have hbw := HBW.out.then hbn
            have v0 := keep t0 hbn
            have v1 := keep t1 hbn
            have hrh := HV.out.h.below hbw
            by_cases hlt2 : n < 1000
            · obtain ⟨b5, hb5e⟩ : ∃ b5, decide ((n : Int) ∈ varsL x.h) = b5 := ⟨_, rfl⟩
              have HIN := mkHid hb5e
              have HU0 : Hid (usedTo n x 0 = b5) := by rw [Hid, usedTo_zero, hb5e]
              clear hb5e
              go_wp2_with fail
              refine (refvars_new _ _ _ _ hrh (by omega)).mono ?_; rintro e w5 ⟨a5, c5, rfl, hn5, hb5⟩
              go_wp2_with fail
              refine (in7_is hn5.row HIN).mono ?_; rintro e w6 ⟨rfl, hb6⟩
              have hb56 := hb5.then hb6
              replace v0 := keep v0 hb56
              replace v1 := keep v1 hb56
              replace hbw := hbw.then hb56
              replace hbn := hbn.then hb56
              have HBW6 := mkHid hbw
              clear hn5 hb5 hb6 hb56 hrh HIN hbw
              go_wp2_with fail
              go_loopw [9, 10] (fun u i wz => ∃ (j : Nat) (b : Bool), j ≤ x.b.length ∧ i = .int .i64 j ∧ u = .bool b ∧ Hid (usedTo n x j = b) ∧ Below w6.heap.size w6 wz) (fun u i wz => x.b.length - (intOf i).toNat)
              case atStart => exact ⟨0, b5, Nat.zero_le _, rfl, rfl, HU0, Below.refl _ _⟩
              case round =>
                clear HU0
                obtain ⟨j, b, hj, rfl, rfl, HU, hbj⟩ := hrel
                have z0 := keep v0 hbj
                have z1 := keep v1 hbj
                have hbnj := hbn.then hbj
                by_cases hjl : j < x.b.length
                · cases b with
                  | true =>
                    go_wp2_with fail
                    go_round
                    case rel => exact ⟨n + 1, o, by omega, by go_num, rfl, HO, hbnj⟩
                    case measure => simp [intOf]; omega
                  | false =>
                    obtain ⟨b2, off, rfl, hbb, hat⟩ := HV.out.b.cases.resolve_left (fun e => by simp [e] at hjl)
                    have hbwj := HBW6.out.then hbj
                    obtain ⟨a1, cap1, c0, c1, hr1⟩ := lt_at hat hbwj hjl
                    have ht2 := HX0.out _ (List.getElem_mem hjl)
                    obtain ⟨b7, hb7e⟩ : ∃ b7, decide ((n : Int) ∈ varsL x.b[j].t) = b7 := ⟨_, rfl⟩
                    have HIN := mkHid hb7e
                    have HU2 : Hid (usedTo n x (j + 1) = b7) := by rw [Hid, usedTo_next hjl, HU.out, hb7e]; rfl
                    clear hb7e HU hat hbb hbwj
                    go_wp2_with fail
                    refine (refvars_new _ _ _ _ hr1 (by omega)).mono ?_; rintro e w7 ⟨a7, c7, rfl, hn7, hb7⟩
                    go_wp2_with fail
                    refine (in7_is hn7.row HIN).mono ?_; rintro e w8 ⟨rfl, hb8⟩
                    go_wp2_with fail
                    go_round
                    case rel => exact ⟨j + 1, b7, by omega, by go_num, rfl, HU2, hbj.then (hb7.then hb8)⟩
                    case measure => simp [intOf]; omega
                · have HU2 : Hid (usedB n x = b) := by rw [Hid, ← usedTo_end (show x.b.length ≤ j by omega)]; exact HU.out
                  cases b with
                  | true =>
                    go_wp2_with fail
                    go_round
                    case rel => exact ⟨n + 1, o, by omega, by go_num, rfl, HO, hbnj⟩
                    case measure => simp [intOf]; omega
                  | false =>
                    go_wp2_with fail
                    go_round
                    case rel => exact ⟨n + 1, n, by omega, by go_num, rfl, .inr ⟨by omega, by omega, HU2.out⟩, hbnj⟩
                    case measure => simp [intOf]; omega
            · have hvP : ClV wr a cap aP cP ⟨x.h, PO⟩ := ⟨hrh, HPL.out.below hbn⟩
              have hvT : ClV wr a cap aT cT ⟨x.h, TU⟩ := ⟨hrh, HTL.out.below hbn⟩
              clear hrh
              go_wp2_with fail
              refine (safep_is _ _ _ _ _ ⟨x.h, PO⟩ true hvP HN1).mono ?_; rintro e w5 ⟨rfl, hb5⟩
              replace v0 := keep v0 hb5
              replace v1 := keep v1 hb5
              have hbw5 := hbw.then hb5
              have hvT5 := hvT.below hb5
              go_wp2_with fail
              refine (safep_is _ _ _ _ _ ⟨x.h, TU⟩ true hvT5 HN2).mono ?_; rintro e w6 ⟨rfl, hb6⟩
              replace v0 := keep v0 hb6
              replace v1 := keep v1 hb6
              have hb := hbw5.then hb6
              clear hvP hvT hb5 hb6 hvT5 hbw5 hbw hbn HPL HTL t0 t1
              rcases HO.out with e1 | ⟨o0, o1, o2⟩
              · subst e1
                go_wp2_with fail
                go_ret
                exact ⟨rfl, hb⟩
              · have y1 : decide (o < 0) = false := decide_eq_false (by omega)
                by_cases he : x.b.length = 8
                · have y2 : decide ((x.b.length : Int) = 8) = true := decide_eq_true (by omega)
                  have y3 : ((x.b.length : Int) == 8) = true := by rw [beq_iff_eq]; omega
                  have y4 : decide (x.b.length = 8) = true := decide_eq_true he
                  have y5 : (x.b.length == 8) = true := by rw [beq_iff_eq]; omega
                  clear he
                  go_wp2_with fail
                  go_ret
                  exact ⟨rfl, hb⟩
                · have y2 : decide ((x.b.length : Int) = 8) = false := decide_eq_false (by omega)
                  have y3 : ((x.b.length : Int) == 8) = false := beq_false_of_ne (by omega)
                  have y4 : decide (x.b.length = 8) = false := decide_eq_false he
                  have y5 : (x.b.length == 8) = false := beq_false_of_ne he
                  have HOD : Hid (safeB ⟨x.h, x.b ++ [⟨true, a1L 110 o⟩]⟩ = false) := odd_safe (used_no o2) (by rw [n_vars]; exact List.mem_singleton.2 rfl)
                  have hacc := AccInv.made (α := Lt) (B := w6.heap.size) (e := 47) (T := 47) w6 (Nat.le_refl _) rfl
                  have hbA := (Below.refl w6.heap.size w6).new (.cells #[] 47)
                  have hrb : Row (hide (Value.slice (some ⟨w6.heap.size, 0, none⟩) 0 0).ownBlock (w6.alloc (.cells #[] 47))) a' cap' x.b := (HV.out.b.below hb).keeps (hacc.fresh hbA)
                  have g0 := keep v0 hbA
                  have g1 := keep v1 hbA
                  have hsA : w6.heap.size ≤ (w6.alloc (.cells #[] 47)).heap.size := hbA.size
                  clear he o2 HO
                  go_wp2_with (at_builtin; refine wpList_accs (α := Lt) rfl _ _ 29 rfl w6.heap.size 47 32 _ Try.underlying29 Try.infoLit rfl (by decide) _ [] hacc (by rfl) _ _ x.b hrb (by rfl) (by simp; omega) hsA ?_; intro v7 w7 hacc7 hb7)
                  rw [List.nil_append] at hacc7
                  have hl0 := cell_lt v0
                  have hb67 := hbA.trans hb7
                  replace g0 := keep v0 hb67
                  replace g1 := keep v1 hb67
                  have hs7 : w6.heap.size ≤ w7.heap.size := hb67.size
                  clear hrb hacc hbA hsA hb7 v0 v1
                  refine (atom_varN 110 o _ (by omega) (by omega)).mono ?_; rintro e w8 ⟨a8, c8, rfl, hn8, hb8⟩
                  have hacc8 := hacc7.below hb8
                  have hro := hacc7.newer (Nat.le_refl _) hn8
                  replace g0 := keep g0 hb8
                  replace g1 := keep g1 hb8
                  have hs8 : w6.heap.size ≤ w8.heap.size := Nat.le_trans hs7 hb8.size
                  have hb68 : Below w6.heap.size w6 w8 := hb67.trans (hb8.mono hs7)
                  clear hacc7 hn8 hb8 hb67
                  go_wp2_with (at_builtin; refine wpList_acc (α := Lt) rfl _ _ 29 rfl w6.heap.size 47 32 _ Try.underlying29 Try.infoLit rfl (by decide) _ x.b hacc8 (by rfl) _ #[.bool true, .slice a8 2 c8] (⟨true, a1L 110 o⟩ : Lt) ⟨a8, c8, rfl, hro⟩ (by rfl) (by omega) hs8 ?_; intro v9 w9 hacc9 hb9; have f0 := keepB hb9 g0 hl0; have f1 := keepB hb9 g1 hl0; generalize x.b ++ [(⟨true, a1L 110 o⟩ : Lt)] = Z at hacc9 HOD; obtain ⟨a9, c9, rfl, hr9⟩ := hacc9.row)
                  have hbz := hb.then (hb68.trans hb9)
                  refine (safep_is _ _ _ _ _ ⟨x.h, Z⟩ false ⟨HV.out.h.below hbz, hr9⟩ HOD).mono ?_; rintro e w10 ⟨rfl, hb10⟩
                  go_wp2_with fail
                  go_ret
                  exact ⟨rfl, hbz.then hb10⟩
end Go.Proofs.Ytkgebkinlpmpnaa
namespace Go.Proofs.Ytkgebkinlpmpnaa
open Go.RowKit Go.ChangeShapes Go.WideShapes Go.ChangeAt
open Go.ChangeMaps (open_string)

set_option maxRecDepth 100000 in
set_option maxHeartbeats 1000000 in
theorem ProgNegs_lifted (os : Os) (started : os.Started) (H : Type) (enc : TypeId × Value → H) :
    ReturnsInHanded {} Try.checked os 6 .any (Rows.progNegsSpec.pre6 enc Try.prog Try.f6 Rows.progNegsRow.domain false) (Rows.progNegsSpec.post enc Try.prog Try.f6 false true false false) := by
  refine returnsInHanded_of_change (C := Try.checked) Try.own started (by kernel_rfl) Try.func6
    (ChangeSpec.witness6 (enc := enc) (C := Try.checked) false ⟨#[], #[.agg #[.slice none 0 0, .slice none 0 0]], []⟩ 8 (by kernel_rfl) (by kernel_rfl) (by kernel_rfl) (by kernel_rfl)) ?_
  intro W base args ds gs before hval0 hW hcnd _
  have hval : ∀ (j : Nat) t v, Try.f6.params[j]? = some t → args[j]? = some v → Value.okWide Try.prog W .any base t v := hval0
  have hW' := hW
  obtain ⟨p, q, hA0, hV, rfl, hfz, hnd⟩ := hW
  have hA : DataW.TrodAll enc Try.prog W 0 (fun _ => true) true Try.f6.params.toList args.toList ds p := hA0
  rw [Try.params6] at hA hval
  obtain ⟨v0, vs0, d0, ds0, p0, q0, hargs, rfl, rfl, h0, r0⟩ := trodAll_cons hA
  obtain ⟨rfl, rfl, rfl⟩ := trodAll_nil r0
  obtain rfl : args = #[v0] := by cases args; simp_all
  obtain ⟨rfl, rfl⟩ := trodVars_none hV
  have k0 := h0
  have lt0 : ∀ x ∈ p0, x.block < W.heap.size := by obtain ⟨m, hm⟩ := k0; exact DataW.trod_lt m _ _ _ hm
  obtain ⟨x0, a0, b0, e0, c0, rfl, hv0⟩ : ∃ (x : Cl) (a : Option Addr) (b : Nat) (e : Option Addr) (c : Nat), v0 = .agg #[.slice a x.h.length b, .slice e x.b.length c] ∧ ClV W a b e c x := by
    obtain ⟨⟨l⟩, rfl⟩ := agg_clause (hval 0 31 v0 rfl rfl)
    obtain ⟨fuel, hf⟩ := h0
    obtain ⟨x, a, b, e, c, hc, g0, g1⟩ := open_clause7 hf
    have hc' : l = [.slice a x.h.length b, .slice e x.b.length c] := hc
    exact ⟨x, a, b, e, c, by rw [hc'], ⟨g0, g1⟩⟩
  clear hA0 hval0
  refine (lawNegs_any W x0 a0 b0 e0 c0 hv0).mono fun e W' ⟨he, bel⟩ => ?_
  subst he
  exact ⟨_, rfl, _, _, _, [], _, [], hW', trodAll_mk1 (shut_bool Try.underlying4 _), (trodAll_cons_mk (Below.trod Try.laidOut (by kernel_rfl) (of_decide_eq_true (by kernel_rfl)) k0 bel lt0) trodAll_mk0), rfl, bel.frame _, fun h => by cases h⟩

theorem ProgNegs_over : Rows.progNegsRow.holds Try.pinned (OpenSpec.ofChange Rows.progNegsSpec) :=
  OpenClaim.holds_of_wide 6 Try.f6 rfl rfl rfl rfl rfl rfl rfl ⟨rfl, rfl, rfl, rfl, rfl⟩ rfl rfl rfl rfl rfl (by kernel_rfl) Try.func6 (by kernel_rfl)
    (of_decide_eq_true (by kernel_rfl)) (by unfold Func.isWrapper; first | (rw [if_pos (by decide +kernel)]; kernel_rfl) | (rw [if_neg (by decide +kernel)]; exact ⟨rfl, rfl⟩))
    (fun os started H enc _ => ProgNegs_lifted os started H enc)

theorem ProgNegs_holds : Rows.ProgNegsSaid := ProgNegs_over
end Go.Proofs.Ytkgebkinlpmpnaa
