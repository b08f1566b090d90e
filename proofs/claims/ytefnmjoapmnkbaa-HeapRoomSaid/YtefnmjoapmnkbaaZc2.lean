/-
  Of layer 8 of sorrel: whatever arguments come in, the law HeapRoom returns true, and what was handed in reads as it did: a term takes a slot for each name, and one for each argument; none, if it is a variable that stands somewhere; there is room just if these fit. No condition.
-/
import Derived.Test.YtefnmjoapmnkbaaZr8
set_option linter.unusedVariables false
namespace Go.Proofs.Ytefnmjoapmnkbaa
open Go.RowKit

/-! ### HeapRoom -/
def manyN (ps : List Int) (t : Tm) : Nat := if t.hd.k = 3 then t.flat.length - 1 + funsL t.flat else if t.hd.k = 1 ∧ t.hd.n < (ps.length : Int) ∧ 0 ≤ ps.getD t.hd.n.toNat (-1) then 0 else 1
theorem widen_keeps (vs : List Int) : ∀ (ps : List Int) (k : Nat), k < ps.length → (widenL ps vs).getD k 0 = ps.getD k 0 := by
  induction vs with
  | nil => intro ps k _; rfl
  | cons v vs ih =>
    intro ps k hk
    unfold widenL at ih ⊢
    rw [List.foldl_cons, ih _ k (by simp; omega), List.getD_eq_getElem?_getD, List.getD_eq_getElem?_getD, List.getElem?_append_left hk]
theorem widen_new (vs : List Int) : ∀ (ps : List Int) (k : Nat), ps.length ≤ k → k < (widenL ps vs).length → (widenL ps vs).getD k 0 = -1 := by
  induction vs with
  | nil => intro ps k h1 h2; unfold widenL at h2; simp at h2; omega
  | cons v vs ih =>
    intro ps k h1 h2
    have hk := widen_keeps vs (ps ++ List.replicate ((v + 1).toNat - ps.length) (-1)) k
    unfold widenL at ih h2 hk ⊢
    rw [List.foldl_cons] at h2 ⊢
    by_cases hl : k < (ps ++ List.replicate ((v + 1).toNat - ps.length) (-1)).length
    · rw [hk hl, List.getD_eq_getElem?_getD, List.getElem?_append_right h1, List.getElem?_replicate]
      simp at hl
      rw [if_pos (by omega)]; rfl
    · exact ih _ k (by omega) h2
theorem putS_many {xs : List Cel} {ps : List Int} {t : Tm} (hok : t.ok) (hp : PlOk xs.length ps) : (putS xs (widenL ps (varsL t.flat)) t).1.1.length = xs.length + manyN ps t := by
  have hvi := widen_vars hok ps
  unfold putS manyN
  by_cases h3 : t.hd.k = 3
  · rw [if_pos h3, if_pos h3, (layT_length t _).1]
    have := slotsN_eq t hok h3
    have := flat_pos t
    simp only
    omega
  · rw [if_neg h3, if_neg h3]
    by_cases h1 : t.hd.k = 1
    · obtain ⟨v1, v2⟩ := hvi.hd h1
      by_cases hn : t.hd.n < (ps.length : Int)
      · have hk : t.hd.n.toNat < ps.length := by omega
        have e1 := widen_keeps (varsL t.flat) ps _ hk
        have e2 : ps.getD t.hd.n.toNat 0 = ps[t.hd.n.toNat] := by rw [List.getD_eq_getElem?_getD, List.getElem?_eq_getElem hk]; rfl
        have e3 : ps.getD t.hd.n.toNat (-1) = ps[t.hd.n.toNat] := by rw [List.getD_eq_getElem?_getD, List.getElem?_eq_getElem hk]; rfl
        rcases hp _ (List.getElem_mem hk) with e | ⟨e, _⟩
        · rw [if_neg (by rw [e1, e2, e]; simp), if_neg (by rw [e3, e]; omega)]
          simp
        · rw [if_pos ⟨h1, by rw [e1, e2]; omega⟩, if_pos ⟨h1, hn, by rw [e3]; exact e⟩]
          simp
      · rw [if_neg (by rw [widen_new _ _ _ (by omega) (by omega)]; simp), if_neg (by omega)]
        simp
    · rw [if_neg (fun h => h1 h.1), if_neg (fun h => h1 h.1)]
      simp
/-- whether there was room -/
theorem pout_room {xs : List Cel} {at_ ps : List Int} {r : Int} {t : Tm} {xs' : List Cel} {pl : Int} {at' : List Int} {er : Int} (h : POut xs at_ r (putS xs (widenL ps (varsL t.flat)) t) xs' pl at' er) (hok : t.ok) (hp : PlOk xs.length ps) :
    (er = 80 ∧ ¬ ((xs.length : Int) + manyN ps t ≤ r)) ∨ (er = 0 ∧ (xs.length : Int) + manyN ps t ≤ r ∧ (xs'.length : Int) = xs.length + manyN ps t) := by
  have e := putS_many (xs := xs) hok hp
  rcases h with ⟨h, _, _, _, rfl⟩ | ⟨h, rfl, _, _, rfl⟩
  · rw [e] at h; exact .inl ⟨rfl, by omega⟩
  · rw [e] at h; exact .inr ⟨rfl, by omega, by omega⟩
set_option maxRecDepth 100000 in
set_option maxHeartbeats 16000000 in
theorem lawRoom_any (HD : ∀ w : World, Calls Try.prog 12 #[] w fun e w' => e = .returned (.bool true) ∧ Below w.heap.size w w')
    (a : Option Addr) (cap : Nat) (a' : Option Addr) (cap' : Nat) (r : Int) (b : Option Addr) (cb : Nat) (c : Option Addr) (cc : Nat) (w : World) (l : List Cel) (ts at_ : List Int) (T : List Cel)
    (hr : Row w a cap l) (ht : Row w a' cap' ts) (h1 : Row w b cb at_) (h2 : Row w c cc T) :
    Calls Try.prog 5 #[hv a l.length cap a' ts.length cap' r, .slice b at_.length cb, .slice c T.length cc] w fun e w' => e = .returned (.bool true) ∧ Below w.heap.size w w' := by
  have hm := hr.max
  have hle := hr.le
  have hm2 := ht.max
  have hle2 := ht.le
  have hm3 := h2.max
  have hle3 := h2.le
  have hm4 := h1.max
  have hle4 := h1.le
  have HR := mkHid hr
  have HT := mkHid ht
  have HA := mkHid h1
  have H2 := mkHid h2
  clear hr ht h1 h2
  go_enter Try.func5, Try.ntmps5
  have HB := mkHid (Below.refl w.heap.size w)
  go_wp2_with fail
  obtain ⟨W, hW⟩ : ∃ V, w.alloc (.cells #[.slice a l.length cap, .slice a' ts.length cap', .int .i64 r] 25) = V := ⟨_, rfl⟩
  have hb0 : Below w.heap.size w W := by rw [← hW]; exact (Below.refl _ _).new _
  have q0 : C38 W w.heap.size (.slice a l.length cap) (.slice a' ts.length cap') (.int .i64 r) := by rw [← hW]; exact C38.new w _ _ _ _
  rw [hW]
  clear hW
  obtain ⟨B0, hB0⟩ : ∃ V, w.heap.size = V := ⟨_, rfl⟩
  rw [hB0] at q0 ⊢
  have HB00 := mkHid hB0
  clear hB0
  replace HR := mkHid (HR.out.below hb0)
  replace HT := mkHid (HT.out.below hb0)
  replace HA := mkHid (HA.out.below hb0)
  replace H2 := mkHid (H2.out.below hb0)
  replace HB := mkHid (HB.out.then hb0)
  have X0 := mkHid q0
  clear q0 hb0
  refine (HD _).mono ?_
  rintro e w1 ⟨rfl, hw1⟩
  replace HR := mkHid (HR.out.below hw1)
  replace HT := mkHid (HT.out.below hw1)
  replace HA := mkHid (HA.out.below hw1)
  replace H2 := mkHid (H2.out.below hw1)
  replace X0 := mkHid (X0.out.below hw1)
  replace HB := mkHid (HB.out.then hw1)
  clear hw1
  have k0 := X0.out.lt
  obtain ⟨j00, j01, j02⟩ := X0.out
  go_wp2_with fail
  clear j00 j01 j02 k0
  refine (may8_any a cap a' cap' r _ l ts HR.out HT.out).mono ?_
  rintro e w2 ⟨⟨t, rfl, hMay⟩, hw2⟩
  replace HR := mkHid (HR.out.below hw2)
  replace HT := mkHid (HT.out.below hw2)
  replace HA := mkHid (HA.out.below hw2)
  replace H2 := mkHid (H2.out.below hw2)
  replace X0 := mkHid (X0.out.below hw2)
  replace HB := mkHid (HB.out.then hw2)
  clear hw2
  have HM := mkHid hMay
  clear hMay
  cases t with
  | false =>
    go_wp2_with fail
    go_ret
    exact ⟨ret_bool rfl, HB.out⟩
  | true =>
    have HMP := mkHid (HM.out.1 (by first | rfl | trivial))
    have hl1 := HMP.out.1
    have hl2 := HMP.out.2.1
    by_cases h210 : (T.length : Int) ≤ 210
    rotate_left
    · skip
      go_wp2_with fail
      go_ret
      exact ⟨ret_bool rfl, HB.out⟩
    cases hRi : rightB T with
    | false =>
      have HRI := mkHid hRi
      clear hRi
      go_wp2_with fail
      refine (refright_any c cc _ T H2.out).mono ?_
      rintro e w3 ⟨rfl, hw3⟩
      rw [HRI.out]
      replace HR := mkHid (HR.out.below hw3)
      replace HT := mkHid (HT.out.below hw3)
      replace HA := mkHid (HA.out.below hw3)
      replace H2 := mkHid (H2.out.below hw3)
      replace X0 := mkHid (X0.out.below hw3)
      replace HB := mkHid (HB.out.then hw3)
      clear hw3
      go_wp2_with fail
      go_ret
      exact ⟨ret_bool rfl, HB.out⟩
    | true =>
      obtain ⟨tm, hok, rfl, h200⟩ := right_tm hRi
      have HRI := mkHid hRi
      have HOK := mkHid hok
      clear hRi hok
      go_wp2_with fail
      refine (refright_any c cc _ _ H2.out).mono ?_
      rintro e w4 ⟨rfl, hw4⟩
      rw [HRI.out]
      replace HR := mkHid (HR.out.below hw4)
      replace HT := mkHid (HT.out.below hw4)
      replace HA := mkHid (HA.out.below hw4)
      replace H2 := mkHid (H2.out.below hw4)
      replace X0 := mkHid (X0.out.below hw4)
      replace HB := mkHid (HB.out.then hw4)
      clear hw4
      have k0 := X0.out.lt
      obtain ⟨j00, j01, j02⟩ := X0.out
      go_wp2_with fail
      clear j00 j01 j02 k0
      refine (fits_any a cap a' ts.length cap' r b cb _ l.length at_ HA.out).mono ?_
      rintro e w5 ⟨a2, c2, rfl, r2, hw5⟩
      replace HR := mkHid (HR.out.below hw5)
      replace HT := mkHid (HT.out.below hw5)
      replace HA := mkHid (HA.out.below hw5)
      replace H2 := mkHid (H2.out.below hw5)
      replace X0 := mkHid (X0.out.below hw5)
      replace HB := mkHid (HB.out.then hw5)
      clear hw5
      have HFO := mkHid (fitL_ok l.length at_)
      have hfl := fitL_len l.length at_
      generalize fitL l.length at_ = ps at *
      have R2 := mkHid (r2)
      clear r2
      have hpos : 0 < tm.flat.length := flat_pos tm
      obtain ⟨bb, off, rfl, hbb, hel⟩ := H2.out.cases.resolve_left (fun e => by simp [e] at hpos)
      have HEL := mkHid hel
      clear hel
      have hM : Hid (manyN ps tm = if tm.hd.k = 3 then tm.flat.length - 1 + funsL tm.flat else if tm.hd.k = 1 ∧ tm.hd.n < (ps.length : Int) ∧ 0 ≤ ps.getD tm.hd.n.toNat (-1) then 0 else 1) := rfl
      have hd0 : tm.flat[0] = tm.hd := by simp [flat_cons]
      have HV1 : Hid (tm.hd.k = 1 → 0 ≤ tm.hd.n) := fun h => (widen_vars HOK.out []).hd h |>.1
      have HFL : Hid (funsL tm.flat ≤ tm.flat.length) := by unfold funsL; exact List.length_filter_le _ _
      by_cases k3 : tm.hd.k = 3
      rotate_left
      · skip
        have b3 : (tm.hd.k == 3) = false := by simp [k3]
        by_cases k1 : tm.hd.k = 1
        rotate_left
        · skip
          have b1 : (tm.hd.k == 1) = false := by simp [k1]
          have HMM : Hid ((manyN ps tm : Int) = 1) := by rw [Hid, hM.out, if_neg k3, if_neg (fun h => k1 h.1)]; rfl
          obtain ⟨z0, z1, z2, zf⟩ := cel_at HEL.out (Below.refl _ _) hpos
          rw [hd0] at z0 z1 z2 zf
          simp only [Nat.zero_mul, Nat.add_zero] at z0 z1 z2
          have zn1 := zf.n1
          have zn2 := zf.n2
          clear zf
          have k0 := X0.out.lt
          obtain ⟨j00, j01, j02⟩ := X0.out
          go_wp2_with fail
          clear j00 j01 j02 k0
          refine (hput_any a cap a' cap' r _ cc _ c2 _ l ts ps tm HR.out HT.out H2.out R2.out HOK.out h200 (by omega) (by omega) (by omega) (HFO.out.known _)).mono ?_
          rintro e w6 ⟨xs3, pl, at3, er, a11, c11, a12, c12, a13, c13, rfl, hP, r11, s11, _, hw6⟩
          have HPR := mkHid (pout_room hP HOK.out HFO.out)
          clear hP
          rw [HMM.out] at HPR
          have h11 := r11.row.max
          have h12 := r11.row.le
          replace HR := mkHid (HR.out.below hw6)
          replace HT := mkHid (HT.out.below hw6)
          replace HA := mkHid (HA.out.below hw6)
          replace H2 := mkHid (H2.out.below hw6)
          replace X0 := mkHid (X0.out.below hw6)
          replace R2 := mkHid (R2.out.below hw6)
          replace HB := mkHid (HB.out.then hw6)
          clear hw6
          clear r11 s11
          rcases HPR.out with ⟨rfl, hno⟩ | ⟨rfl, hyes, hlen⟩
          · skip
            have hdn : decide ((l.length : Int) + 1 ≤ r) = false := decide_eq_false hno
            have k0 := X0.out.lt
            obtain ⟨j00, j01, j02⟩ := X0.out
            go_wp2_with fail
            clear j00 j01 j02 k0
            have q0 := C38.new w6 (.slice a11 xs3.length c11) (.slice a12 ts.length c12) (.int .i64 r) 25
            have hw7 := (Below.refl w6.heap.size w6).new (.cells #[.slice a11 xs3.length c11, .slice a12 ts.length c12, .int .i64 r] 25)
            replace HR := mkHid (HR.out.below hw7)
            replace HT := mkHid (HT.out.below hw7)
            replace HA := mkHid (HA.out.below hw7)
            replace H2 := mkHid (H2.out.below hw7)
            replace X0 := mkHid (X0.out.below hw7)
            replace R2 := mkHid (R2.out.below hw7)
            replace HB := mkHid (HB.out.then hw7)
            obtain ⟨w7, hV⟩ : ∃ V, w6.alloc (.cells #[.slice a11 xs3.length c11, .slice a12 ts.length c12, .int .i64 r] 25) = V := ⟨_, rfl⟩
            obtain ⟨G3, hG⟩ : ∃ V, w6.heap.size = V := ⟨_, rfl⟩
            rw [hV] at HR HT HA H2 X0 R2 HB q0 ⊢
            rw [hG] at q0 ⊢
            have X3 := mkHid q0
            clear hV hG q0 hw7
            have k0 := X0.out.lt
            obtain ⟨j00, j01, j02⟩ := X0.out
            have k3 := X3.out.lt
            obtain ⟨j30, j31, j32⟩ := X3.out
            go_wp2_with fail
            clear j00 j01 j02 j30 j31 j32 k0 k3
            go_ret
            exact ⟨ret_bool rfl, HB.out⟩
          · skip
            have hdn : decide ((l.length : Int) + 1 ≤ r) = true := decide_eq_true hyes
            have heq : ((xs3.length : Int) == (l.length : Int) + 1) = true := by rw [hlen]; simp
            have HLEN := mkHid hlen
            clear hlen
            have k0 := X0.out.lt
            obtain ⟨j00, j01, j02⟩ := X0.out
            go_wp2_with fail
            clear j00 j01 j02 k0
            have q0 := C38.new w6 (.slice a11 xs3.length c11) (.slice a12 ts.length c12) (.int .i64 r) 25
            have hw8 := (Below.refl w6.heap.size w6).new (.cells #[.slice a11 xs3.length c11, .slice a12 ts.length c12, .int .i64 r] 25)
            replace HR := mkHid (HR.out.below hw8)
            replace HT := mkHid (HT.out.below hw8)
            replace HA := mkHid (HA.out.below hw8)
            replace H2 := mkHid (H2.out.below hw8)
            replace X0 := mkHid (X0.out.below hw8)
            replace R2 := mkHid (R2.out.below hw8)
            replace HB := mkHid (HB.out.then hw8)
            obtain ⟨w8, hV⟩ : ∃ V, w6.alloc (.cells #[.slice a11 xs3.length c11, .slice a12 ts.length c12, .int .i64 r] 25) = V := ⟨_, rfl⟩
            obtain ⟨G3, hG⟩ : ∃ V, w6.heap.size = V := ⟨_, rfl⟩
            rw [hV] at HR HT HA H2 X0 R2 HB q0 ⊢
            rw [hG] at q0 ⊢
            have X3 := mkHid q0
            clear hV hG q0 hw8
            have k0 := X0.out.lt
            obtain ⟨j00, j01, j02⟩ := X0.out
            have k3 := X3.out.lt
            obtain ⟨j30, j31, j32⟩ := X3.out
            go_wp2_with fail
            clear j00 j01 j02 j30 j31 j32 k0 k3
            go_ret
            exact ⟨ret_bool rfl, HB.out⟩
        · skip
          have b1 : (tm.hd.k == 1) = true := by simp [k1]
          have v0 := HV1.out k1
          by_cases hin : tm.hd.n < (ps.length : Int)
          rotate_left
          · skip
            have HMM : Hid ((manyN ps tm : Int) = 1) := by rw [Hid, hM.out, if_neg k3, if_neg (fun h => hin h.2.1)]; rfl
            obtain ⟨z0, z1, z2, zf⟩ := cel_at HEL.out (Below.refl _ _) hpos
            rw [hd0] at z0 z1 z2 zf
            simp only [Nat.zero_mul, Nat.add_zero] at z0 z1 z2
            have zn1 := zf.n1
            have zn2 := zf.n2
            clear zf
            have k0 := X0.out.lt
            obtain ⟨j00, j01, j02⟩ := X0.out
            go_wp2_with fail
            clear j00 j01 j02 k0
            refine (hput_any a cap a' cap' r _ cc _ c2 _ l ts ps tm HR.out HT.out H2.out R2.out HOK.out h200 (by omega) (by omega) (by omega) (HFO.out.known _)).mono ?_
            rintro e w9 ⟨xs3, pl, at3, er, a11, c11, a12, c12, a13, c13, rfl, hP, r11, s11, _, hw9⟩
            have HPR := mkHid (pout_room hP HOK.out HFO.out)
            clear hP
            rw [HMM.out] at HPR
            have h11 := r11.row.max
            have h12 := r11.row.le
            replace HR := mkHid (HR.out.below hw9)
            replace HT := mkHid (HT.out.below hw9)
            replace HA := mkHid (HA.out.below hw9)
            replace H2 := mkHid (H2.out.below hw9)
            replace X0 := mkHid (X0.out.below hw9)
            replace R2 := mkHid (R2.out.below hw9)
            replace HB := mkHid (HB.out.then hw9)
            clear hw9
            clear r11 s11
            rcases HPR.out with ⟨rfl, hno⟩ | ⟨rfl, hyes, hlen⟩
            · skip
              have hdn : decide ((l.length : Int) + 1 ≤ r) = false := decide_eq_false hno
              have k0 := X0.out.lt
              obtain ⟨j00, j01, j02⟩ := X0.out
              go_wp2_with fail
              clear j00 j01 j02 k0
              have q0 := C38.new w9 (.slice a11 xs3.length c11) (.slice a12 ts.length c12) (.int .i64 r) 25
              have hw10 := (Below.refl w9.heap.size w9).new (.cells #[.slice a11 xs3.length c11, .slice a12 ts.length c12, .int .i64 r] 25)
              replace HR := mkHid (HR.out.below hw10)
              replace HT := mkHid (HT.out.below hw10)
              replace HA := mkHid (HA.out.below hw10)
              replace H2 := mkHid (H2.out.below hw10)
              replace X0 := mkHid (X0.out.below hw10)
              replace R2 := mkHid (R2.out.below hw10)
              replace HB := mkHid (HB.out.then hw10)
              obtain ⟨w10, hV⟩ : ∃ V, w9.alloc (.cells #[.slice a11 xs3.length c11, .slice a12 ts.length c12, .int .i64 r] 25) = V := ⟨_, rfl⟩
              obtain ⟨G3, hG⟩ : ∃ V, w9.heap.size = V := ⟨_, rfl⟩
              rw [hV] at HR HT HA H2 X0 R2 HB q0 ⊢
              rw [hG] at q0 ⊢
              have X3 := mkHid q0
              clear hV hG q0 hw10
              have k0 := X0.out.lt
              obtain ⟨j00, j01, j02⟩ := X0.out
              have k3 := X3.out.lt
              obtain ⟨j30, j31, j32⟩ := X3.out
              go_wp2_with fail
              clear j00 j01 j02 j30 j31 j32 k0 k3
              go_ret
              exact ⟨ret_bool rfl, HB.out⟩
            · skip
              have hdn : decide ((l.length : Int) + 1 ≤ r) = true := decide_eq_true hyes
              have heq : ((xs3.length : Int) == (l.length : Int) + 1) = true := by rw [hlen]; simp
              have HLEN := mkHid hlen
              clear hlen
              have k0 := X0.out.lt
              obtain ⟨j00, j01, j02⟩ := X0.out
              go_wp2_with fail
              clear j00 j01 j02 k0
              have q0 := C38.new w9 (.slice a11 xs3.length c11) (.slice a12 ts.length c12) (.int .i64 r) 25
              have hw11 := (Below.refl w9.heap.size w9).new (.cells #[.slice a11 xs3.length c11, .slice a12 ts.length c12, .int .i64 r] 25)
              replace HR := mkHid (HR.out.below hw11)
              replace HT := mkHid (HT.out.below hw11)
              replace HA := mkHid (HA.out.below hw11)
              replace H2 := mkHid (H2.out.below hw11)
              replace X0 := mkHid (X0.out.below hw11)
              replace R2 := mkHid (R2.out.below hw11)
              replace HB := mkHid (HB.out.then hw11)
              obtain ⟨w11, hV⟩ : ∃ V, w9.alloc (.cells #[.slice a11 xs3.length c11, .slice a12 ts.length c12, .int .i64 r] 25) = V := ⟨_, rfl⟩
              obtain ⟨G3, hG⟩ : ∃ V, w9.heap.size = V := ⟨_, rfl⟩
              rw [hV] at HR HT HA H2 X0 R2 HB q0 ⊢
              rw [hG] at q0 ⊢
              have X3 := mkHid q0
              clear hV hG q0 hw11
              have k0 := X0.out.lt
              obtain ⟨j00, j01, j02⟩ := X0.out
              have k3 := X3.out.lt
              obtain ⟨j30, j31, j32⟩ := X3.out
              go_wp2_with fail
              clear j00 j01 j02 j30 j31 j32 k0 k3
              go_ret
              exact ⟨ret_bool rfl, HB.out⟩
          · skip
            obtain ⟨k, hk⟩ : ∃ k : Nat, tm.hd.n = k := ⟨tm.hd.n.toNat, by omega⟩
            have hkl : k < ps.length := by omega
            obtain ⟨b9, off9, e9, hb9, hel9⟩ := R2.out.cases.resolve_left (fun e => by simp [e] at hkl)
            obtain ⟨y0, y1, y2⟩ := int_at hel9 (Below.refl _ _) hkl
            have hg : ps.getD tm.hd.n.toNat (-1) = ps[k] := by rw [hk, List.getD_eq_getElem?_getD]; simp [hkl]
            by_cases hpg : 0 ≤ ps[k]
            · skip
              have HMM : Hid ((manyN ps tm : Int) = 0) := by rw [Hid, hM.out, if_neg k3, if_pos ⟨k1, hin, by rw [hg]; exact hpg⟩]; rfl
              subst e9
              obtain ⟨z0, z1, z2, zf⟩ := cel_at HEL.out (Below.refl _ _) hpos
              rw [hd0] at z0 z1 z2 zf
              simp only [Nat.zero_mul, Nat.add_zero] at z0 z1 z2
              have zn1 := zf.n1
              have zn2 := zf.n2
              rw [hk] at z2 zn1 zn2 hin v0
              have HV9 := mkHid v0
              clear zf hel9 HEL hg hk v0 HV1
              generalize ps[k] = p at *
              have k0 := X0.out.lt
              obtain ⟨j00, j01, j02⟩ := X0.out
              go_wp2_with fail
              clear j00 j01 j02 k0
              refine (hput_any a cap a' cap' r _ cc _ c2 _ l ts ps tm HR.out HT.out H2.out R2.out HOK.out h200 (by omega) (by omega) (by omega) (HFO.out.known _)).mono ?_
              rintro e w12 ⟨xs3, pl, at3, er, a11, c11, a12, c12, a13, c13, rfl, hP, r11, s11, _, hw12⟩
              have HPR := mkHid (pout_room hP HOK.out HFO.out)
              clear hP
              rw [HMM.out] at HPR
              simp only [Int.add_zero] at HPR
              have h11 := r11.row.max
              have h12 := r11.row.le
              replace HR := mkHid (HR.out.below hw12)
              replace HT := mkHid (HT.out.below hw12)
              replace HA := mkHid (HA.out.below hw12)
              replace H2 := mkHid (H2.out.below hw12)
              replace X0 := mkHid (X0.out.below hw12)
              replace R2 := mkHid (R2.out.below hw12)
              replace HB := mkHid (HB.out.then hw12)
              clear hw12
              clear r11 s11
              rcases HPR.out with ⟨rfl, hno⟩ | ⟨rfl, hyes, hlen⟩
              · skip
                have hdn : decide ((l.length : Int) ≤ r) = false := decide_eq_false hno
                have k0 := X0.out.lt
                obtain ⟨j00, j01, j02⟩ := X0.out
                go_wp2_with fail
                clear j00 j01 j02 k0
                have q0 := C38.new w12 (.slice a11 xs3.length c11) (.slice a12 ts.length c12) (.int .i64 r) 25
                have hw13 := (Below.refl w12.heap.size w12).new (.cells #[.slice a11 xs3.length c11, .slice a12 ts.length c12, .int .i64 r] 25)
                replace HR := mkHid (HR.out.below hw13)
                replace HT := mkHid (HT.out.below hw13)
                replace HA := mkHid (HA.out.below hw13)
                replace H2 := mkHid (H2.out.below hw13)
                replace X0 := mkHid (X0.out.below hw13)
                replace R2 := mkHid (R2.out.below hw13)
                replace HB := mkHid (HB.out.then hw13)
                obtain ⟨w13, hV⟩ : ∃ V, w12.alloc (.cells #[.slice a11 xs3.length c11, .slice a12 ts.length c12, .int .i64 r] 25) = V := ⟨_, rfl⟩
                obtain ⟨G3, hG⟩ : ∃ V, w12.heap.size = V := ⟨_, rfl⟩
                rw [hV] at HR HT HA H2 X0 R2 HB q0 ⊢
                rw [hG] at q0 ⊢
                have X3 := mkHid q0
                clear hV hG q0 hw13
                have k0 := X0.out.lt
                obtain ⟨j00, j01, j02⟩ := X0.out
                have k3 := X3.out.lt
                obtain ⟨j30, j31, j32⟩ := X3.out
                go_wp2_with fail
                clear j00 j01 j02 j30 j31 j32 k0 k3
                go_ret
                exact ⟨ret_bool rfl, HB.out⟩
              · skip
                have hdn : decide ((l.length : Int) ≤ r) = true := decide_eq_true hyes
                have heq : ((xs3.length : Int) == (l.length : Int)) = true := by rw [hlen]; simp
                have HLEN := mkHid hlen
                clear hlen
                have k0 := X0.out.lt
                obtain ⟨j00, j01, j02⟩ := X0.out
                go_wp2_with fail
                clear j00 j01 j02 k0
                have q0 := C38.new w12 (.slice a11 xs3.length c11) (.slice a12 ts.length c12) (.int .i64 r) 25
                have hw14 := (Below.refl w12.heap.size w12).new (.cells #[.slice a11 xs3.length c11, .slice a12 ts.length c12, .int .i64 r] 25)
                replace HR := mkHid (HR.out.below hw14)
                replace HT := mkHid (HT.out.below hw14)
                replace HA := mkHid (HA.out.below hw14)
                replace H2 := mkHid (H2.out.below hw14)
                replace X0 := mkHid (X0.out.below hw14)
                replace R2 := mkHid (R2.out.below hw14)
                replace HB := mkHid (HB.out.then hw14)
                obtain ⟨w14, hV⟩ : ∃ V, w12.alloc (.cells #[.slice a11 xs3.length c11, .slice a12 ts.length c12, .int .i64 r] 25) = V := ⟨_, rfl⟩
                obtain ⟨G3, hG⟩ : ∃ V, w12.heap.size = V := ⟨_, rfl⟩
                rw [hV] at HR HT HA H2 X0 R2 HB q0 ⊢
                rw [hG] at q0 ⊢
                have X3 := mkHid q0
                clear hV hG q0 hw14
                have k0 := X0.out.lt
                obtain ⟨j00, j01, j02⟩ := X0.out
                have k3 := X3.out.lt
                obtain ⟨j30, j31, j32⟩ := X3.out
                go_wp2_with fail
                clear j00 j01 j02 j30 j31 j32 k0 k3
                go_ret
                exact ⟨ret_bool rfl, HB.out⟩
            · skip
              have HMM : Hid ((manyN ps tm : Int) = 1) := by rw [Hid, hM.out, if_neg k3, if_neg (fun h => hpg (by rw [← hg]; exact h.2.2))]; rfl
              subst e9
              obtain ⟨z0, z1, z2, zf⟩ := cel_at HEL.out (Below.refl _ _) hpos
              rw [hd0] at z0 z1 z2 zf
              simp only [Nat.zero_mul, Nat.add_zero] at z0 z1 z2
              have zn1 := zf.n1
              have zn2 := zf.n2
              rw [hk] at z2 zn1 zn2 hin v0
              have HV9 := mkHid v0
              clear zf hel9 HEL hg hk v0 HV1
              generalize ps[k] = p at *
              have k0 := X0.out.lt
              obtain ⟨j00, j01, j02⟩ := X0.out
              go_wp2_with fail
              clear j00 j01 j02 k0
              refine (hput_any a cap a' cap' r _ cc _ c2 _ l ts ps tm HR.out HT.out H2.out R2.out HOK.out h200 (by omega) (by omega) (by omega) (HFO.out.known _)).mono ?_
              rintro e w15 ⟨xs3, pl, at3, er, a11, c11, a12, c12, a13, c13, rfl, hP, r11, s11, _, hw15⟩
              have HPR := mkHid (pout_room hP HOK.out HFO.out)
              clear hP
              rw [HMM.out] at HPR
              have h11 := r11.row.max
              have h12 := r11.row.le
              replace HR := mkHid (HR.out.below hw15)
              replace HT := mkHid (HT.out.below hw15)
              replace HA := mkHid (HA.out.below hw15)
              replace H2 := mkHid (H2.out.below hw15)
              replace X0 := mkHid (X0.out.below hw15)
              replace R2 := mkHid (R2.out.below hw15)
              replace HB := mkHid (HB.out.then hw15)
              clear hw15
              clear r11 s11
              rcases HPR.out with ⟨rfl, hno⟩ | ⟨rfl, hyes, hlen⟩
              · skip
                have hdn : decide ((l.length : Int) + 1 ≤ r) = false := decide_eq_false hno
                have k0 := X0.out.lt
                obtain ⟨j00, j01, j02⟩ := X0.out
                go_wp2_with fail
                clear j00 j01 j02 k0
                have q0 := C38.new w15 (.slice a11 xs3.length c11) (.slice a12 ts.length c12) (.int .i64 r) 25
                have hw16 := (Below.refl w15.heap.size w15).new (.cells #[.slice a11 xs3.length c11, .slice a12 ts.length c12, .int .i64 r] 25)
                replace HR := mkHid (HR.out.below hw16)
                replace HT := mkHid (HT.out.below hw16)
                replace HA := mkHid (HA.out.below hw16)
                replace H2 := mkHid (H2.out.below hw16)
                replace X0 := mkHid (X0.out.below hw16)
                replace R2 := mkHid (R2.out.below hw16)
                replace HB := mkHid (HB.out.then hw16)
                obtain ⟨w16, hV⟩ : ∃ V, w15.alloc (.cells #[.slice a11 xs3.length c11, .slice a12 ts.length c12, .int .i64 r] 25) = V := ⟨_, rfl⟩
                obtain ⟨G3, hG⟩ : ∃ V, w15.heap.size = V := ⟨_, rfl⟩
                rw [hV] at HR HT HA H2 X0 R2 HB q0 ⊢
                rw [hG] at q0 ⊢
                have X3 := mkHid q0
                clear hV hG q0 hw16
                have k0 := X0.out.lt
                obtain ⟨j00, j01, j02⟩ := X0.out
                have k3 := X3.out.lt
                obtain ⟨j30, j31, j32⟩ := X3.out
                go_wp2_with fail
                clear j00 j01 j02 j30 j31 j32 k0 k3
                go_ret
                exact ⟨ret_bool rfl, HB.out⟩
              · skip
                have hdn : decide ((l.length : Int) + 1 ≤ r) = true := decide_eq_true hyes
                have heq : ((xs3.length : Int) == (l.length : Int) + 1) = true := by rw [hlen]; simp
                have HLEN := mkHid hlen
                clear hlen
                have k0 := X0.out.lt
                obtain ⟨j00, j01, j02⟩ := X0.out
                go_wp2_with fail
                clear j00 j01 j02 k0
                have q0 := C38.new w15 (.slice a11 xs3.length c11) (.slice a12 ts.length c12) (.int .i64 r) 25
                have hw17 := (Below.refl w15.heap.size w15).new (.cells #[.slice a11 xs3.length c11, .slice a12 ts.length c12, .int .i64 r] 25)
                replace HR := mkHid (HR.out.below hw17)
                replace HT := mkHid (HT.out.below hw17)
                replace HA := mkHid (HA.out.below hw17)
                replace H2 := mkHid (H2.out.below hw17)
                replace X0 := mkHid (X0.out.below hw17)
                replace R2 := mkHid (R2.out.below hw17)
                replace HB := mkHid (HB.out.then hw17)
                obtain ⟨w17, hV⟩ : ∃ V, w15.alloc (.cells #[.slice a11 xs3.length c11, .slice a12 ts.length c12, .int .i64 r] 25) = V := ⟨_, rfl⟩
                obtain ⟨G3, hG⟩ : ∃ V, w15.heap.size = V := ⟨_, rfl⟩
                rw [hV] at HR HT HA H2 X0 R2 HB q0 ⊢
                rw [hG] at q0 ⊢
                have X3 := mkHid q0
                clear hV hG q0 hw17
                have k0 := X0.out.lt
                obtain ⟨j00, j01, j02⟩ := X0.out
                have k3 := X3.out.lt
                obtain ⟨j30, j31, j32⟩ := X3.out
                go_wp2_with fail
                clear j00 j01 j02 j30 j31 j32 k0 k3
                go_ret
                exact ⟨ret_bool rfl, HB.out⟩
      · skip
        have b3 : (tm.hd.k == 3) = true := by simp [k3]
        have HMM : Hid ((manyN ps tm : Int) = (tm.flat.length : Int) - 1 + funsL tm.flat) := by rw [Hid, hM.out, if_pos k3]; omega
        obtain ⟨z0, z1, z2, zf⟩ := cel_at HEL.out (Below.refl _ _) hpos
        rw [hd0] at z0 z1 z2 zf
        simp only [Nat.zero_mul, Nat.add_zero] at z0 z1 z2
        have zn1 := zf.n1
        have zn2 := zf.n2
        clear zf
        go_wp2_with fail
        clear z0 z1 z2
        go_loopw [9, 10] (fun v i wr => ∃ m : Nat, m ≤ tm.flat.length ∧ i = .int .i64 m ∧ v = .int .i64 ((tm.flat.length : Int) - 1 + funsL (tm.flat.take m)) ∧ wr = w5) (fun v i wr => tm.flat.length - (intOf i).toNat)
        case atStart => exact ⟨0, Nat.zero_le _, rfl, by simp [funsL], rfl⟩
        case round =>
          obtain ⟨m, hm5, rfl, rfl, rfl⟩ := hrel
          have hfm : funsL (tm.flat.take m) ≤ m := by
            have h := List.length_filter_le (fun c : Cel => c.k == 3) (tm.flat.take m)
            rw [List.length_take] at h
            unfold funsL; omega
          by_cases hlt : (m : Int) < tm.flat.length
          · have hltn : m < tm.flat.length := by omega
            obtain ⟨z0, z1, z2, zf⟩ := cel_at HEL.out (Below.refl _ _) hltn
            have HS1 : Hid (funsL (tm.flat.take (m + 1)) = funsL (tm.flat.take m) + (if tm.flat[m].k = 3 then 1 else 0)) := by
              rw [Hid, List.take_succ_eq_append_getElem hltn, funsL_append, funsL_cons]; simp [funsL]
            have zn1 := zf.k1
            have zn2 := zf.k2
            clear zf
            generalize tm.flat[m] = cm at *
            obtain ⟨ck, cs, cn⟩ := cm
            dsimp only at *
            by_cases q3 : ck = 3
            · have q3' : (ck == 3) = true := by simp [q3]
              have HS2 : Hid (funsL (tm.flat.take (m + 1)) = funsL (tm.flat.take m) + 1) := by rw [Hid, HS1.out, if_pos q3]
              generalize funsL (tm.flat.take m) = F at *
              go_wp2_with fail
              go_round
              case rel => exact ⟨m + 1, by omega, by go_num, by (rw [HS2.out]; go_num), by first | rfl | trivial⟩
              case measure => simp [intOf]; omega
            · have q3' : (ck == 3) = false := by simp [q3]
              have HS2 : Hid (funsL (tm.flat.take (m + 1)) = funsL (tm.flat.take m)) := by rw [Hid, HS1.out, if_neg q3]; rfl
              generalize funsL (tm.flat.take m) = F at *
              go_wp2_with fail
              go_round
              case rel => exact ⟨m + 1, by omega, by go_num, by (rw [HS2.out]), by first | rfl | trivial⟩
              case measure => simp [intOf]; omega
          · have hme : m = tm.flat.length := by omega
            subst hme
            rw [List.take_of_length_le (Nat.le_refl _)] at hfm ⊢
            have HFE : Hid (funsL tm.flat = funsL tm.flat) := rfl
            obtain ⟨M, hMM⟩ : ∃ M : Int, (tm.flat.length : Int) - 1 + funsL tm.flat = M := ⟨_, rfl⟩
            rw [hMM] at HMM ⊢
            have hM0 : 0 ≤ M ∧ M ≤ 400 := by omega
            clear hMM HFE hfm
            have k0 := X0.out.lt
            obtain ⟨j00, j01, j02⟩ := X0.out
            go_wp2_with fail
            clear j00 j01 j02 k0
            refine (hput_any a cap a' cap' r _ cc _ c2 _ l ts ps tm HR.out HT.out H2.out R2.out HOK.out h200 (by omega) (by omega) (by omega) (HFO.out.known _)).mono ?_
            rintro e w18 ⟨xs3, pl, at3, er, a11, c11, a12, c12, a13, c13, rfl, hP, r11, s11, _, hw18⟩
            have HPR := mkHid (pout_room hP HOK.out HFO.out)
            clear hP
            rw [HMM.out] at HPR
            have h11 := r11.row.max
            have h12 := r11.row.le
            replace HR := mkHid (HR.out.below hw18)
            replace HT := mkHid (HT.out.below hw18)
            replace HA := mkHid (HA.out.below hw18)
            replace H2 := mkHid (H2.out.below hw18)
            replace X0 := mkHid (X0.out.below hw18)
            replace R2 := mkHid (R2.out.below hw18)
            replace HB := mkHid (HB.out.then hw18)
            clear hw18
            clear r11 s11
            rcases HPR.out with ⟨rfl, hno⟩ | ⟨rfl, hyes, hlen⟩
            · skip
              have hdn : decide ((l.length : Int) + M ≤ r) = false := decide_eq_false hno
              have k0 := X0.out.lt
              obtain ⟨j00, j01, j02⟩ := X0.out
              go_wp2_with fail
              clear j00 j01 j02 k0
              have q0 := C38.new w18 (.slice a11 xs3.length c11) (.slice a12 ts.length c12) (.int .i64 r) 25
              have hw19 := (Below.refl w18.heap.size w18).new (.cells #[.slice a11 xs3.length c11, .slice a12 ts.length c12, .int .i64 r] 25)
              replace HR := mkHid (HR.out.below hw19)
              replace HT := mkHid (HT.out.below hw19)
              replace HA := mkHid (HA.out.below hw19)
              replace H2 := mkHid (H2.out.below hw19)
              replace X0 := mkHid (X0.out.below hw19)
              replace R2 := mkHid (R2.out.below hw19)
              replace HB := mkHid (HB.out.then hw19)
              obtain ⟨w19, hV⟩ : ∃ V, w18.alloc (.cells #[.slice a11 xs3.length c11, .slice a12 ts.length c12, .int .i64 r] 25) = V := ⟨_, rfl⟩
              obtain ⟨G3, hG⟩ : ∃ V, w18.heap.size = V := ⟨_, rfl⟩
              rw [hV] at HR HT HA H2 X0 R2 HB q0 ⊢
              rw [hG] at q0 ⊢
              have X3 := mkHid q0
              clear hV hG q0 hw19
              have k0 := X0.out.lt
              obtain ⟨j00, j01, j02⟩ := X0.out
              have k3 := X3.out.lt
              obtain ⟨j30, j31, j32⟩ := X3.out
              go_wp2_with fail
              clear j00 j01 j02 j30 j31 j32 k0 k3
              go_ret
              exact ⟨ret_bool rfl, HB.out⟩
            · skip
              have hdn : decide ((l.length : Int) + M ≤ r) = true := decide_eq_true hyes
              have heq : ((xs3.length : Int) == (l.length : Int) + M) = true := by rw [hlen]; simp
              have HLEN := mkHid hlen
              clear hlen
              have k0 := X0.out.lt
              obtain ⟨j00, j01, j02⟩ := X0.out
              go_wp2_with fail
              clear j00 j01 j02 k0
              have q0 := C38.new w18 (.slice a11 xs3.length c11) (.slice a12 ts.length c12) (.int .i64 r) 25
              have hw20 := (Below.refl w18.heap.size w18).new (.cells #[.slice a11 xs3.length c11, .slice a12 ts.length c12, .int .i64 r] 25)
              replace HR := mkHid (HR.out.below hw20)
              replace HT := mkHid (HT.out.below hw20)
              replace HA := mkHid (HA.out.below hw20)
              replace H2 := mkHid (H2.out.below hw20)
              replace X0 := mkHid (X0.out.below hw20)
              replace R2 := mkHid (R2.out.below hw20)
              replace HB := mkHid (HB.out.then hw20)
              obtain ⟨w20, hV⟩ : ∃ V, w18.alloc (.cells #[.slice a11 xs3.length c11, .slice a12 ts.length c12, .int .i64 r] 25) = V := ⟨_, rfl⟩
              obtain ⟨G3, hG⟩ : ∃ V, w18.heap.size = V := ⟨_, rfl⟩
              rw [hV] at HR HT HA H2 X0 R2 HB q0 ⊢
              rw [hG] at q0 ⊢
              have X3 := mkHid q0
              clear hV hG q0 hw20
              have k0 := X0.out.lt
              obtain ⟨j00, j01, j02⟩ := X0.out
              have k3 := X3.out.lt
              obtain ⟨j30, j31, j32⟩ := X3.out
              go_wp2_with fail
              clear j00 j01 j02 j30 j31 j32 k0 k3
              go_ret
              exact ⟨ret_bool rfl, HB.out⟩
end Go.Proofs.Ytefnmjoapmnkbaa
namespace Go.Proofs.Ytefnmjoapmnkbaa
open Go.RowKit Go.ChangeShapes Go.WideShapes Go.ChangeAt
open Go.ChangeMaps (open_string)

set_option maxRecDepth 100000 in
set_option maxHeartbeats 1000000 in
theorem HeapRoom_lifted (os : Os) (started : os.Started) (H : Type) (enc : TypeId × Value → H) :
    ReturnsInHanded {} Try.checked os 5 .any (Rows.heapRoomSpec.pre6 enc Try.prog Try.f5 Rows.heapRoomRow.domain false) (Rows.heapRoomSpec.post enc Try.prog Try.f5 false true false false) := by
  refine returnsInHanded_of_change (C := Try.checked) Try.own started (by kernel_rfl) Try.func5
    (ChangeSpec.witness6 (enc := enc) (C := Try.checked) false ⟨#[], #[.agg #[.slice none 0 0, .slice none 0 0, .int .i64 0], .slice none 0 0, .slice none 0 0], []⟩ 8 (by kernel_rfl) (by kernel_rfl) (by kernel_rfl) (by kernel_rfl)) ?_
  intro W base args ds gs before hval0 hW hcnd _
  have hval : ∀ (j : Nat) t v, Try.f5.params[j]? = some t → args[j]? = some v → Value.okWide Try.prog W .any base t v := hval0
  have hW' := hW
  obtain ⟨p, q, hA0, hV, rfl, hfz, hnd⟩ := hW
  have hA : DataW.TrodAll enc Try.prog W 0 (fun _ => true) true Try.f5.params.toList args.toList ds p := hA0
  rw [Try.params5] at hA hval
  obtain ⟨v0, vs0, d0, ds0, p0, q0, hargs, rfl, rfl, h0, r0⟩ := trodAll_cons hA
  obtain ⟨v1, vs1, d1, ds1, p1, q1, rfl, rfl, rfl, h1, r1⟩ := trodAll_cons r0
  obtain ⟨v2, vs2, d2, ds2, p2, q2, rfl, rfl, rfl, h2, r2⟩ := trodAll_cons r1
  obtain ⟨rfl, rfl, rfl⟩ := trodAll_nil r2
  obtain rfl : args = #[v0, v1, v2] := by cases args; simp_all
  obtain ⟨rfl, rfl⟩ := trodVars_none hV
  have k0 := h0
  have lt0 : ∀ x ∈ p0, x.block < W.heap.size := by obtain ⟨m, hm⟩ := k0; exact DataW.trod_lt m _ _ _ hm
  obtain ⟨l0, ts0, r00, a0, b0, e0, c0, rfl, hr0, ht0⟩ : ∃ (l : List Cel) (ts : List Int) (r : Int) (a : Option Addr) (b : Nat) (e : Option Addr) (c : Nat), v0 = .agg #[.slice a l.length b, .slice e ts.length c, .int .i64 r] ∧ Row W a b l ∧ Row W e c ts := by
    obtain ⟨⟨l⟩, rfl⟩ := agg_heap (hval 0 25 v0 rfl rfl)
    obtain ⟨fuel, hf⟩ := h0
    obtain ⟨xs, us, r, a, b, e, c, hc, g0, g1⟩ := open_heap8 hf
    have hc' : l = [.slice a xs.length b, .slice e us.length c, .int .i64 r] := hc
    exact ⟨xs, us, r, a, b, e, c, by rw [hc'], g0, g1⟩
  have k1 := h1
  have lt1 : ∀ x ∈ p1, x.block < W.heap.size := by obtain ⟨m, hm⟩ := k1; exact DataW.trod_lt m _ _ _ hm
  obtain ⟨a1, len1, cap1, rfl⟩ := okWide_slice Try.underlying23 (hval 1 23 v1 rfl rfl)
  obtain ⟨xs1, rfl, hr1⟩ : ∃ xs : List Int, xs.length = len1 ∧ Row W a1 cap1 xs := by
    obtain ⟨fuel, hf⟩ := h1
    exact open_ints8 hf
  have k2 := h2
  have lt2 : ∀ x ∈ p2, x.block < W.heap.size := by obtain ⟨m, hm⟩ := k2; exact DataW.trod_lt m _ _ _ hm
  obtain ⟨a2, len2, cap2, rfl⟩ := okWide_slice Try.underlying26 (hval 2 26 v2 rfl rfl)
  obtain ⟨xs2, rfl, hr2⟩ : ∃ xs : List Cel, xs.length = len2 ∧ Row W a2 cap2 xs := by
    obtain ⟨fuel, hf⟩ := h2
    exact open_cells hf
  clear hA0 hval0
  refine (lawRoom_any head8_any a0 b0 e0 c0 r00 a1 cap1 a2 cap2 W l0 ts0 xs1 xs2 hr0 ht0 hr1 hr2).mono fun e W' ⟨he, bel⟩ => ?_
  subst he
  exact ⟨_, rfl, _, _, _, [], _, [], hW', trodAll_mk1 (shut_bool Try.underlying4 _), (trodAll_cons_mk (Below.trod Try.laidOut (by kernel_rfl) (of_decide_eq_true (by kernel_rfl)) k0 bel lt0) (trodAll_cons_mk (Below.trod Try.laidOut (by kernel_rfl) (of_decide_eq_true (by kernel_rfl)) k1 bel lt1) (trodAll_cons_mk (Below.trod Try.laidOut (by kernel_rfl) (of_decide_eq_true (by kernel_rfl)) k2 bel lt2) trodAll_mk0))), rfl, bel.frame _, fun h => by cases h⟩

theorem HeapRoom_over : Rows.heapRoomRow.holds Try.pinned (OpenSpec.ofChange Rows.heapRoomSpec) :=
  OpenClaim.holds_of_wide 5 Try.f5 rfl rfl rfl rfl rfl rfl rfl ⟨rfl, rfl, rfl, rfl, rfl⟩ rfl rfl rfl rfl rfl (by kernel_rfl) Try.func5 (by kernel_rfl)
    (of_decide_eq_true (by kernel_rfl)) (by unfold Func.isWrapper; first | (rw [if_pos (by decide +kernel)]; kernel_rfl) | (rw [if_neg (by decide +kernel)]; exact ⟨rfl, rfl⟩))
    (fun os started H enc _ => HeapRoom_lifted os started H enc)

theorem HeapRoom_holds : Rows.HeapRoomSaid := HeapRoom_over
end Go.Proofs.Ytefnmjoapmnkbaa
