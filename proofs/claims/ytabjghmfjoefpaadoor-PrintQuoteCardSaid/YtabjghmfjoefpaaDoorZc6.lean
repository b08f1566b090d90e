/-
  Of layer 6 of sorrel: whatever arguments come in, the law PrintQuote returns true, and they read as they did: a name's letters are one token with just that name, a variable's are one token, and no two variables have the same. The table of powers of ten that the library keeps holds what the program's text lays in it; the card ties that to the text. No other condition.
-/
import Derived.Test.YtabjghmfjoefpaaDoorZq1
set_option linter.unusedVariables false
namespace Go.Proofs.YtabjghmfjoefpaaDoor
open Go.RowKit
open Md
theorem tx_eq6 (a b : List UInt8) : ((tx a).toList == (tx b).toList) = decide (a = b) := by
  rw [Bool.eq_iff_iff]
  simp [ByteArray.toList_eq, tx]
namespace Tx
theorem tw_all {p : UInt8 → Bool} {l : List UInt8} (h : ∀ c ∈ l, p c = true) : l.takeWhile p = l := by
  induction l with
  | nil => rfl
  | cons c l ih => rw [List.takeWhile_cons_of_pos (h c List.mem_cons_self), ih fun d hd => h d (List.mem_cons_of_mem _ hd)]
theorem tw_stop {p : UInt8 → Bool} {l : List UInt8} {d : UInt8} (h : ∀ c ∈ l, p c = true) (hd : p d = false) : (l ++ [d]).takeWhile p = l := by
  induction l with
  | nil => simp [hd]
  | cons c l ih => rw [List.cons_append, List.takeWhile_cons_of_pos (h c List.mem_cons_self), ih fun d hd => h d (List.mem_cons_of_mem _ hd)]
/-- a text that is one token -/
theorem lex_one {c : UInt8} {r : List UInt8} {k : Int} {t : List UInt8} {n : Int} (hb : blankB c = false) (h37 : (c == 37) = false) (h : tokL (c :: r) = .tok k t n (c :: r).length) (hl : (c :: r).length ≤ 20000) : lexL (c :: r) = .ok [⟨k, tx t, n, 0⟩] := by
  unfold lexL
  rw [if_neg (by omega)]
  unfold lexW
  rw [List.length_cons]
  unfold lexS
  rw [hb, h37, h]
  simp [conR, lexS]
  rfl
theorem cap_facts : ∀ c : UInt8, capB c = true → smallB c = false ∧ greatB c = true ∧ blankB c = false ∧ (c == 37) = false ∧ letterB c = true := by
  intro c hc
  have h : ∀ c : UInt8, (!capB c || (!smallB c && greatB c && !blankB c && !(c == 37) && letterB c)) = true := all_u8 (p := fun c => !capB c || (!smallB c && greatB c && !blankB c && !(c == 37) && letterB c)) (by decide +kernel)
  have := h c
  rw [hc] at this
  simpa [and_assoc] using this
theorem small_facts : ∀ c : UInt8, smallB c = true → blankB c = false ∧ (c == 37) = false := by
  intro c hc
  have h : ∀ c : UInt8, (!smallB c || (!blankB c && !(c == 37))) = true := all_u8 (p := fun c => !smallB c || (!blankB c && !(c == 37))) (by decide +kernel)
  have := h c
  rw [hc] at this
  simpa using this
theorem ok_notQ : ∀ c : UInt8, okByte c = true → notQ c = true ∧ seenB c = true := by
  intro c hc
  have h : ∀ c : UInt8, (!okByte c || (notQ c && seenB c)) = true := all_u8 (p := fun c => !okByte c || (notQ c && seenB c)) (by decide +kernel)
  have := h c
  rw [hc] at this
  simpa using this
theorem lex_name {s : List UInt8} (h : ∀ c ∈ s, okByte c = true) (h1 : 1 ≤ s.length) (h2 : s.length ≤ 12) : lexL (nameL s) = .ok [⟨1, tx s, 0, 0⟩] := by
  unfold nameL
  split
  · next hb =>
    obtain ⟨c, r, rfl, hc⟩ := bare_head hb
    obtain ⟨f1, f2⟩ := small_facts c hc
    have ht := tw_all (bare_letters hb)
    refine lex_one f1 f2 ?_ (by omega)
    have hs : span letterB (c :: r) = (c :: r).length := by unfold span; rw [ht]
    simp only [tokL, hc, if_true, runS, hs, ht]
    rw [if_neg (by omega)]
  · next hb =>
    have hq : ∀ c ∈ s, notQ c = true := fun c hc => (ok_notQ c (h c hc)).1
    have ht := tw_stop (p := notQ) hq (d := 39) (by decide)
    have hs : span notQ (s ++ [39]) = s.length := by unfold span; rw [ht]
    have hqb : quoB (s ++ [39]) = true := by
      unfold quoB
      rw [hs, ht]
      simp only [List.length_append, List.length_singleton, Bool.and_eq_true, decide_eq_true_eq]
      exact ⟨⟨⟨by omega, h1⟩, h2⟩, List.all_eq_true.2 fun c hc => (ok_notQ c (h c hc)).2⟩
    show lexL (39 :: (s ++ [39])) = _
    refine lex_one (by decide) (by decide) ?_ (by simp; omega)
    have e : tokL (39 :: (s ++ [39])) = quoS (s ++ [39]) := rfl
    rw [e, quoS, if_pos hqb, ht, hs]
    simp
theorem lex_var {n : Nat} (h : n ≤ 1000) : lexL (varL n) = .ok [⟨2, tx (varL n), 0, 0⟩] := by
  have hlen := varL_len h
  have hb : ∀ m, m < 26 → capB (UInt8.ofNat (65 + m)) = true := fun m hm =>
    (by decide : ∀ i : Fin 26, capB (UInt8.ofNat (65 + i.val)) = true) ⟨m, hm⟩
  have hc := hb (n % 26) (Nat.mod_lt _ (by omega))
  have hd : ∀ c ∈ (if n < 26 then [] else Lib.decDigits (n / 26)), letterB c = true := fun c hc => by
    split at hc
    · cases hc
    · exact digit_letter (dec_all _ c hc)
  unfold varL at hlen ⊢
  generalize (if n < 26 then [] else Lib.decDigits (n / 26)) = r at hd hlen ⊢
  generalize UInt8.ofNat (65 + n % 26) = c at hc hlen ⊢
  obtain ⟨f1, f2, f3, f4, f5⟩ := cap_facts c hc
  have hall : ∀ d ∈ c :: r, letterB d = true := fun d hdm => by
    rcases List.mem_cons.1 hdm with rfl | q
    · exact f5
    · exact hd d q
  have ht := tw_all hall
  have hs : span letterB (c :: r) = (c :: r).length := by unfold span; rw [ht]
  refine lex_one f3 f4 ?_ (Nat.le_trans hlen (by omega))
  have hl2 : ¬ 20000 < (c :: r).length := Nat.not_lt.2 (Nat.le_trans hlen (by omega))
  simp only [tokL, f1, f2, if_true, runS, hs, ht]
  rw [if_neg hl2]
  rfl
end Tx
set_option maxRecDepth 100000 in
set_option maxHeartbeats 32000000 in
theorem lawPQuote_any (w : World) (hp : Pow w) (xn : ByteArray) (n : Nat) (hn : n < 65536) (m : Nat) (hm : m < 65536) :
    Calls Tryd.prog 6 #[.agg #[.string xn, .int .u16 (n : Int)], .int .u16 (m : Int)] w fun e w' => e = .returned (.bool true) ∧ Below w.heap.size w w' := by
  have HP := mkHid hp
  have hbx : Below w.heap.size w (w.alloc (.cells #[.string xn, .int .u16 (n : Int)] 26)) := (Below.refl _ _).new _
  have x0 : (w.alloc (.cells #[.string xn, .int .u16 (n : Int)] 26)).cell? ⟨w.heap.size, 0, none⟩ = some (.string xn) := World.cell?_alloc_at _ _ _ 0 rfl
  have x1 : (w.alloc (.cells #[.string xn, .int .u16 (n : Int)] 26)).cell? ⟨w.heap.size, 1, none⟩ = some (.int .u16 (n : Int)) := World.cell?_alloc_at _ _ _ 1 rfl
  clear hp
  go_enter Tryd.func6, Tryd.ntmps6
  go_wp2_with fail
  refine (head6_any _ (Hp.pow_then HP.out hbx)).mono ?_
  generalize w.alloc (.cells #[.string xn, .int .u16 (n : Int)] 26) = w0 at *
  rintro e w1 ⟨rfl, hb1⟩
  have x2 := keep x0 hb1
  have HX1 := mkHid (keep x1 hb1)
  have HB1 := mkHid (hbx.then hb1)
  clear hbx hb1 x0 x1
  go_wp2_with fail
  refine (rName_any xn w1).mono ?_
  rintro e w2 ⟨rfl, hb2⟩
  obtain ⟨nm, hnm⟩ : ∃ nm, nm = nameMade xn.data.toList := ⟨_, rfl⟩
  have hnl : 1 ≤ nm.length ∧ nm.length ≤ 12 := by rw [hnm]; exact nameMade_len _
  have hno : nameOk (tx nm) = true := by rw [hnm]; exact nameMade_ok _
  have hok : ∀ c ∈ nm, okByte c = true := by
    unfold nameOk at hno
    simp only [Bool.and_eq_true] at hno
    exact fun c hc => List.all_eq_true.1 hno.1.1 c (by simpa [tx] using hc)
  rw [← hnm]
  have hlx := Tx.lex_name hok hnl.1 hnl.2
  have hql := nameL_len nm
  have HB2 := mkHid (HB1.out.then hb2)
  have HX2 := mkHid (keep HX1.out hb2)
  have hqt := quote_any (tx nm) w2 (by rw [tx_size]; omega)
  obtain ⟨q1, hq1⟩ : ∃ q, q = (⟨(nameL (tx nm).data.toList).toArray⟩ : ByteArray) := ⟨_, rfl⟩
  rw [← hq1] at hqt
  have HQT := mkHid hqt
  have hq1' : q1 = tx (nameL nm) := by rw [hq1, show (tx nm).data.toList = nm from by simp [tx]]; rfl
  have HLX : Hid (lexL q1.data.toList = .ok [⟨1, tx nm, 0, 0⟩]) := by
    rw [Hid, hq1', show (tx (nameL nm)).data.toList = nameL nm from by simp [tx]]; exact hlx
  have hqs : q1.size ≤ 20 := by rw [hq1', tx_size]; omega
  clear hnm hno hok hnl hlx hb2 x2 hql hqt hq1 hq1'
  generalize tx nm = nb at *
  go_wp2_with fail
  refine HQT.out.mono ?_
  clear HQT
  rintro e w3 ⟨rfl, hb3⟩
  have HB3 := mkHid (HB2.out.then hb3)
  have HX3 := mkHid (keep HX2.out hb3)
  have hlq := rLex_any q1 w3 (by omega)
  rw [HLX.out] at hlq
  have HLQ := mkHid hlq
  clear hlq hb3
  go_wp2_with fail
  refine HLQ.out.mono ?_
  clear HLQ
  rintro e w4 ⟨⟨ga, gc, rfl, hrg⟩, hb4⟩
  have x4 := keep HX3.out hb4
  have HB4 := mkHid (HB3.out.then hb4)
  have HRG := mkHid hrg
  have hq : (n : Int) % 1000 = ((n % 1000 : Nat) : Int) := by omega
  have hqm : (m : Int) % 1000 = ((m % 1000 : Nat) : Int) := by omega
  have HQN := mkHid hq
  have HQM := mkHid hqm
  have hnk : n % 1000 ≤ 1000 := by omega
  have hmk : m % 1000 ≤ 1000 := by omega
  obtain ⟨i, hi⟩ : ∃ i, i = n % 1000 := ⟨_, rfl⟩
  obtain ⟨j, hj⟩ : ∃ j, j = m % 1000 := ⟨_, rfl⟩
  have hi1 : i ≤ 999 := by omega
  have hj1 : j ≤ 999 := by omega
  rw [← hi] at HQN
  rw [← hj] at HQM
  clear hrg hb4 hq hqm hnk hmk hi hj
  go_wp2_with fail
  try rw [HQN.out]
  try rw [HQM.out]
  have HVA := mkHid (varName_any i w4 (by omega) (Hp.pow_then HP.out HB4.out))
  refine HVA.out.mono ?_
  clear HVA
  rintro e w5 ⟨rfl, hb5⟩
  obtain ⟨s2, hs2⟩ : ∃ s, s = tx (varL i) := ⟨_, rfl⟩
  rw [show (⟨(varL i).toArray⟩ : ByteArray) = s2 from hs2.symm]
  have hvl := varL_len (n := i) (by omega)
  have hlv : lexL s2.data.toList = .ok [⟨2, s2, 0, 0⟩] := by
    rw [hs2, show (tx (varL i)).data.toList = varL i from by simp [tx]]; exact Tx.lex_var (by omega)
  have hsz2 : s2.size ≤ 1000 := by rw [hs2, tx_size]; omega
  have hlq := rLex_any s2 w5 (by omega)
  rw [hlv] at hlq
  have HLQ := mkHid hlq
  have HS2 := mkHid hs2
  have HB5x := mkHid (HB4.out.then hb5)
  have HRG5 := mkHid (HRG.out.below hb5)
  clear hlq hlv hs2 hvl hb5 x4
  go_wp2_with fail
  refine HLQ.out.mono ?_
  clear HLQ
  rintro e w6 ⟨⟨va, vc, rfl, hrv⟩, hb6⟩
  have hrg := HRG5.out.below hb6
  obtain ⟨ob, oo, rfl, _⟩ := hrg.cases.resolve_left (fun e => by simp at e)
  obtain ⟨gb, go, rfl, _⟩ := hrv.cases.resolve_left (fun e => by simp at e)
  have k1 : TokAt w6 ob (oo + 0 * 4) ⟨1, nb, 0, 0⟩ := hrg.tok (Below.refl _ _) (i := 0) rfl
  have k2 : TokAt w6 gb (go + 0 * 4) ⟨2, s2, 0, 0⟩ := hrv.tok (Below.refl _ _) (i := 0) rfl
  rw [Nat.zero_mul, Nat.add_zero] at k1 k2
  have c0 : w6.cell? ⟨ob, oo, none⟩ = some (.int .i64 1) := k1.c0
  have c1 : w6.cell? ⟨ob, oo + 1, none⟩ = some (.string nb) := k1.c1
  have d0 : w6.cell? ⟨gb, go, none⟩ = some (.int .i64 2) := k2.c0
  have d1 : w6.cell? ⟨gb, go + 1, none⟩ = some (.string s2) := k2.c1
  have HB5 := mkHid (HB5x.out.then hb6)
  have hcd := (Below.refl w6.heap.size w6).drew
  have HSQ : Hid (∀ W', Below w6.heap.size w6 W' → (fun w' : World => w'.cell? ⟨gb, go, none⟩ = some (.int .i64 2) ∧ w'.cell? ⟨gb, go + 1, none⟩ = some (.string s2)) W') := fun W' h => ⟨keep d0 h, keep d1 h⟩
  obtain ⟨s3, hs3⟩ : ∃ s, s = tx (varL j) := ⟨_, rfl⟩
  have HV1 : Hid (∀ W, Below w6.heap.size w6 W → Calls Tryd.prog 22 #[.int .i64 (i : Int)] W fun e w' => e = .returned (.string s2) ∧ Below W.heap.size W w') := fun W h => by
    rw [HS2.out]; exact varName_any i W (by omega) (Hp.pow_then HP.out (HB5.out.then h))
  have HV2 : Hid (∀ W, Below w6.heap.size w6 W → Calls Tryd.prog 22 #[.int .i64 (j : Int)] W fun e w' => e = .returned (.string s3) ∧ Below W.heap.size W w') := fun W h => by
    rw [hs3]; exact varName_any j W (by omega) (Hp.pow_then HP.out (HB5.out.then h))
  obtain ⟨q, hq⟩ : ∃ q, ((i : Int) == (j : Int)) = q := ⟨_, rfl⟩
  have hq2 : (s2.toList == s3.toList) = q := by
    by_cases hij : i = j
    · rw [← hq, HS2.out, hs3, hij]; simp
    · have e1 : ((i : Int) == (j : Int)) = false := by rw [beq_eq_false_iff_ne]; omega
      rw [← hq, e1, HS2.out, hs3, tx_eq6, decide_eq_false]
      intro e
      exact hij (Tx.var_inj (r := []) (s := []) Tx.Dl.nil Tx.Dl.nil (by rw [e])).1
  clear hrg hrv k1 k2 hb6 hs3
  go_wp2_with fail
  refine wp_region_noPanic ?_
  refine wp_region_held_drew (S := (fun w' : World => w'.cell? ⟨gb, go, none⟩ = some (.int .i64 2) ∧ w'.cell? ⟨gb, go + 1, none⟩ = some (.string s2))) (by kernel_rfl) (HSQ.out _ hcd) (fun hSd => ?_)
  refine wpAnyH_take (i := 0) (oi := _) (v := ?_) rfl (by kernel_rfl) (by kernel_rfl) (by kernel_rfl) (fun _ _ _ h => h) (Or.inl ⟨by kernel_rfl, ?_⟩) (by assumption) ?_
  rotate_left
  · (intro w' hSw; (try dsimp only at hSw); go_simp; try with_reducible rfl)
  (try simp only [Act.put, List.setIfInBounds_toArray, List.set_cons_zero, List.set_cons_succ])
  refine wpAnyH_take (i := 1) (oi := _) (v := ?_) rfl (by kernel_rfl) (by kernel_rfl) (by kernel_rfl) (fun _ _ _ h => h) (Or.inl ⟨by kernel_rfl, ?_⟩) (by assumption) ?_
  rotate_left
  · (intro w' hSw; (try dsimp only at hSw); go_simp; try with_reducible rfl)
  (try simp only [Act.put, List.setIfInBounds_toArray, List.set_cons_zero, List.set_cons_succ])
  refine wpAnyH_take (i := 2) (oi := _) (v := ?_) rfl (by kernel_rfl) (by kernel_rfl) (by kernel_rfl) (fun _ _ _ h => h) (Or.inl ⟨by kernel_rfl, ?_⟩) (by assumption) ?_
  rotate_left
  · (intro w' hSw; (try dsimp only at hSw); go_simp; try with_reducible rfl)
  (try simp only [Act.put, List.setIfInBounds_toArray, List.set_cons_zero, List.set_cons_succ])
  refine wpAnyH_take (i := 3) (oi := _) (v := ?_) rfl (by kernel_rfl) (by kernel_rfl) (by kernel_rfl) (fun _ _ _ h => h) (Or.inl ⟨by kernel_rfl, ?_⟩) (by assumption) ?_
  rotate_left
  · (intro w' hSw; (try dsimp only at hSw); go_simp; try with_reducible rfl)
  (try simp only [Act.put, List.setIfInBounds_toArray, List.set_cons_zero, List.set_cons_succ])
  refine wpAnyH_take (i := 4) (oi := _) (v := ?_) rfl (by kernel_rfl) (by kernel_rfl) (by kernel_rfl) (fun _ _ _ h => h) (Or.inl ⟨by kernel_rfl, ?_⟩) (by assumption) ?_
  rotate_left
  · (intro w' hSw; (try dsimp only at hSw); go_simp; try with_reducible rfl)
  (try simp only [Act.put, List.setIfInBounds_toArray, List.set_cons_zero, List.set_cons_succ])
  refine wpAnyH_take (i := 5) (oi := _) (v := ?_) rfl (by kernel_rfl) (by kernel_rfl) (by kernel_rfl) (fun _ _ _ h => h) (Or.inl ⟨by kernel_rfl, ?_⟩) (by assumption) ?_
  rotate_left
  · (intro w' hSw; (try dsimp only at hSw); go_simp; try with_reducible rfl)
  (try simp only [Act.put, List.setIfInBounds_toArray, List.set_cons_zero, List.set_cons_succ])
  refine wpAnyH_take (i := 6) (oi := _) (v := ?_) rfl (by kernel_rfl) (by kernel_rfl) (by kernel_rfl) (fun _ _ _ h => h) (Or.inl ⟨by kernel_rfl, ?_⟩) (by assumption) ?_
  rotate_left
  · (intro w' hSw; (try dsimp only at hSw); go_simp; try with_reducible rfl)
  (try simp only [Act.put, List.setIfInBounds_toArray, List.set_cons_zero, List.set_cons_succ])
  refine wpAnyH_take (i := 7) (oi := _) (v := ?_) rfl (by kernel_rfl) (by kernel_rfl) (by kernel_rfl) (fun _ _ _ h => h) (Or.inl ⟨by kernel_rfl, ?_⟩) (by assumption) ?_
  rotate_left
  · (intro w' hSw; (try dsimp only at hSw); go_simp; try with_reducible rfl)
  (try simp only [Act.put, List.setIfInBounds_toArray, List.set_cons_zero, List.set_cons_succ])
  refine wpAnyH_take (i := 8) (oi := _) (v := ?_) rfl (by kernel_rfl) (by kernel_rfl) (by kernel_rfl) (fun _ _ _ h => h) (Or.inl ⟨by kernel_rfl, ?_⟩) (by assumption) ?_
  rotate_left
  · (intro w' hSw; (try dsimp only at hSw); go_simp; try with_reducible rfl)
  (try simp only [Act.put, List.setIfInBounds_toArray, List.set_cons_zero, List.set_cons_succ])
  refine wpAnyH_take (i := 9) (oi := _) (v := ?_) rfl (by kernel_rfl) (by kernel_rfl) (by kernel_rfl) (fun _ _ _ h => h) (Or.inl ⟨by kernel_rfl, ?_⟩) (by assumption) ?_
  rotate_left
  · (intro w' hSw; (try dsimp only at hSw); go_simp; try with_reducible rfl)
  (try simp only [Act.put, List.setIfInBounds_toArray, List.set_cons_zero, List.set_cons_succ])
  refine wpAnyH_take (i := 10) (oi := _) (v := ?_) rfl (by kernel_rfl) (by kernel_rfl) (by kernel_rfl) (fun _ _ _ h => h) (Or.inl ⟨by kernel_rfl, ?_⟩) (by assumption) ?_
  rotate_left
  · (intro w' hSw; (try dsimp only at hSw); go_simp; try with_reducible rfl)
  (try simp only [Act.put, List.setIfInBounds_toArray, List.set_cons_zero, List.set_cons_succ])
  refine wpAnyH_ready (rs := [11]) (by kernel_rfl) (by simp) ?_
  refine AllReadyH.cons (o := _) rfl (fun Kq hKq => ?_) AllReadyH.nil
  go_simp
  refine (HV1.out _ hcd).mono ?_
  rintro e V1 ⟨rfl, hq1⟩
  have hc1 := hcd.then hq1
  try dsimp only
  refine hKq.out _ _ (HSQ.out _ hc1) (fun _ => ?_)
  clear hKq Kq
  (try simp only [Act.put, List.setIfInBounds_toArray, List.set_cons_zero, List.set_cons_succ])
  refine wpAnyH_take (i := 12) (oi := _) (v := ?_) rfl (by kernel_rfl) (by kernel_rfl) (by kernel_rfl) (fun _ _ _ h => h) (Or.inl ⟨by kernel_rfl, ?_⟩) (by assumption) ?_
  rotate_left
  · (intro w' hSw; (try dsimp only at hSw); go_simp; try with_reducible rfl)
  (try simp only [Act.put, List.setIfInBounds_toArray, List.set_cons_zero, List.set_cons_succ])
  refine wpAnyH_take (i := 13) (oi := _) (v := ?_) rfl (by kernel_rfl) (by kernel_rfl) (by kernel_rfl) (fun _ _ _ h => h) (Or.inl ⟨by kernel_rfl, ?_⟩) (by assumption) ?_
  rotate_left
  · (intro w' hSw; (try dsimp only at hSw); go_simp; try with_reducible rfl)
  (try simp only [Act.put, List.setIfInBounds_toArray, List.set_cons_zero, List.set_cons_succ])
  refine wpAnyH_take (i := 14) (oi := _) (v := ?_) rfl (by kernel_rfl) (by kernel_rfl) (by kernel_rfl) (fun _ _ _ h => h) (Or.inl ⟨by kernel_rfl, ?_⟩) (by assumption) ?_
  rotate_left
  · (intro w' hSw; (try dsimp only at hSw); go_simp; try with_reducible rfl)
  (try simp only [Act.put, List.setIfInBounds_toArray, List.set_cons_zero, List.set_cons_succ])
  refine wpAnyH_take (i := 15) (oi := _) (v := ?_) rfl (by kernel_rfl) (by kernel_rfl) (by kernel_rfl) (fun _ _ _ h => h) (Or.inl ⟨by kernel_rfl, ?_⟩) (by assumption) ?_
  rotate_left
  · (intro w' hSw; (try dsimp only at hSw); go_simp; try with_reducible rfl)
  (try simp only [Act.put, List.setIfInBounds_toArray, List.set_cons_zero, List.set_cons_succ])
  refine wpAnyH_take (i := 17) (oi := _) (v := ?_) rfl (by kernel_rfl) (by kernel_rfl) (by kernel_rfl) (fun _ _ _ h => h) (Or.inl ⟨by kernel_rfl, ?_⟩) (by assumption) ?_
  rotate_left
  · (intro w' hSw; (try dsimp only at hSw); go_simp; try with_reducible rfl)
  (try simp only [Act.put, List.setIfInBounds_toArray, List.set_cons_zero, List.set_cons_succ])
  refine wpAnyH_take (i := 20) (oi := _) (v := ?_) rfl (by kernel_rfl) (by kernel_rfl) (by kernel_rfl) (fun _ _ _ h => h) (Or.inl ⟨by kernel_rfl, ?_⟩) (by assumption) ?_
  rotate_left
  · (intro w' hSw; (try dsimp only at hSw); go_simp; try with_reducible rfl)
  (try simp only [Act.put, List.setIfInBounds_toArray, List.set_cons_zero, List.set_cons_succ])
  refine wpAnyH_take (i := 21) (oi := _) (v := ?_) rfl (by kernel_rfl) (by kernel_rfl) (by kernel_rfl) (fun _ _ _ h => h) (Or.inl ⟨by kernel_rfl, ?_⟩) (by assumption) ?_
  rotate_left
  · (intro w' hSw; (try dsimp only at hSw); go_simp; try with_reducible rfl)
  (try simp only [Act.put, List.setIfInBounds_toArray, List.set_cons_zero, List.set_cons_succ])
  refine wpAnyH_take (i := 22) (oi := _) (v := ?_) rfl (by kernel_rfl) (by kernel_rfl) (by kernel_rfl) (fun _ _ _ h => h) (Or.inl ⟨by kernel_rfl, ?_⟩) (by assumption) ?_
  rotate_left
  · (intro w' hSw; (try dsimp only at hSw); go_simp; try with_reducible rfl)
  (try simp only [Act.put, List.setIfInBounds_toArray, List.set_cons_zero, List.set_cons_succ])
  refine wpAnyH_ready (rs := [16]) (by kernel_rfl) (by simp) ?_
  refine AllReadyH.cons (o := _) rfl (fun Kq hKq => ?_) AllReadyH.nil
  go_simp
  refine (HV1.out _ hc1).mono ?_
  rintro e V2 ⟨rfl, hq2⟩
  have hc2 := hc1.then hq2
  try dsimp only
  refine hKq.out _ _ (HSQ.out _ hc2) (fun _ => ?_)
  clear hKq Kq
  (try simp only [Act.put, List.setIfInBounds_toArray, List.set_cons_zero, List.set_cons_succ])
  refine wpAnyH_ready (rs := [18]) (by kernel_rfl) (by simp) ?_
  refine AllReadyH.cons (o := _) rfl (fun Kq hKq => ?_) AllReadyH.nil
  go_simp
  refine (HV2.out _ hc2).mono ?_
  rintro e V3 ⟨rfl, hq3⟩
  have hc3 := hc2.then hq3
  try dsimp only
  refine hKq.out _ _ (HSQ.out _ hc3) (fun _ => ?_)
  clear hKq Kq
  (try simp only [Act.put, List.setIfInBounds_toArray, List.set_cons_zero, List.set_cons_succ])
  refine wpAnyH_take (i := 19) (oi := _) (v := ?_) rfl (by kernel_rfl) (by kernel_rfl) (by kernel_rfl) (fun _ _ _ h => h) (Or.inl ⟨by kernel_rfl, ?_⟩) (by assumption) ?_
  rotate_left
  · (intro w' hSw; (try dsimp only at hSw); go_simp; try with_reducible rfl)
  (try simp only [Act.put, List.setIfInBounds_toArray, List.set_cons_zero, List.set_cons_succ])
  refine wpAnyH_take (i := 23) (oi := _) (v := ?_) rfl (by kernel_rfl) (by kernel_rfl) (by kernel_rfl) (fun _ _ _ h => h) (Or.inl ⟨by kernel_rfl, ?_⟩) (by assumption) ?_
  rotate_left
  · (intro w' hSw; (try dsimp only at hSw); go_simp; try with_reducible rfl)
  (try simp only [Act.put, List.setIfInBounds_toArray, List.set_cons_zero, List.set_cons_succ])
  refine wpAnyH_take (i := 24) (oi := _) (v := ?_) rfl (by kernel_rfl) (by kernel_rfl) (by kernel_rfl) (fun _ _ _ h => h) (Or.inl ⟨by kernel_rfl, ?_⟩) (by assumption) ?_
  rotate_left
  · (intro w' hSw; (try dsimp only at hSw); go_simp; try with_reducible rfl)
  (try simp only [Act.put, List.setIfInBounds_toArray, List.set_cons_zero, List.set_cons_succ])
  refine wpAnyH_take (i := 25) (oi := _) (v := ?_) rfl (by kernel_rfl) (by kernel_rfl) (by kernel_rfl) (fun _ _ _ h => h) (Or.inl ⟨by kernel_rfl, ?_⟩) (by assumption) ?_
  rotate_left
  · (intro w' hSw; (try dsimp only at hSw); go_simp; try with_reducible rfl)
  (try simp only [Act.put, List.setIfInBounds_toArray, List.set_cons_zero, List.set_cons_succ])
  refine wpAnyH_take (i := 26) (oi := _) (v := ?_) rfl (by kernel_rfl) (by kernel_rfl) (by kernel_rfl) (fun _ _ _ h => h) (Or.inl ⟨by kernel_rfl, ?_⟩) (by assumption) ?_
  rotate_left
  · (intro w' hSw; (try dsimp only at hSw); go_simp; try with_reducible rfl)
  (try simp only [Act.put, List.setIfInBounds_toArray, List.set_cons_zero, List.set_cons_succ])
  refine wpAnyH_take (i := 27) (oi := _) (v := ?_) rfl (by kernel_rfl) (by kernel_rfl) (by kernel_rfl) (fun _ _ _ h => h) (Or.inl ⟨by kernel_rfl, ?_⟩) (by assumption) ?_
  rotate_left
  · (intro w' hSw; (try dsimp only at hSw); go_simp; try with_reducible rfl)
  (try simp only [Act.put, List.setIfInBounds_toArray, List.set_cons_zero, List.set_cons_succ])
  refine wpAnyH_ready (rs := [28]) (by kernel_rfl) (by simp) ?_
  refine AllReadyH.cons (o := _) rfl (fun Kq hKq => ?_) AllReadyH.nil
  go_simp
  try dsimp only
  refine hKq.out _ _ (HSQ.out _ hc3) (fun _ => ?_)
  clear hKq Kq
  (try simp only [Act.put, List.setIfInBounds_toArray, List.set_cons_zero, List.set_cons_succ])
  refine wpAnyH_done (by kernel_rfl) (NoPanic.normal ?_) _
  have HB9 := mkHid hc3
  clear hc1 hc2 hc3 hq1 hq2 hq3 hcd hSd
  go_wp2_with fail
  go_ret
  exact ⟨rfl, HB5.out.then HB9.out⟩
end Go.Proofs.YtabjghmfjoefpaaDoor
namespace Go.Proofs.YtabjghmfjoefpaaDoor
open Go.RowKit Go.ChangeShapes Go.WideShapes Go.ChangeAt
open Go.ChangeMaps (open_string shut_string)

set_option maxRecDepth 100000 in
set_option maxHeartbeats 1000000 in
theorem PrintQuote_lifted (os : Os) (started : os.Started) (H : Type) (enc : TypeId × Value → H) :
    ReturnsInHanded {} Tryd.checked os 6 .any (fun w args => (Rows.printQuoteSpec.pre enc Tryd.prog Tryd.f6 [] false w args ∧ laidMetH Tryd.prog laidL w) ∧ sizedMet enc Tryd.prog Tryd.f6 (OpenSpec.ofChange Rows.printQuoteSpec) false w args) (Rows.printQuoteSpec.post enc Tryd.prog Tryd.f6 false true false false) := by
  refine returnsInHanded_of_row (C := Tryd.checked) (s := OpenSpec.ofChange Rows.printQuoteSpec) (F := fun _ _ _ => 0) (conds := []) (laid := laidL) Tryd.own started (by kernel_rfl) Tryd.func6
    (ChangeSpec.witness_shaped (enc := enc) (C := Tryd.checked) (os := os) (X := fun w _ => laidMetH Tryd.prog laidL w) false (World.doorLaid Tryd.prog 4000 os) #[.agg #[.string ⟨#[]⟩, .int .u16 0], .int .u16 0] 8 rfl (World.shaped_of_RefB (by kernel_rfl) (by kernel_rfl)) (by kernel_rfl) (by kernel_rfl) (by kernel_rfl) (door_met os _)) ?_
  intro W base args ds gs before hval0 hW _ _ hsz0 hL hsh _
  clear hsz0
  have hval : ∀ (j : Nat) t v, Tryd.f6.params[j]? = some t → args[j]? = some v → Value.okWide Tryd.prog W .any base t v := hval0
  have hW' := hW
  obtain ⟨p, q, hA0, hV, rfl, hfz, hnd⟩ := hW
  have hA : DataW.TrodAll enc Tryd.prog W 0 (fun _ => true) true Tryd.f6.params.toList args.toList ds p := hA0
  rw [Tryd.params6] at hA hval
  obtain ⟨v0, vs0, d0, ds0, p0, q0, hargs, rfl, rfl, h0, r0⟩ := trodAll_cons hA
  obtain ⟨v1, vs1, d1, ds1, p1, q1, rfl, rfl, rfl, h1, r1⟩ := trodAll_cons r0
  obtain ⟨rfl, rfl, rfl⟩ := trodAll_nil r1
  obtain rfl : args = #[v0, v1] := by cases args; simp_all
  obtain ⟨rfl, rfl⟩ := trodVars_none hV
  have k0 := h0
  have lt0 : ∀ x ∈ p0, x.block < W.heap.size := by obtain ⟨m, hm⟩ := k0; exact DataW.trod_lt m _ _ _ hm
  obtain ⟨s0, n0, rfl, hn0⟩ : ∃ (s : ByteArray) (n : Nat), v0 = .agg #[.string s, .int .u16 (n : Int)] ∧ n < 65536 := by
    obtain ⟨⟨l⟩, rfl⟩ := agg_named (hval 0 26 v0 rfl rfl)
    obtain ⟨fuel, hf⟩ := h0
    obtain ⟨s, n, hc, hn⟩ := open_named hf
    have hc' : l = [.string s, .int .u16 (n : Int)] := hc
    exact ⟨s, n, by rw [hc'], hn⟩
  obtain ⟨i1, rfl, rfl, rfl, hi1⟩ := open_int Tryd.underlying24 (hval 1 24 v1 rfl rfl) h1
  have hj1 := u16_wf hi1
  obtain ⟨n1, rfl⟩ := Int.eq_ofNat_of_zero_le hj1.1
  clear hA0 hval0
  have hpw := pow_of hL
  refine (lawPQuote_any W hpw s0 n0 hn0 n1 (by omega)).mono fun e W' ⟨he, bel⟩ => ?_
  subst he
  first
    | exact ⟨_, rfl, _, _, _, [], _, [], hW', trodAll_mk1 (shut_bool Tryd.underlying4 _), (trodAll_cons_mk (Below.trod Tryd.laidOut (by kernel_rfl) (of_decide_eq_true (by kernel_rfl)) k0 bel lt0) (trodAll_cons_mk (shut_int Tryd.underlying24 hi1) trodAll_mk0)), rfl, bel.frame _, fun h => by cases h⟩
    | (simp only [List.append_nil] at hW'; exact ⟨_, rfl, _, _, _, [], _, [], hW', trodAll_mk1 (shut_bool Tryd.underlying4 _), (trodAll_cons_mk (Below.trod Tryd.laidOut (by kernel_rfl) (of_decide_eq_true (by kernel_rfl)) k0 bel lt0) (trodAll_cons_mk (shut_int Tryd.underlying24 hi1) trodAll_mk0)), rfl, bel.frame _, fun h => by cases h⟩)

theorem PrintQuote_row : Rows.PrintQuoteSaid :=
  OpenClaim.holds_of_wide 6 Tryd.f6 rfl rfl rfl rfl rfl rfl rfl ⟨rfl, rfl, rfl, rfl, rfl⟩ rfl rfl rfl rfl rfl (by kernel_rfl) Tryd.func6 (by kernel_rfl)
    (of_decide_eq_true (by kernel_rfl)) (by unfold Func.isWrapper; first | (rw [if_pos (by decide +kernel)]; kernel_rfl) | (rw [if_neg (by decide +kernel)]; exact ⟨rfl, rfl⟩))
    (fun os started H enc _ => PrintQuote_lifted os started H enc)

theorem PrintQuote_holds : Rows.PrintQuoteCardSaid :=
  Claim7.holds_tied_plain_at .later [] [.data, .data, .data] true (true, "5c1914a50b255ad487b9705dea0cc9ca81b6ec24f4ad7408dfa3242c19516aa8") false
    PrintQuote_row (fun _ h => by cases h) (by kernel_rfl) (fun _ h => by cases h) printQuote_row_tie rfl ⟨rfl, rfl⟩ (by kernel_rfl) rfl
    (fun f fn hf hfn => by
      obtain rfl : f = 6 := Option.some.inj ((show Tryd.prog.funcNamed "sorrel/sorrellaw06.PrintQuote" = some 6 by kernel_rfl).symm.trans hf) |>.symm
      obtain rfl : fn = Tryd.f6 := (Option.some.inj (Tryd.func6.symm.trans hfn)).symm
      exact ⟨by kernel_rfl, fun j t ht => by
        rw [Tryd.params6] at ht
        have hm : t ∈ [26, 24] := by simpa using Array.mem_of_getElem? ht
        have hall : ([26, 24].all fun u => !Tryd.prog.wantsStandIn u) = true := by kernel_rfl
        exact (show Tryd.prog.wantsStandIn t = false by simpa using List.all_eq_true.1 hall t hm)⟩)
    (by kernel_rfl)
end Go.Proofs.YtabjghmfjoefpaaDoor
