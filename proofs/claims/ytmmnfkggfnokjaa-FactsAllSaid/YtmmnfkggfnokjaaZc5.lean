/-
  Of layer 12 of sorrel: whatever arguments come in, the law FactsAll returns true, and what was handed in reads as it did: a call of a predicate, all of whose arguments are unlike variables, finds each fact of that predicate, and no other one. No condition.
-/
import Derived.Test.YtmmnfkggfnokjaaZr8
namespace Go.Proofs.Ytmmnfkggfnokjaa
open Go.RowKit

/-! ### a call of unlike variables -/
def vC4 (i : Nat) : Cel := ⟨1, ⟨#[]⟩, i⟩
def callL (s : ByteArray) (q k : Nat) : List Cel := ⟨3, s, q⟩ :: (List.range k).map vC4
theorem callL_succ (s : ByteArray) (q k : Nat) : callL s q (k + 1) = callL s q k ++ [vC4 k] := by simp [callL, List.range_succ]
theorem callL_len (s : ByteArray) (q k : Nat) : (callL s q k).length = k + 1 := by simp [callL]
theorem img_vars : ∀ (m j : Nat) (t : List Cel) (f : Int → Option (List Cel)), sk m t = some [] → (∀ i : Nat, j ≤ i → f i = none) → (imgGo ((List.range' j m).map vC4) t f).isSome = true
  | 0, j, t, f, h, hf => by simp [imgGo]
  | m + 1, j, t, f, h, hf => by
    rw [Nat.add_comm, sk_add] at h
    cases hr : sk 1 t with
    | none => rw [hr] at h; cases h
    | some r =>
      rw [hr] at h
      simp only [List.range'_succ, List.map_cons, imgGo]
      rw [if_pos (by rfl), hr]
      simp only [vC4, hf j (Nat.le_refl _), Option.all_none, if_true]
      refine img_vars m (j + 1) r _ h (fun i hi => ?_)
      unfold updF
      rw [if_neg (by omega)]
      exact hf i (by omega)
theorem call_match {s : ByteArray} {q : Nat} {x : List Cel} (hx : rightB x = true) : matchB (callL s q q) x = decide (x.head? = some ⟨3, s, q⟩) := by
  obtain ⟨c, l, rfl, hc, hs, _⟩ := right_sk hx
  unfold matchB callL
  rw [imgGo, if_neg (by simp)]
  simp only [List.head?_cons, Option.some.injEq]
  by_cases he : (⟨3, s, (q : Int)⟩ : Cel) = c
  · subst he
    rw [if_pos rfl]
    have har : ar (⟨3, s, (q : Int)⟩ : Cel) = q := by unfold ar; simp
    rw [har] at hs
    rw [List.range_eq_range', img_vars q 0 l _ hs (fun _ _ => rfl)]
    simp
  · rw [if_neg he, decide_eq_false (fun e => he e.symm)]; rfl
theorem call_right {s : ByteArray} {q : Nat} (hs : s = ⟨#[97]⟩ ∨ s = ⟨#[102]⟩) (hq : q ≤ 3) : rightB (callL s q q) = true := by
  have : q = 0 ∨ q = 1 ∨ q = 2 ∨ q = 3 := by omega
  rcases hs with rfl | rfl <;> rcases this with rfl | rfl | rfl | rfl <;> decide +kernel
theorem call_fit {s : ByteArray} {q k : Nat} (hs : s = ⟨#[97]⟩ ∨ s = ⟨#[102]⟩) (hq : q ≤ 3) (hk : k ≤ 3) : ∀ c ∈ callL s q k, c.fit := by
  intro c hc
  have hsz : s.size ≤ 9223372036854775807 := by rcases hs with rfl | rfl <;> (show (1 : Nat) ≤ _; omega)
  rcases List.mem_cons.1 hc with rfl | hc
  · exact ⟨by simp, by simp, by show (-9223372036854775808 : Int) ≤ q; omega, by show (q : Int) ≤ 9223372036854775807; omega, hsz⟩
  · obtain ⟨i, hi, rfl⟩ := List.mem_map.1 hc
    have := List.mem_range.1 hi
    exact ⟨by simp [vC4], by simp [vC4], by show (-9223372036854775808 : Int) ≤ i; omega, by show (i : Int) ≤ 9223372036854775807; omega, by show (0 : Nat) ≤ _; omega⟩
theorem head_at {x : List Cel} (h : 0 < x.length) (c : Cel) : decide (x.head? = some c) = decide (x[0] = c) := by
  cases x with
  | nil => simp at h
  | cons d l => simp

set_option maxHeartbeats 8000000 in
set_option maxRecDepth 100000 in
theorem lawAll_any (hH : Head12) (a : Option Addr) (cap : Nat) (l : List (List Cel)) (nm : Int) (hnm : (Lit.int .u8 nm).wf = true) (nn : Int) (hnn : (Lit.int .u8 nn).wf = true) (w : World) (hr : Row w a cap l) :
    Calls Try.prog 9 #[.slice a l.length cap, .int .u8 nm, .int .u8 nn] w fun e w' => e = .returned (.bool true) ∧ Below w.heap.size w w' := by
  have hm := hr.max
  have hm2 := hr.le
  have HH := mkHid hH
  clear hH
  obtain ⟨n1, n2⟩ : 0 ≤ nm ∧ nm ≤ 255 := by simp [Lit.wf, IntKind.min, IntKind.max, IntKind.signed, IntKind.bits] at hnm; omega
  obtain ⟨n3, n4⟩ : 0 ≤ nn ∧ nn ≤ 255 := by simp [Lit.wf, IntKind.min, IntKind.max, IntKind.signed, IntKind.bits] at hnn; omega
  clear hnm hnn
  have hmk : 0 ≤ bits .and .i64 nn 3 ∧ bits .and .i64 nn 3 ≤ 3 := mask nn 3 (by omega)
  obtain ⟨q, hq, hq3⟩ : ∃ q : Nat, bits .and .i64 nn 3 = (q : Int) ∧ q ≤ 3 := ⟨(bits .and .i64 nn 3).toNat, by omega, by omega⟩
  clear hmk
  by_cases hfl : bits .and .u8 nm 1 = 1
  · have t1 : (bits .and .u8 nm 1 == 1) = true := by simp [hfl]
    clear hfl
    go_enter Try.func9, Try.ntmps9
    go_wp2_with fail
    refine (HH.out _).mono ?_
    rintro e w1 ⟨rfl, hb1⟩
    go_wp2_with fail
    refine (row12_any a cap w1 l (hr.below hb1) 60 (by omega)).mono ?_
    rintro e w2 ⟨a2, c2, L, rfl, hr2, hF2, hl2, hb2⟩
    have hb12 := hb1.then hb2
    have HF := mkHid hF2

    have hown0 : LR (w2.alloc (.cells #[.int .i64 3, .string ⟨#[102]⟩, .int .i64 q] 79)) w2.heap.size (.slice (some ⟨w2.heap.size, 0, none⟩) 1 1) (callL ⟨#[102]⟩ q 0) := by
      have := World.ownsRow_lit (base := w2.heap.size) (e := 79) (size := 3) w2 #[.int .i64 3, .string ⟨#[102]⟩, .int .i64 q] 1 (Nat.le_refl _) (by unfold maxLen; omega) rfl
      simpa [flat, LR, callL] using this
    have hb02 := (Below.refl w2.heap.size w2).new (.cells #[.int .i64 3, .string ⟨#[102]⟩, .int .i64 q] 79)
    have hmL := hr2.max
    have hmL2 := hr2.le
    clear hF2
    go_wp2_with fail
    go_loopw [8, 9] (fun v i wr => ∃ k : Nat, k ≤ q ∧ i = .int .i64 k ∧ LR wr w2.heap.size v (callL ⟨#[102]⟩ q k) ∧ Below w2.heap.size w2 wr) (fun v i wr => q - (intOf i).toNat)
    case atStart => exact ⟨0, Nat.zero_le _, rfl, hown0, hb02⟩
    case round =>
      clear hown0 hb02
      obtain ⟨k, hk, rfl, hown, hbl⟩ := hrel
      have hszl := hbl.size
      by_cases hlt : k < q
      · have hcl : (callL ⟨#[102]⟩ q k).length ≤ 1000000 := by rw [callL_len]; omega
        have HT := mkHid (callL_succ ⟨#[102]⟩ q k)
        generalize callL ⟨#[102]⟩ q k = C at hown hcl HT
        go_wp2_with (at_builtin; refine wpList_lay rfl _ _ rfl w2.heap.size _ C (vC4 k) hown rfl (by rfl) hszl hcl ?_; intro v9 w9 hown9 hb9 _)
        go_round
        case rel => exact ⟨k + 1, by omega, by go_num, by rw [HT.out]; exact hown9, hbl.trans hb9⟩
        case measure => simp [intOf]; omega
      · obtain rfl : k = q := by omega
        obtain ⟨a3, c3, rfl, hr3⟩ := own_row (xs := callL ⟨#[102]⟩ k k) hown (call_fit (s := ⟨#[102]⟩) (by simp) hq3 hq3)
        have rC := mkHid hr3
        have rL := mkHid (hr2.below hbl)
        have HR : Hid (rightB (callL ⟨#[102]⟩ k k) = true) := call_right (s := ⟨#[102]⟩) (by simp) hq3
        have hCl : 0 < (callL ⟨#[102]⟩ k k).length := by rw [callL_len]; omega
        have hC0 : (callL ⟨#[102]⟩ k k)[0] = ⟨3, ⟨#[102]⟩, k⟩ := rfl
        obtain ⟨M, hM⟩ : ∃ M, L.filter (matchB (callL ⟨#[102]⟩ k k)) = M := ⟨_, rfl⟩
        have HM := mkHid hM
        have HMK : Hid (∀ x ∈ L, matchB (callL ⟨#[102]⟩ k k) x = decide (x.head? = some ⟨3, ⟨#[102]⟩, k⟩)) := fun x hx => call_match (fact_right (HF.out.all x hx))
        have HC0 := mkHid hC0
        have hb2r := hb12.then hbl
        have HB := mkHid hb2r
        generalize callL ⟨#[102]⟩ k k = C at rC HR hCl HM HMK HC0 
        clear hM hC0 hown hr3 hr2 hbl hb2r hb1 hb2 hb12
        have hmC := rC.out.max
        have hmC2 := rC.out.le
        go_wp2_with fail
        refine (findK rL.out rC.out HF HR HM).mono ?_
        rintro e w4 ⟨a4, c4, rfl, r4, hb4⟩
        replace rL := mkHid (rL.out.below hb4)
        replace rC := mkHid (rC.out.below hb4)
        replace HB := mkHid (HB.out.then hb4)
        have rM := mkHid r4
        clear r4 hb4
        have hm0 := AccInv.made (α := List Cel) (B := w4.heap.size) (e := 22) (T := 22) w4 (Nat.le_refl _) rfl
        have hb0 := (Below.refl w4.heap.size w4).new (.cells #[] 22)
        go_wp2_with fail
        go_loopw [11, 12] (fun v i wr => ∃ (j : Nat) (A : List (List Cel)), j ≤ L.length ∧ A.length ≤ j ∧ i = .int .i64 j ∧ AccInv w4.heap.size 22 A v wr ∧ Below w4.heap.size w4 wr ∧ Hid ((L.take j).filter (matchB C) = A)) (fun v i wr => L.length - (intOf i).toNat)
        case atStart => exact ⟨0, [], Nat.zero_le _, Nat.le_refl _, rfl, hm0, hb0, rfl⟩
        case round =>
          obtain ⟨j, A, hj, hA, rfl, hacc, hbl, HA⟩ := hrel
          by_cases hlt : j < L.length
          · obtain ⟨b, off, rfl, hb, hat⟩ := rL.out.cases.resolve_left (fun e => by simp [e] at hlt)
            obtain ⟨ax, cx, d0, rx⟩ := list_at hat (Below.refl _ _) hlt
            have hx0 : 0 < L[j].length := by
              have := fact_right (HF.out.all _ (List.getElem_mem hlt))
              obtain ⟨t, _, e, _⟩ := right_tm this
              rw [e]; exact flat_pos t
            obtain ⟨bx, ox, rfl, hbx, hatx⟩ := rx.cases.resolve_left (fun e => by simp [e] at hx0)
            obtain ⟨x0, x1, x2, _⟩ := cel_at hatx hbl hx0
            obtain ⟨bc, oc, hac, hbc, hatc⟩ := rC.out.cases.resolve_left (fun e => by simp [e] at hCl)
            cases hac
            obtain ⟨y0, y1, y2, _⟩ := cel_at hatc hbl hCl
            simp only [Nat.zero_mul, Nat.add_zero] at x0 x1 x2 y0 y1 y2
            have dr := keep d0 hbl
            have hcmp := fun W => run_eql_cel L[j][0] C[0] W
            obtain ⟨d, hd⟩ : ∃ d, decide (L[j][0] = C[0]) = d := ⟨_, rfl⟩
            have HD : Hid (matchB C L[j] = d) := by rw [Hid, HMK.out _ (List.getElem_mem hlt), head_at hx0, ← hd, HC0.out]
            rw [hd] at hcmp
            clear hd
            have e0 : ∀ x : Later wr, x.w'.cell? ⟨b, off + j, none⟩ = some (.slice (some ⟨bx, ox, none⟩) L[j].length cx) := keepL dr
            have x0' : ∀ x : Later wr, x.w'.cell? ⟨bx, ox, none⟩ = some (.int .i64 L[j][0].k) := keepL x0
            have x1' : ∀ x : Later wr, x.w'.cell? ⟨bx, ox + 1, none⟩ = some (.string L[j][0].s) := keepL x1
            have x2' : ∀ x : Later wr, x.w'.cell? ⟨bx, ox + 2, none⟩ = some (.int .i64 L[j][0].n) := keepL x2
            have y0' : ∀ x : Later wr, x.w'.cell? ⟨bc, oc, none⟩ = some (.int .i64 C[0].k) := keepL y0
            have y1' : ∀ x : Later wr, x.w'.cell? ⟨bc, oc + 1, none⟩ = some (.string C[0].s) := keepL y1
            have y2' : ∀ x : Later wr, x.w'.cell? ⟨bc, oc + 2, none⟩ = some (.int .i64 C[0].n) := keepL y2
            have hmx := rx.max
            have hmx2 := rx.le
            have rX := mkHid rx
            clear d0 x0 x1 x2 y0 y1 y2 rx dr
            cases d with
            | false =>
              have HT : Hid ((L.take (j + 1)).filter (matchB C) = A) := by rw [Hid, filt_no hlt HD.out, HA.out]
              clear HA
              go_wp2_with fail
              refine wp_region_calm (by kernel_rfl) (by kernel_rfl) ?_
              repeat (go_big_quiet_step (fail))
              refine wpQuiet_nil ?_
              rintro _ ⟨x, rfl⟩
              go_wp2
              go_round
              case rel => exact ⟨j + 1, A, by omega, by omega, by go_num, hacc.below x.ok, hbl.then x.ok, HT⟩
              case measure => simp [intOf]; omega
            | true =>
              have HT : Hid ((L.take (j + 1)).filter (matchB C) = A ++ [L[j]]) := by rw [Hid, filt_yes hlt HD.out, HA.out]
              clear HA
              go_wp2_with fail
              refine wp_region_calm (by kernel_rfl) (by kernel_rfl) ?_
              repeat (go_big_quiet_step (fail))
              refine wpQuiet_nil ?_
              rintro _ ⟨x, rfl⟩
              have hacc1 := hacc.below x.ok
              have hbl1 := hbl.then x.ok
              have hsz1 := hbl1.size
              have hrh := rX.out.keeps (hacc1.fresh hbl1)
              have e1 := e0 x
              go_wp2_with (at_builtin; refine wpList_acc (α := List Cel) rfl _ _ 68 rfl w4.heap.size 22 24 _ Try.underlying68 Try.infoSl rfl (by decide) _ A hacc1 (by rfl) _ #[.slice (some ⟨bx, ox, none⟩) L[j].length cx] L[j] ⟨_, cx, rfl, hrh⟩ (by rfl) (by omega) hsz1 ?_; intro v9 w9 hacc9 hb9)
              go_round
              case rel => exact ⟨j + 1, A ++ [L[j]], by omega, by simp; omega, by go_num, hacc9, hbl1.trans hb9, HT⟩
              case measure => simp [intOf]; omega
          · have HE : Hid (decide (M = A) = true) := decide_eq_true (by rw [← HM.out, ← HA.out, List.take_of_length_le (by omega)])
            obtain ⟨a9, c9, rfl, r9⟩ := hacc.row
            clear HA
            go_wp2_with fail
            refine (sameK (rM.out.below hbl) r9 HE).mono ?_
            rintro e w9 ⟨rfl, hb9⟩
            go_wp2_with fail
            go_ret
            exact ⟨rfl, HB.out.then (hbl.then hb9)⟩
  · have t1 : (bits .and .u8 nm 1 == 1) = false := by simp [hfl]
    clear hfl
    go_enter Try.func9, Try.ntmps9
    go_wp2_with fail
    refine (HH.out _).mono ?_
    rintro e w1 ⟨rfl, hb1⟩
    go_wp2_with fail
    refine (row12_any a cap w1 l (hr.below hb1) 60 (by omega)).mono ?_
    rintro e w2 ⟨a2, c2, L, rfl, hr2, hF2, hl2, hb2⟩
    have hb12 := hb1.then hb2
    have HF := mkHid hF2

    have hown0 : LR (w2.alloc (.cells #[.int .i64 3, .string ⟨#[97]⟩, .int .i64 q] 79)) w2.heap.size (.slice (some ⟨w2.heap.size, 0, none⟩) 1 1) (callL ⟨#[97]⟩ q 0) := by
      have := World.ownsRow_lit (base := w2.heap.size) (e := 79) (size := 3) w2 #[.int .i64 3, .string ⟨#[97]⟩, .int .i64 q] 1 (Nat.le_refl _) (by unfold maxLen; omega) rfl
      simpa [flat, LR, callL] using this
    have hb02 := (Below.refl w2.heap.size w2).new (.cells #[.int .i64 3, .string ⟨#[97]⟩, .int .i64 q] 79)
    have hmL := hr2.max
    have hmL2 := hr2.le
    clear hF2
    go_wp2_with fail
    go_loopw [8, 9] (fun v i wr => ∃ k : Nat, k ≤ q ∧ i = .int .i64 k ∧ LR wr w2.heap.size v (callL ⟨#[97]⟩ q k) ∧ Below w2.heap.size w2 wr) (fun v i wr => q - (intOf i).toNat)
    case atStart => exact ⟨0, Nat.zero_le _, rfl, hown0, hb02⟩
    case round =>
      clear hown0 hb02
      obtain ⟨k, hk, rfl, hown, hbl⟩ := hrel
      have hszl := hbl.size
      by_cases hlt : k < q
      · have hcl : (callL ⟨#[97]⟩ q k).length ≤ 1000000 := by rw [callL_len]; omega
        have HT := mkHid (callL_succ ⟨#[97]⟩ q k)
        generalize callL ⟨#[97]⟩ q k = C at hown hcl HT
        go_wp2_with (at_builtin; refine wpList_lay rfl _ _ rfl w2.heap.size _ C (vC4 k) hown rfl (by rfl) hszl hcl ?_; intro v9 w9 hown9 hb9 _)
        go_round
        case rel => exact ⟨k + 1, by omega, by go_num, by rw [HT.out]; exact hown9, hbl.trans hb9⟩
        case measure => simp [intOf]; omega
      · obtain rfl : k = q := by omega
        obtain ⟨a3, c3, rfl, hr3⟩ := own_row (xs := callL ⟨#[97]⟩ k k) hown (call_fit (s := ⟨#[97]⟩) (by simp) hq3 hq3)
        have rC := mkHid hr3
        have rL := mkHid (hr2.below hbl)
        have HR : Hid (rightB (callL ⟨#[97]⟩ k k) = true) := call_right (s := ⟨#[97]⟩) (by simp) hq3
        have hCl : 0 < (callL ⟨#[97]⟩ k k).length := by rw [callL_len]; omega
        have hC0 : (callL ⟨#[97]⟩ k k)[0] = ⟨3, ⟨#[97]⟩, k⟩ := rfl
        obtain ⟨M, hM⟩ : ∃ M, L.filter (matchB (callL ⟨#[97]⟩ k k)) = M := ⟨_, rfl⟩
        have HM := mkHid hM
        have HMK : Hid (∀ x ∈ L, matchB (callL ⟨#[97]⟩ k k) x = decide (x.head? = some ⟨3, ⟨#[97]⟩, k⟩)) := fun x hx => call_match (fact_right (HF.out.all x hx))
        have HC0 := mkHid hC0
        have hb2r := hb12.then hbl
        have HB := mkHid hb2r
        generalize callL ⟨#[97]⟩ k k = C at rC HR hCl HM HMK HC0 
        clear hM hC0 hown hr3 hr2 hbl hb2r hb1 hb2 hb12
        have hmC := rC.out.max
        have hmC2 := rC.out.le
        go_wp2_with fail
        refine (findK rL.out rC.out HF HR HM).mono ?_
        rintro e w4 ⟨a4, c4, rfl, r4, hb4⟩
        replace rL := mkHid (rL.out.below hb4)
        replace rC := mkHid (rC.out.below hb4)
        replace HB := mkHid (HB.out.then hb4)
        have rM := mkHid r4
        clear r4 hb4
        have hm0 := AccInv.made (α := List Cel) (B := w4.heap.size) (e := 22) (T := 22) w4 (Nat.le_refl _) rfl
        have hb0 := (Below.refl w4.heap.size w4).new (.cells #[] 22)
        go_wp2_with fail
        go_loopw [11, 12] (fun v i wr => ∃ (j : Nat) (A : List (List Cel)), j ≤ L.length ∧ A.length ≤ j ∧ i = .int .i64 j ∧ AccInv w4.heap.size 22 A v wr ∧ Below w4.heap.size w4 wr ∧ Hid ((L.take j).filter (matchB C) = A)) (fun v i wr => L.length - (intOf i).toNat)
        case atStart => exact ⟨0, [], Nat.zero_le _, Nat.le_refl _, rfl, hm0, hb0, rfl⟩
        case round =>
          obtain ⟨j, A, hj, hA, rfl, hacc, hbl, HA⟩ := hrel
          by_cases hlt : j < L.length
          · obtain ⟨b, off, rfl, hb, hat⟩ := rL.out.cases.resolve_left (fun e => by simp [e] at hlt)
            obtain ⟨ax, cx, d0, rx⟩ := list_at hat (Below.refl _ _) hlt
            have hx0 : 0 < L[j].length := by
              have := fact_right (HF.out.all _ (List.getElem_mem hlt))
              obtain ⟨t, _, e, _⟩ := right_tm this
              rw [e]; exact flat_pos t
            obtain ⟨bx, ox, rfl, hbx, hatx⟩ := rx.cases.resolve_left (fun e => by simp [e] at hx0)
            obtain ⟨x0, x1, x2, _⟩ := cel_at hatx hbl hx0
            obtain ⟨bc, oc, hac, hbc, hatc⟩ := rC.out.cases.resolve_left (fun e => by simp [e] at hCl)
            cases hac
            obtain ⟨y0, y1, y2, _⟩ := cel_at hatc hbl hCl
            simp only [Nat.zero_mul, Nat.add_zero] at x0 x1 x2 y0 y1 y2
            have dr := keep d0 hbl
            have hcmp := fun W => run_eql_cel L[j][0] C[0] W
            obtain ⟨d, hd⟩ : ∃ d, decide (L[j][0] = C[0]) = d := ⟨_, rfl⟩
            have HD : Hid (matchB C L[j] = d) := by rw [Hid, HMK.out _ (List.getElem_mem hlt), head_at hx0, ← hd, HC0.out]
            rw [hd] at hcmp
            clear hd
            have e0 : ∀ x : Later wr, x.w'.cell? ⟨b, off + j, none⟩ = some (.slice (some ⟨bx, ox, none⟩) L[j].length cx) := keepL dr
            have x0' : ∀ x : Later wr, x.w'.cell? ⟨bx, ox, none⟩ = some (.int .i64 L[j][0].k) := keepL x0
            have x1' : ∀ x : Later wr, x.w'.cell? ⟨bx, ox + 1, none⟩ = some (.string L[j][0].s) := keepL x1
            have x2' : ∀ x : Later wr, x.w'.cell? ⟨bx, ox + 2, none⟩ = some (.int .i64 L[j][0].n) := keepL x2
            have y0' : ∀ x : Later wr, x.w'.cell? ⟨bc, oc, none⟩ = some (.int .i64 C[0].k) := keepL y0
            have y1' : ∀ x : Later wr, x.w'.cell? ⟨bc, oc + 1, none⟩ = some (.string C[0].s) := keepL y1
            have y2' : ∀ x : Later wr, x.w'.cell? ⟨bc, oc + 2, none⟩ = some (.int .i64 C[0].n) := keepL y2
            have hmx := rx.max
            have hmx2 := rx.le
            have rX := mkHid rx
            clear d0 x0 x1 x2 y0 y1 y2 rx dr
            cases d with
            | false =>
              have HT : Hid ((L.take (j + 1)).filter (matchB C) = A) := by rw [Hid, filt_no hlt HD.out, HA.out]
              clear HA
              go_wp2_with fail
              refine wp_region_calm (by kernel_rfl) (by kernel_rfl) ?_
              repeat (go_big_quiet_step (fail))
              refine wpQuiet_nil ?_
              rintro _ ⟨x, rfl⟩
              go_wp2
              go_round
              case rel => exact ⟨j + 1, A, by omega, by omega, by go_num, hacc.below x.ok, hbl.then x.ok, HT⟩
              case measure => simp [intOf]; omega
            | true =>
              have HT : Hid ((L.take (j + 1)).filter (matchB C) = A ++ [L[j]]) := by rw [Hid, filt_yes hlt HD.out, HA.out]
              clear HA
              go_wp2_with fail
              refine wp_region_calm (by kernel_rfl) (by kernel_rfl) ?_
              repeat (go_big_quiet_step (fail))
              refine wpQuiet_nil ?_
              rintro _ ⟨x, rfl⟩
              have hacc1 := hacc.below x.ok
              have hbl1 := hbl.then x.ok
              have hsz1 := hbl1.size
              have hrh := rX.out.keeps (hacc1.fresh hbl1)
              have e1 := e0 x
              go_wp2_with (at_builtin; refine wpList_acc (α := List Cel) rfl _ _ 68 rfl w4.heap.size 22 24 _ Try.underlying68 Try.infoSl rfl (by decide) _ A hacc1 (by rfl) _ #[.slice (some ⟨bx, ox, none⟩) L[j].length cx] L[j] ⟨_, cx, rfl, hrh⟩ (by rfl) (by omega) hsz1 ?_; intro v9 w9 hacc9 hb9)
              go_round
              case rel => exact ⟨j + 1, A ++ [L[j]], by omega, by simp; omega, by go_num, hacc9, hbl1.trans hb9, HT⟩
              case measure => simp [intOf]; omega
          · have HE : Hid (decide (M = A) = true) := decide_eq_true (by rw [← HM.out, ← HA.out, List.take_of_length_le (by omega)])
            obtain ⟨a9, c9, rfl, r9⟩ := hacc.row
            clear HA
            go_wp2_with fail
            refine (sameK (rM.out.below hbl) r9 HE).mono ?_
            rintro e w9 ⟨rfl, hb9⟩
            go_wp2_with fail
            go_ret
            exact ⟨rfl, HB.out.then (hbl.then hb9)⟩
end Go.Proofs.Ytmmnfkggfnokjaa
namespace Go.Proofs.Ytmmnfkggfnokjaa
open Go.RowKit Go.ChangeShapes Go.WideShapes Go.ChangeAt
open Go.ChangeMaps (open_string)

set_option maxRecDepth 100000 in
set_option maxHeartbeats 1000000 in
theorem FactsAll_lifted (os : Os) (started : os.Started) (H : Type) (enc : TypeId × Value → H) :
    ReturnsInHanded {} Try.checked os 9 .any (Rows.factsAllSpec.pre6 enc Try.prog Try.f9 Rows.factsAllRow.domain false) (Rows.factsAllSpec.post enc Try.prog Try.f9 false true false false) := by
  refine returnsInHanded_of_change (C := Try.checked) Try.own started (by kernel_rfl) Try.func9
    (ChangeSpec.witness6 (enc := enc) (C := Try.checked) false ⟨#[], #[.slice none 0 0, .int .u8 0, .int .u8 0], []⟩ 8 (by kernel_rfl) (by kernel_rfl) (by kernel_rfl) (by kernel_rfl)) ?_
  intro W base args ds gs before hval0 hW hcnd _
  have hval : ∀ (j : Nat) t v, Try.f9.params[j]? = some t → args[j]? = some v → Value.okWide Try.prog W .any base t v := hval0
  have hW' := hW
  obtain ⟨p, q, hA0, hV, rfl, hfz, hnd⟩ := hW
  have hA : DataW.TrodAll enc Try.prog W 0 (fun _ => true) true Try.f9.params.toList args.toList ds p := hA0
  rw [Try.params9] at hA hval
  obtain ⟨v0, vs0, d0, ds0, p0, q0, hargs, rfl, rfl, h0, r0⟩ := trodAll_cons hA
  obtain ⟨v1, vs1, d1, ds1, p1, q1, rfl, rfl, rfl, h1, r1⟩ := trodAll_cons r0
  obtain ⟨v2, vs2, d2, ds2, p2, q2, rfl, rfl, rfl, h2, r2⟩ := trodAll_cons r1
  obtain ⟨rfl, rfl, rfl⟩ := trodAll_nil r2
  obtain rfl : args = #[v0, v1, v2] := by cases args; simp_all
  obtain ⟨rfl, rfl⟩ := trodVars_none hV
  have k0 := h0
  have lt0 : ∀ x ∈ p0, x.block < W.heap.size := by obtain ⟨m, hm⟩ := k0; exact DataW.trod_lt m _ _ _ hm
  obtain ⟨a0, len0, cap0, rfl⟩ := okWide_slice Try.underlying68 (hval 0 68 v0 rfl rfl)
  obtain ⟨xs0, rfl, hr0⟩ : ∃ xs : List (List Cel), xs.length = len0 ∧ Row W a0 cap0 xs := by
    obtain ⟨fuel, hf⟩ := h0
    exact open_cellss hf
  have k1 := h1
  have lt1 : ∀ x ∈ p1, x.block < W.heap.size := by obtain ⟨m, hm⟩ := k1; exact DataW.trod_lt m _ _ _ hm
  obtain ⟨n1, rfl, _, _, wf1⟩ := open_int Try.underlying5 (hval 1 5 v1 rfl rfl) h1
  have k2 := h2
  have lt2 : ∀ x ∈ p2, x.block < W.heap.size := by obtain ⟨m, hm⟩ := k2; exact DataW.trod_lt m _ _ _ hm
  obtain ⟨n2, rfl, _, _, wf2⟩ := open_int Try.underlying5 (hval 2 5 v2 rfl rfl) h2
  clear hA0 hval0
  refine (lawAll_any head12_any a0 cap0 xs0 n1 wf1 n2 wf2 W hr0).mono fun e W' ⟨he, bel⟩ => ?_
  subst he
  exact ⟨_, rfl, _, _, _, [], _, [], hW', trodAll_mk1 (shut_bool Try.underlying4 _), (trodAll_cons_mk (Below.trod Try.laidOut (by kernel_rfl) (of_decide_eq_true (by kernel_rfl)) k0 bel lt0) (trodAll_cons_mk (Below.trod Try.laidOut (by kernel_rfl) (of_decide_eq_true (by kernel_rfl)) k1 bel lt1) (trodAll_cons_mk (Below.trod Try.laidOut (by kernel_rfl) (of_decide_eq_true (by kernel_rfl)) k2 bel lt2) trodAll_mk0))), rfl, bel.frame _, fun h => by cases h⟩

theorem FactsAll_over : Rows.factsAllRow.holds Try.pinned (OpenSpec.ofChange Rows.factsAllSpec) :=
  OpenClaim.holds_of_wide 9 Try.f9 rfl rfl rfl rfl rfl rfl rfl ⟨rfl, rfl, rfl, rfl, rfl⟩ rfl rfl rfl rfl rfl (by kernel_rfl) Try.func9 (by kernel_rfl)
    (of_decide_eq_true (by kernel_rfl)) (by unfold Func.isWrapper; first | (rw [if_pos (by decide +kernel)]; kernel_rfl) | (rw [if_neg (by decide +kernel)]; exact ⟨rfl, rfl⟩))
    (fun os started H enc _ => FactsAll_lifted os started H enc)

theorem FactsAll_holds : Rows.FactsAllSaid := FactsAll_over
end Go.Proofs.Ytmmnfkggfnokjaa
