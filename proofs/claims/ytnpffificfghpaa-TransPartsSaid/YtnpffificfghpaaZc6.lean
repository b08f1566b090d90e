/-
  Of layer 13 of sorrel: whatever arguments come in, the law TransParts returns true, and what was handed in reads as it did: two transactions, one behind the other, come to the facts of one with the changes of both. No condition.
-/
import Derived.Test.YtnpffificfghpaaZr6
set_option linter.unusedVariables false
namespace Go.Proofs.Ytnpffificfghpaa
open Go.RowKit
theorem row_rest {X : World} {a' : Option Addr} {cap' k : Nat} {cs D : List Lt} (h : Row X a' cap' cs) (hk : k ≤ cs.length) (hD : cs.drop k = D) :
    Row X (if cap' = k then a' else Option.map (fun x => x.add (k * 2)) a') (cap' - k) D := by
  have hle := h.le
  have hmx := h.max
  by_cases he : D = []
  · subst he
    refine Row.empty _ _ _ (by omega) fun e => ?_
    by_cases hc : cap' = k
    · omega
    · rw [if_neg hc] at e
      have hn : a' = none := by cases a' with
        | none => rfl
        | some q => cases e
      have := h.nil hn
      omega
  · have hl : k < cs.length := Nat.lt_of_not_le fun hl => he (by rw [← hD]; exact List.drop_eq_nil_of_le hl)
    obtain ⟨b, off, rfl, hb, hat⟩ := h.cases.resolve_left (fun e => by rw [e] at hl; simp at hl)
    rw [if_neg (by omega)]
    have h2 := h.slice (i := k) (j := cs.length) hk (Nat.le_refl _)
    rw [List.take_of_length_le (by rw [List.length_drop]; omega), hD] at h2
    show Row X (some ((Addr.mk b off none).add (k * 2))) _ _
    rw [add_litR]
    exact h2

set_option maxHeartbeats 6400000 in
set_option maxRecDepth 100000 in
theorem lawTParts_any (hH : Head13) (a : Option Addr) (cap : Nat) (l : List (List Cel)) (a' : Option Addr) (cap' : Nat) (cs : List Lt) (n : Int) (wf : (Lit.int .u8 n).wf = true) (w : World) (hr : Row w a cap l) (hc : Row w a' cap' cs) :
    Calls Try.prog 8 #[.slice a l.length cap, .slice a' cs.length cap', .int .u8 n] w fun e w' => e = .returned (.bool true) ∧ Below w.heap.size w w' := by
  have HH := mkHid hH
  clear hH
  have hlm := hr.max
  have hll := hr.le
  have hcm := hc.max
  have hcl := hc.le
  have HB := mkHid (Below.refl w.heap.size w)
  have HL := mkHid hr
  have HC := mkHid hc
  clear hr hc
  go_enter Try.func8, Try.ntmps8
  go_wp2_with fail
  refine (HH.out _).mono ?_
  rintro e w1 ⟨rfl, hq⟩
  replace HL := mkHid (HL.out.below hq)
  replace HC := mkHid (HC.out.below hq)
  replace HB := mkHid (HB.out.then hq)
  clear hq
  go_wp2_with fail
  refine (great13_any a cap l a' cap' cs _ HL.out HC.out).mono ?_
  rintro e w2 ⟨⟨b, rfl, hg⟩, hq⟩
  replace HL := mkHid (HL.out.below hq)
  replace HC := mkHid (HC.out.below hq)
  replace HB := mkHid (HB.out.then hq)
  clear hq
  cases b with
  | true =>
    go_wp2_with fail
    go_ret
    exact ⟨rfl, HB.out⟩
  | false =>
    obtain ⟨hl60, hc60⟩ := hg rfl
    clear hg
    have hn2 : 0 ≤ n ∧ n ≤ 255 := by
      simp [Lit.wf, IntKind.min, IntKind.max, IntKind.signed, IntKind.bits] at wf
      omega
    obtain ⟨k, hk, hkl⟩ : ∃ k : Nat, Int.tmod n ((cs.length : Int) + 1) = k ∧ k ≤ cs.length := by
      have h1 : Int.tmod n ((cs.length : Int) + 1) = n % ((cs.length : Int) + 1) := Int.tmod_eq_emod_of_nonneg hn2.1
      have h2 := Int.emod_nonneg n (show ((cs.length : Int) + 1) ≠ 0 by omega)
      have h3 := Int.emod_lt_of_pos n (show (0 : Int) < (cs.length : Int) + 1 by omega)
      generalize n % ((cs.length : Int) + 1) = r at h1 h2 h3
      exact ⟨r.toNat, by rw [h1]; omega, by omega⟩
    have hz : (((cs.length : Int) + 1) == 0) = false := beq_false_of_ne (by omega)
    have hz2 : decide (((cs.length : Int) + 1) = 0) = false := decide_eq_false (by omega)
    obtain ⟨T, hT⟩ : ∃ T, cs.take k = T := ⟨_, rfl⟩
    obtain ⟨D, hD⟩ : ∃ D, cs.drop k = D := ⟨_, rfl⟩
    have hTl : T.length = k := by rw [← hT, List.length_take]; omega
    have hDl : D.length = cs.length - k := by rw [← hD, List.length_drop]
    have HTD : Hid (T ++ D = cs) := by rw [Hid, ← hT, ← hD, List.take_append_drop]
    have HTK : Hid (∀ W a c, Row W a c cs → Row W a c T) := fun W a c h => by rw [← hT]; exact h.takeF k
    have HDD := mkHid hD
    clear hT hD
    subst hTl
    have hkc : T.length ≤ cap' := by omega
    obtain ⟨aD, haD⟩ : ∃ aD, (if cap' = T.length then a' else Option.map (fun x => x.add (T.length * 2)) a') = aD := ⟨_, rfl⟩
    have HDK : Hid (∀ W, Row W a' cap' cs → Row W aD (cap' - T.length) D) := fun W h => by rw [← haD]; exact row_rest h hkl HDD.out
    go_wp2_with fail
    refine (made13_any a cap l _ HL.out).mono ?_
    rintro e w3 ⟨a3, c3, f, rfl, hf, hF, hf40, hq⟩
    replace HL := mkHid (HL.out.below hq)
    replace HC := mkHid (HC.out.below hq)
    replace HB := mkHid (HB.out.then hq)
    clear hq
    have RF := mkHid hf
    clear hf
    have HF := mkHid hF
    clear hF
    have RF0 : Hid (BR w3 a3 c3 f none 0 []) := ⟨RF.out, nilRow _⟩
    have hbx : Below w3.heap.size w3 (w3.alloc (.cells #[.slice a3 f.length c3, .int .i64 0, .bool false, .slice none 0 0] 25)) := (Below.refl _ _).new _
    have X6 : Hid (BX (w3.alloc (.cells #[.slice a3 f.length c3, .int .i64 0, .bool false, .slice none 0 0] 25)) w3.heap.size a3 c3 f 0 false none 0 []) := BX.madeK RF0.out rfl rfl
    replace HL := mkHid (HL.out.below hbx)
    replace HC := mkHid (HC.out.below hbx)
    replace RF := mkHid (RF.out.below hbx)
    replace HB := mkHid (HB.out.then hbx)
    clear hbx
    clear RF0
    clear RF
    obtain ⟨CS, hCS⟩ : ∃ CS, (cs.take 60).map madeC = CS := ⟨_, rfl⟩
    obtain ⟨CT, hCT⟩ : ∃ CT, (T.take 60).map madeC = CT := ⟨_, rfl⟩
    obtain ⟨CD, hCD⟩ : ∃ CD, (D.take 60).map madeC = CD := ⟨_, rfl⟩
    have HCS := mkHid hCS
    have HCT := mkHid hCT
    have HCD := mkHid hCD
    have hn0 : CS.length = cs.length := by rw [← hCS, made60 hc60, List.length_map]
    have HJ : Hid (CT ++ CD = CS) := by rw [Hid, ← hCS, ← hCT, ← hCD, made60 hc60, made60 (by omega), made60 (by omega), ← List.map_append, HTD.out]
    have hjl : CT.length + CD.length = CS.length := by rw [← HJ.out, List.length_append]
    have hcn : CS.length ≤ 60 := by omega
    clear hCS hn0 hCT hCD
    obtain ⟨X6c0, X6c1, X6c2, X6c3⟩ := X6.out.cellsK (n := f.length) (k := 0) rfl rfl
    go_wp2_with fail
    refine (begun_any _ a3 c3 f 0 none 0 a' cap' cs ⟨X6.out.2.f, X6.out.2.t⟩ HF.out HC.out CS HCS).mono ?_
    rintro e w4 ⟨a5, c5, b5, d5, p5, q5, rfl, hbr, hdn, hfa, hq⟩
    clear X6c0 X6c1 X6c2 X6c3
    replace HL := mkHid (HL.out.below hq)
    replace HC := mkHid (HC.out.below hq)
    replace X6 := mkHid (X6.out.below hq)
    replace HB := mkHid (HB.out.then hq)
    clear hq
    have RD := mkHid hdn
    clear hdn
    have HFA := mkHid hfa
    have R5 := mkHid hbr
    clear hbr hfa
    obtain ⟨x5, hx5⟩ : ∃ X, (w4.alloc (.cells #[.slice a5 f.length c5, .int .i64 0, .bool true, .slice b5 CS.length d5] 25)) = X := ⟨_, rfl⟩
    have hbx : Below w4.heap.size w4 x5 := by rw [← hx5]; exact (Below.refl _ _).new _
    have X7 : Hid (BX x5 w4.heap.size a5 c5 f 0 true b5 d5 CS) := by rw [Hid, ← hx5]; exact BX.madeK R5.out rfl rfl
    replace HL := mkHid (HL.out.below hbx)
    replace HC := mkHid (HC.out.below hbx)
    replace X6 := mkHid (X6.out.below hbx)
    replace RD := mkHid (RD.out.below hbx)
    replace HB := mkHid (HB.out.then hbx)
    clear hbx
    clear R5
    have OK : Hid (OkB f CS) := ⟨HF.out, HFA.out, by omega⟩
    have HBG : Hid (bigF f CS = false) := big_room HFA.out (by omega)
    have HFT : Hid (∀ q ∈ CT, factB q.t = true) := fun q hq => HFA.out q (by rw [← HJ.out]; exact List.mem_append_left _ hq)
    have HFD : Hid (∀ q ∈ CD, factB q.t = true) := fun q hq => HFA.out q (by rw [← HJ.out]; exact List.mem_append_right _ hq)
    have OKT : Hid (OkB f CT) := ⟨HF.out, HFT.out, by omega⟩
    obtain ⟨m, hm⟩ : ∃ m, nowF f CS = m := ⟨_, rfl⟩
    obtain ⟨m2, hm2⟩ : ∃ m, nowF f CT = m := ⟨_, rfl⟩
    have HM := mkHid hm
    have HM2 := mkHid hm2
    have HM3 : Hid (nowF m2 CD = m) := by rw [Hid, ← hm2, ← hm, ← HJ.out, now_append]
    have hbg := HBG.out
    rw [← HJ.out, big_append, hm2, Bool.or_eq_false_iff] at hbg
    have HBT := mkHid hbg.1
    have HBD := mkHid hbg.2
    have HFM : Hid (FR m) := by rw [Hid, ← hm]; exact HF.out.now
    have HFM2 : Hid (FR m2) := by rw [Hid, ← hm2]; exact HF.out.now
    have OKD : Hid (OkB m2 CD) := ⟨HFM2.out, HFD.out, by omega⟩
    clear hm hm2 hbg
    obtain ⟨X6c0, X6c1, X6c2, X6c3⟩ := X6.out.cellsK (n := f.length) (k := 0) rfl rfl
    have HRT : Hid (∀ X, Below x5.heap.size x5 X → Row X a' cap' T) := fun X h => HTK.out _ _ _ (HC.out.below h)
    have HNE : Hid (NEf f ∧ NEt CT) := OKT.out.ne
    go_wp2_with fail
    first | rw [hx5] | skip
    clear hx5
    generalize hA : Act.mk _ _ = A0
    refine Code.wp_mono (Q := fun ev A' X' => ev = .normal ∧ ∃ (e48 e49 e50 e51 e52 e47 e53 e54 e13 : Value) (B : Nat) (a8 : Option Addr) (c8 : Nat) (b8 : Option Addr) (d8 : Nat), A' = ((((((((((A0.put (some 48) e48).put (some 49) e49).put (some 50) e50).put (some 51) e51).put (some 52) e52).put (some 47) e47).put (some 53) e53).put (some 54) e54).put (some 13) e13).put (some 12) (.pointer (some ⟨B, 0, none⟩))) ∧ BX X' B a8 c8 f 0 true b8 d8 CT ∧ Below x5.heap.size x5 X') ?_ ?_
    rotate_left
    · subst hA
      obtain ⟨y0, hv0⟩ : ∃ X, x5.drew = X := ⟨_, rfl⟩
      have HVD : Hid (Below x5.heap.size x5 y0) := by rw [Hid, ← hv0]; exact (Below.refl _ _).drew
      have HS : Hid (∀ X, Below y0.heap.size y0 X → (fun X : World => X.cell? ⟨w3.heap.size, 0, none⟩ = some (.slice a3 f.length c3) ∧ X.cell? ⟨w3.heap.size, 1, none⟩ = some (.int .i64 0) ∧ X.cell? ⟨w3.heap.size, 2, none⟩ = some (.bool false) ∧ X.cell? ⟨w3.heap.size, 3, none⟩ = some (.slice none 0 0)) X) := fun X h => (X6.out.below (HVD.out.then h)).cellsK (n := f.length) (k := 0) rfl rfl
      refine wp_region_noPanic ?_
      refine wp_region_held_drew (S := fun X : World => X.cell? ⟨w3.heap.size, 0, none⟩ = some (.slice a3 f.length c3) ∧ X.cell? ⟨w3.heap.size, 1, none⟩ = some (.int .i64 0) ∧ X.cell? ⟨w3.heap.size, 2, none⟩ = some (.bool false) ∧ X.cell? ⟨w3.heap.size, 3, none⟩ = some (.slice none 0 0)) (by kernel_rfl) (by rw [hv0]; exact HS.out _ (Below.refl _ _)) (fun hSd => ?_)
      rw [hv0] at hSd ⊢
      clear hv0
      have HZ0 := mkHid (Below.refl y0.heap.size y0)
      refine wpAnyH_take (i := 0) (oi := _) (v := ?_) rfl (by kernel_rfl) (by kernel_rfl) (by kernel_rfl) (fun _ _ _ h => h) (Or.inl ⟨by rfl, ?_⟩) (by assumption) ?_
      rotate_left
      · (intro w' hSw; obtain ⟨z0, z1, z2, z3⟩ := hSw; go_simp; try with_reducible rfl)
      (try simp only [List.getElem_toArray, List.getElem_cons_succ, List.getElem_cons_zero, Act.put, List.setIfInBounds_toArray, List.set_cons_zero, List.set_cons_succ])
      refine wpAnyH_take (i := 1) (oi := _) (v := ?_) rfl (by kernel_rfl) (by kernel_rfl) (by kernel_rfl) (fun _ _ _ h => h) (Or.inl ⟨by rfl, ?_⟩) (by assumption) ?_
      rotate_left
      · (intro w' hSw; obtain ⟨z0, z1, z2, z3⟩ := hSw; go_simp; try with_reducible rfl)
      (try simp only [List.getElem_toArray, List.getElem_cons_succ, List.getElem_cons_zero, Act.put, List.setIfInBounds_toArray, List.set_cons_zero, List.set_cons_succ])
      refine wpAnyH_take (i := 2) (oi := _) (v := ?_) rfl (by kernel_rfl) (by kernel_rfl) (by kernel_rfl) (fun _ _ _ h => h) (Or.inl ⟨by rfl, ?_⟩) (by assumption) ?_
      rotate_left
      · (intro w' hSw; obtain ⟨z0, z1, z2, z3⟩ := hSw; go_simp; try with_reducible rfl)
      (try simp only [List.getElem_toArray, List.getElem_cons_succ, List.getElem_cons_zero, Act.put, List.setIfInBounds_toArray, List.set_cons_zero, List.set_cons_succ])
      refine wpAnyH_take (i := 3) (oi := _) (v := ?_) rfl (by kernel_rfl) (by kernel_rfl) (by kernel_rfl) (fun _ _ _ h => h) (Or.inl ⟨by rfl, ?_⟩) (by assumption) ?_
      rotate_left
      · (intro w' hSw; obtain ⟨z0, z1, z2, z3⟩ := hSw; go_simp; try with_reducible rfl)
      (try simp only [List.getElem_toArray, List.getElem_cons_succ, List.getElem_cons_zero, Act.put, List.setIfInBounds_toArray, List.set_cons_zero, List.set_cons_succ])
      refine wpAnyH_ready (rs := [4, 8]) (by kernel_rfl) (by simp) ?_
      refine AllReadyH.cons (o := _) rfl (fun K hK => ?_) ?_
      · skip
        go_simp
        refine (begun_any _ a3 c3 f 0 none 0 a' cap' T ⟨(X6.out.below (HVD.out.then HZ0.out)).2.f, (X6.out.below (HVD.out.then HZ0.out)).2.t⟩ HF.out (HRT.out _ (HVD.out.then HZ0.out)) CT HCT).mono ?_
        rintro e u1 ⟨a8, c8, b8, d8, p9, q9, rfl, hbr, hdn, hfa, hb⟩
        have R3 := mkHid hbr
        have HZ1 := mkHid (HZ0.out.then hb)
        clear hbr hb hdn hfa
        try dsimp only
        refine hK.out _ _ (HS.out _ HZ1.out) (fun hS1 => ?_)
        clear hK K
        (try simp only [List.getElem_toArray, List.getElem_cons_succ, List.getElem_cons_zero, Act.put, List.setIfInBounds_toArray, List.set_cons_zero, List.set_cons_succ])
        refine wpAnyH_take (i := 5) (oi := _) (v := ?_) rfl (by kernel_rfl) (by kernel_rfl) (by kernel_rfl) (fun _ _ _ h => h) (Or.inl ⟨by rfl, ?_⟩) (by assumption) ?_
        rotate_left
        · (intro w' hSw; obtain ⟨z0, z1, z2, z3⟩ := hSw; go_simp; try with_reducible rfl)
        (try simp only [List.getElem_toArray, List.getElem_cons_succ, List.getElem_cons_zero, Act.put, List.setIfInBounds_toArray, List.set_cons_zero, List.set_cons_succ])
        refine wpAnyH_take (i := 6) (oi := _) (v := ?_) rfl (by kernel_rfl) (by kernel_rfl) (by kernel_rfl) (fun _ _ _ h => h) (Or.inl ⟨by rfl, ?_⟩) (by assumption) ?_
        rotate_left
        · (intro w' hSw; obtain ⟨z0, z1, z2, z3⟩ := hSw; go_simp; try with_reducible rfl)
        (try simp only [List.getElem_toArray, List.getElem_cons_succ, List.getElem_cons_zero, Act.put, List.setIfInBounds_toArray, List.set_cons_zero, List.set_cons_succ])
        refine wpAnyH_take (i := 7) (oi := _) (v := ?_) rfl (by kernel_rfl) (by kernel_rfl) (by kernel_rfl) (fun _ _ _ h => h) (Or.inl ⟨by rfl, ?_⟩) (by assumption) ?_
        rotate_left
        · (intro w' hSw; obtain ⟨z0, z1, z2, z3⟩ := hSw; go_simp; try with_reducible rfl)
        (try simp only [List.getElem_toArray, List.getElem_cons_succ, List.getElem_cons_zero, Act.put, List.setIfInBounds_toArray, List.set_cons_zero, List.set_cons_succ])
        refine wpAnyH_ready (rs := [8]) (by kernel_rfl) (by simp) ?_
        refine AllReadyH.cons (o := _) rfl (fun K hK => ?_) AllReadyH.nil
        go_simp
        obtain ⟨u2, hu2⟩ : ∃ X, u1.alloc (.cells #[.slice none 0 0, .int .i64 0, .bool false, .slice none 0 0] 25) = X := ⟨_, rfl⟩
        have hba : Below u1.heap.size u1 u2 := by rw [← hu2]; exact (Below.refl _ _).new _
        have HK2 : Hid (u2.heap[u1.heap.size]? = some (.cells #[.slice none 0 0, .int .i64 0, .bool false, .slice none 0 0] 25 (0, 0))) := by rw [Hid, ← hu2]; exact heap_alloc_new _ _
        have HZ2 := mkHid (HZ1.out.then hba)
        replace R3 := mkHid (R3.out.below hba)
        first | rw [hu2] | skip
        clear hu2 hba
        try dsimp only
        refine hK.out _ _ (HS.out _ HZ2.out) (fun hS2 => ?_)
        clear hK K
        (try simp only [List.getElem_toArray, List.getElem_cons_succ, List.getElem_cons_zero, Act.put, List.setIfInBounds_toArray, List.set_cons_zero, List.set_cons_succ])
        refine wpAnyH_ready (rs := [9]) (by kernel_rfl) (by simp) ?_
        refine AllReadyH.cons (o := _) rfl (fun K hK => ?_) AllReadyH.nil
        have hbz : BX u2 u1.heap.size none 0 [] 0 false none 0 [] := ⟨HK2.out, noB_row _⟩
        obtain ⟨z0, z1, z2, z3⟩ := hbz.cells
        obtain ⟨f0, f1, f2, f3⟩ := hbz.free
        go_simp
        obtain ⟨v3, hv3⟩ : ∃ X, (((u2.setCell ⟨u1.heap.size, 0, none⟩ (.slice a8 f.length c8)).setCell ⟨u1.heap.size, 1, none⟩ (.int .i64 0)).setCell ⟨u1.heap.size, 2, none⟩ (.bool true)).setCell ⟨u1.heap.size, 3, none⟩ (.slice b8 CT.length d8) = X := ⟨_, rfl⟩
        have X5 : Hid (BX v3 u1.heap.size a8 c8 f 0 true b8 d8 CT) := by rw [Hid, ← hv3]; exact hbz.storedK HNE.out R3.out (by first | rfl | trivial) (by first | rfl | trivial)
        have HZV : Hid (Below x5.heap.size x5 v3) := by rw [Hid, ← hv3]; exact below_four (HVD.out.then HZ2.out) (Nat.le_trans HVD.out.size HZ1.out.size) _ _ _ _
        have HZW : Hid (Below y0.heap.size y0 v3) := by rw [Hid, ← hv3]; exact below_four HZ2.out HZ1.out.size _ _ _ _
        first | rw [hv3] | skip
        clear hv3 hbz z0 z1 z2 z3 f0 f1 f2 f3 R3
        try dsimp only
        refine hK.out _ _ (HS.out _ HZW.out) (fun hS3 => ?_)
        clear hK K
        (try simp only [List.getElem_toArray, List.getElem_cons_succ, List.getElem_cons_zero, Act.put, List.setIfInBounds_toArray, List.set_cons_zero, List.set_cons_succ])
        refine wpAnyH_take (i := 10) (oi := _) (v := ?_) rfl (by kernel_rfl) (by kernel_rfl) (by kernel_rfl) (fun _ _ _ h => h) (Or.inl ⟨by rfl, ?_⟩) (by assumption) ?_
        rotate_left
        · (intro w' hSw; obtain ⟨z0, z1, z2, z3⟩ := hSw; go_simp; try with_reducible rfl)
        (try simp only [List.getElem_toArray, List.getElem_cons_succ, List.getElem_cons_zero, Act.put, List.setIfInBounds_toArray, List.set_cons_zero, List.set_cons_succ])
        refine wpAnyH_done (by kernel_rfl) (NoPanic.normal ?_) _
        refine ⟨rfl, ?_⟩
        (repeat apply Exists.intro)
        exact ⟨rfl, X5.out, HZV.out⟩
      refine AllReadyH.cons (o := _) rfl (fun K hK => ?_) AllReadyH.nil
      go_simp
      obtain ⟨u4, hu4⟩ : ∃ X, y0.alloc (.cells #[.slice none 0 0, .int .i64 0, .bool false, .slice none 0 0] 25) = X := ⟨_, rfl⟩
      have hba : Below y0.heap.size y0 u4 := by rw [← hu4]; exact (Below.refl _ _).new _
      have HK4 : Hid (u4.heap[y0.heap.size]? = some (.cells #[.slice none 0 0, .int .i64 0, .bool false, .slice none 0 0] 25 (0, 0))) := by rw [Hid, ← hu4]; exact heap_alloc_new _ _
      have HZ4 := mkHid (HZ0.out.then hba)
      first | rw [hu4] | skip
      clear hu4 hba
      try dsimp only
      refine hK.out _ _ (HS.out _ HZ4.out) (fun hS4 => ?_)
      clear hK K
      (try simp only [List.getElem_toArray, List.getElem_cons_succ, List.getElem_cons_zero, Act.put, List.setIfInBounds_toArray, List.set_cons_zero, List.set_cons_succ])
      refine wpAnyH_ready (rs := [4]) (by kernel_rfl) (by simp) ?_
      refine AllReadyH.cons (o := _) rfl (fun K hK => ?_) AllReadyH.nil
      go_simp
      refine (begun_any _ a3 c3 f 0 none 0 a' cap' T ⟨(X6.out.below (HVD.out.then HZ4.out)).2.f, (X6.out.below (HVD.out.then HZ4.out)).2.t⟩ HF.out (HRT.out _ (HVD.out.then HZ4.out)) CT HCT).mono ?_
      rintro e u5 ⟨a8, c8, b8, d8, p9, q9, rfl, hbr, hdn, hfa, hb⟩
      have R3 := mkHid hbr
      have HZ5 := mkHid (HZ4.out.then hb)
      have HK5 := mkHid ((hb.block _ (Array.getElem?_eq_some_iff.1 HK4.out).1).trans HK4.out)
      clear hbr hb hdn hfa
      try dsimp only
      refine hK.out _ _ (HS.out _ HZ5.out) (fun hS5 => ?_)
      clear hK K
      (try simp only [List.getElem_toArray, List.getElem_cons_succ, List.getElem_cons_zero, Act.put, List.setIfInBounds_toArray, List.set_cons_zero, List.set_cons_succ])
      refine wpAnyH_take (i := 5) (oi := _) (v := ?_) rfl (by kernel_rfl) (by kernel_rfl) (by kernel_rfl) (fun _ _ _ h => h) (Or.inl ⟨by rfl, ?_⟩) (by assumption) ?_
      rotate_left
      · (intro w' hSw; obtain ⟨z0, z1, z2, z3⟩ := hSw; go_simp; try with_reducible rfl)
      (try simp only [List.getElem_toArray, List.getElem_cons_succ, List.getElem_cons_zero, Act.put, List.setIfInBounds_toArray, List.set_cons_zero, List.set_cons_succ])
      refine wpAnyH_take (i := 6) (oi := _) (v := ?_) rfl (by kernel_rfl) (by kernel_rfl) (by kernel_rfl) (fun _ _ _ h => h) (Or.inl ⟨by rfl, ?_⟩) (by assumption) ?_
      rotate_left
      · (intro w' hSw; obtain ⟨z0, z1, z2, z3⟩ := hSw; go_simp; try with_reducible rfl)
      (try simp only [List.getElem_toArray, List.getElem_cons_succ, List.getElem_cons_zero, Act.put, List.setIfInBounds_toArray, List.set_cons_zero, List.set_cons_succ])
      refine wpAnyH_take (i := 7) (oi := _) (v := ?_) rfl (by kernel_rfl) (by kernel_rfl) (by kernel_rfl) (fun _ _ _ h => h) (Or.inl ⟨by rfl, ?_⟩) (by assumption) ?_
      rotate_left
      · (intro w' hSw; obtain ⟨z0, z1, z2, z3⟩ := hSw; go_simp; try with_reducible rfl)
      (try simp only [List.getElem_toArray, List.getElem_cons_succ, List.getElem_cons_zero, Act.put, List.setIfInBounds_toArray, List.set_cons_zero, List.set_cons_succ])
      refine wpAnyH_ready (rs := [9]) (by kernel_rfl) (by simp) ?_
      refine AllReadyH.cons (o := _) rfl (fun K hK => ?_) AllReadyH.nil
      have hbz : BX u5 y0.heap.size none 0 [] 0 false none 0 [] := ⟨HK5.out, noB_row _⟩
      obtain ⟨z0, z1, z2, z3⟩ := hbz.cells
      obtain ⟨f0, f1, f2, f3⟩ := hbz.free
      go_simp
      obtain ⟨v3, hv3⟩ : ∃ X, (((u5.setCell ⟨y0.heap.size, 0, none⟩ (.slice a8 f.length c8)).setCell ⟨y0.heap.size, 1, none⟩ (.int .i64 0)).setCell ⟨y0.heap.size, 2, none⟩ (.bool true)).setCell ⟨y0.heap.size, 3, none⟩ (.slice b8 CT.length d8) = X := ⟨_, rfl⟩
      have X5 : Hid (BX v3 y0.heap.size a8 c8 f 0 true b8 d8 CT) := by rw [Hid, ← hv3]; exact hbz.storedK HNE.out R3.out (by first | rfl | trivial) (by first | rfl | trivial)
      have HZV : Hid (Below x5.heap.size x5 v3) := by rw [Hid, ← hv3]; exact below_four (HVD.out.then HZ5.out) (Nat.le_trans HVD.out.size HZ0.out.size) _ _ _ _
      have HZW : Hid (Below y0.heap.size y0 v3) := by rw [Hid, ← hv3]; exact below_four HZ5.out HZ0.out.size _ _ _ _
      first | rw [hv3] | skip
      clear hv3 hbz z0 z1 z2 z3 f0 f1 f2 f3 R3
      try dsimp only
      refine hK.out _ _ (HS.out _ HZW.out) (fun hS6 => ?_)
      clear hK K
      (try simp only [List.getElem_toArray, List.getElem_cons_succ, List.getElem_cons_zero, Act.put, List.setIfInBounds_toArray, List.set_cons_zero, List.set_cons_succ])
      refine wpAnyH_take (i := 10) (oi := _) (v := ?_) rfl (by kernel_rfl) (by kernel_rfl) (by kernel_rfl) (fun _ _ _ h => h) (Or.inl ⟨by rfl, ?_⟩) (by assumption) ?_
      rotate_left
      · (intro w' hSw; obtain ⟨z0, z1, z2, z3⟩ := hSw; go_simp; try with_reducible rfl)
      (try simp only [List.getElem_toArray, List.getElem_cons_succ, List.getElem_cons_zero, Act.put, List.setIfInBounds_toArray, List.set_cons_zero, List.set_cons_succ])
      refine wpAnyH_done (by kernel_rfl) (NoPanic.normal ?_) _
      refine ⟨rfl, ?_⟩
      (repeat apply Exists.intro)
      exact ⟨rfl, X5.out, HZV.out⟩
    clear HRT HNE
    clear X6c0 X6c1 X6c2 X6c3
    rintro ev A' v8 ⟨rfl, e48, e49, e50, e51, e52, e47, e53, e54, e13, B8, a8, c8, b8, d8, rfl, hbx, hq⟩
    subst hA
    simp only [Act.put, List.setIfInBounds_toArray, List.set_cons_zero, List.set_cons_succ]
    replace HL := mkHid (HL.out.below hq)
    replace HC := mkHid (HC.out.below hq)
    replace X6 := mkHid (X6.out.below hq)
    replace RD := mkHid (RD.out.below hq)
    replace X7 := mkHid (X7.out.below hq)
    replace HB := mkHid (HB.out.then hq)
    clear hq
    have X8 := mkHid hbx
    clear hbx
    obtain ⟨X7c0, X7c1, X7c2, X7c3⟩ := X7.out.cellsK (n := f.length) (k := CS.length) rfl rfl
    go_wp2_with fail
    refine (commit_okK (n := f.length) (k := CS.length) (u := 1) X7.out.2 OK.out HBG.out (by omega) (by omega) HM (x := lessF m f) (z := lessF f m) rfl rfl rfl rfl rfl rfl rfl rfl).mono ?_
    rintro e w6 ⟨a9, c9, a10, c10, a11, c11, rfl, h9, h10, h11, hq⟩
    clear X7c0 X7c1 X7c2 X7c3
    replace HL := mkHid (HL.out.below hq)
    replace HC := mkHid (HC.out.below hq)
    replace X6 := mkHid (X6.out.below hq)
    replace RD := mkHid (RD.out.below hq)
    replace X7 := mkHid (X7.out.below hq)
    replace X8 := mkHid (X8.out.below hq)
    replace HB := mkHid (HB.out.then hq)
    clear hq
    have R9 : Hid (BR w6 a9 c9 m none 0 []) := ⟨h9, nilRow _⟩
    clear h9 h10 h11
    have hbx : Below w6.heap.size w6 (w6.alloc (.cells #[.slice a9 m.length c9, .int .i64 1, .bool false, .slice none 0 0] 25)) := (Below.refl _ _).new _
    have X9 : Hid (BX (w6.alloc (.cells #[.slice a9 m.length c9, .int .i64 1, .bool false, .slice none 0 0] 25)) w6.heap.size a9 c9 m 1 false none 0 []) := BX.madeK R9.out rfl rfl
    replace HL := mkHid (HL.out.below hbx)
    replace HC := mkHid (HC.out.below hbx)
    replace X6 := mkHid (X6.out.below hbx)
    replace RD := mkHid (RD.out.below hbx)
    replace X7 := mkHid (X7.out.below hbx)
    replace X8 := mkHid (X8.out.below hbx)
    replace HB := mkHid (HB.out.then hbx)
    clear hbx
    clear R9
    obtain ⟨X8c0, X8c1, X8c2, X8c3⟩ := X8.out.cellsK (n := f.length) (k := CT.length) rfl rfl
    go_wp2_with fail
    refine (commit_okK (n := f.length) (k := CT.length) (u := 1) X8.out.2 OKT.out HBT.out (by omega) (by omega) HM2 (x := lessF m2 f) (z := lessF f m2) rfl rfl rfl rfl rfl rfl rfl rfl).mono ?_
    rintro e w7 ⟨a12, c12, a13, c13, a14, c14, rfl, h9, h10, h11, hq⟩
    clear X8c0 X8c1 X8c2 X8c3
    replace HL := mkHid (HL.out.below hq)
    replace HC := mkHid (HC.out.below hq)
    replace X6 := mkHid (X6.out.below hq)
    replace RD := mkHid (RD.out.below hq)
    replace X7 := mkHid (X7.out.below hq)
    replace X8 := mkHid (X8.out.below hq)
    replace X9 := mkHid (X9.out.below hq)
    replace HB := mkHid (HB.out.then hq)
    clear hq
    have R10 : Hid (BR w7 a12 c12 m2 none 0 []) := ⟨h9, nilRow _⟩
    clear h9 h10 h11
    have hbx : Below w7.heap.size w7 (w7.alloc (.cells #[.slice a12 m2.length c12, .int .i64 1, .bool false, .slice none 0 0] 25)) := (Below.refl _ _).new _
    have X10 : Hid (BX (w7.alloc (.cells #[.slice a12 m2.length c12, .int .i64 1, .bool false, .slice none 0 0] 25)) w7.heap.size a12 c12 m2 1 false none 0 []) := BX.madeK R10.out rfl rfl
    replace HL := mkHid (HL.out.below hbx)
    replace HC := mkHid (HC.out.below hbx)
    replace X6 := mkHid (X6.out.below hbx)
    replace RD := mkHid (RD.out.below hbx)
    replace X7 := mkHid (X7.out.below hbx)
    replace X8 := mkHid (X8.out.below hbx)
    replace X9 := mkHid (X9.out.below hbx)
    replace HB := mkHid (HB.out.then hbx)
    clear hbx
    clear R10
    obtain ⟨X10c0, X10c1, X10c2, X10c3⟩ := X10.out.cellsK (n := m2.length) (k := 0) rfl rfl
    have HNE : Hid (NEf m2 ∧ NEt CD) := OKD.out.ne
    have HRD : Hid (∀ X, Below (w7.alloc (.cells #[.slice a12 m2.length c12, .int .i64 1, .bool false, .slice none 0 0] 25)).heap.size (w7.alloc (.cells #[.slice a12 m2.length c12, .int .i64 1, .bool false, .slice none 0 0] 25)) X → Row X aD (cap' - T.length) D) := fun X h => HDK.out _ (HC.out.below h)
    go_wp2_with fail
    generalize hA : Act.mk _ _ = A0
    refine Code.wp_mono (Q := fun ev A' X' => ev = .normal ∧ ∃ (e70 e71 e72 e73 e74 e69 e75 e76 e23 : Value) (B : Nat) (a15 : Option Addr) (c15 : Nat) (b15 : Option Addr) (d15 : Nat), A' = ((((((((((A0.put (some 70) e70).put (some 71) e71).put (some 72) e72).put (some 73) e73).put (some 74) e74).put (some 69) e69).put (some 75) e75).put (some 76) e76).put (some 23) e23).put (some 22) (.pointer (some ⟨B, 0, none⟩))) ∧ BX X' B a15 c15 m2 1 true b15 d15 CD ∧ Below (w7.alloc (.cells #[.slice a12 m2.length c12, .int .i64 1, .bool false, .slice none 0 0] 25)).heap.size (w7.alloc (.cells #[.slice a12 m2.length c12, .int .i64 1, .bool false, .slice none 0 0] 25)) X') ?_ ?_
    rotate_left
    · subst hA
      obtain ⟨y0, hv0⟩ : ∃ X, (w7.alloc (.cells #[.slice a12 m2.length c12, .int .i64 1, .bool false, .slice none 0 0] 25)).drew = X := ⟨_, rfl⟩
      have HVD : Hid (Below (w7.alloc (.cells #[.slice a12 m2.length c12, .int .i64 1, .bool false, .slice none 0 0] 25)).heap.size (w7.alloc (.cells #[.slice a12 m2.length c12, .int .i64 1, .bool false, .slice none 0 0] 25)) y0) := by rw [Hid, ← hv0]; exact (Below.refl _ _).drew
      have HS : Hid (∀ X, Below y0.heap.size y0 X → (fun X : World => X.cell? ⟨w7.heap.size, 0, none⟩ = some (.slice a12 m2.length c12) ∧ X.cell? ⟨w7.heap.size, 1, none⟩ = some (.int .i64 1) ∧ X.cell? ⟨w7.heap.size, 2, none⟩ = some (.bool false) ∧ X.cell? ⟨w7.heap.size, 3, none⟩ = some (.slice none 0 0)) X) := fun X h => (X10.out.below (HVD.out.then h)).cellsK (n := m2.length) (k := 0) rfl rfl
      refine wp_region_noPanic ?_
      refine wp_region_held_drew (S := fun X : World => X.cell? ⟨w7.heap.size, 0, none⟩ = some (.slice a12 m2.length c12) ∧ X.cell? ⟨w7.heap.size, 1, none⟩ = some (.int .i64 1) ∧ X.cell? ⟨w7.heap.size, 2, none⟩ = some (.bool false) ∧ X.cell? ⟨w7.heap.size, 3, none⟩ = some (.slice none 0 0)) (by kernel_rfl) (by rw [hv0]; exact HS.out _ (Below.refl _ _)) (fun hSd => ?_)
      rw [hv0] at hSd ⊢
      clear hv0
      have HZ0 := mkHid (Below.refl y0.heap.size y0)
      refine wpAnyH_take (i := 0) (oi := _) (v := ?_) rfl (by kernel_rfl) (by kernel_rfl) (by kernel_rfl) (fun _ _ _ h => h) (Or.inl ⟨by rfl, ?_⟩) (by assumption) ?_
      rotate_left
      · (intro w' hSw; obtain ⟨z0, z1, z2, z3⟩ := hSw; go_simp; try with_reducible rfl)
      (try simp only [List.getElem_toArray, List.getElem_cons_succ, List.getElem_cons_zero, Act.put, List.setIfInBounds_toArray, List.set_cons_zero, List.set_cons_succ])
      refine wpAnyH_take (i := 1) (oi := _) (v := ?_) rfl (by kernel_rfl) (by kernel_rfl) (by kernel_rfl) (fun _ _ _ h => h) (Or.inl ⟨by rfl, ?_⟩) (by assumption) ?_
      rotate_left
      · (intro w' hSw; obtain ⟨z0, z1, z2, z3⟩ := hSw; go_simp; try with_reducible rfl)
      (try simp only [List.getElem_toArray, List.getElem_cons_succ, List.getElem_cons_zero, Act.put, List.setIfInBounds_toArray, List.set_cons_zero, List.set_cons_succ])
      refine wpAnyH_take (i := 2) (oi := _) (v := ?_) rfl (by kernel_rfl) (by kernel_rfl) (by kernel_rfl) (fun _ _ _ h => h) (Or.inl ⟨by rfl, ?_⟩) (by assumption) ?_
      rotate_left
      · (intro w' hSw; obtain ⟨z0, z1, z2, z3⟩ := hSw; go_simp; try with_reducible rfl)
      (try simp only [List.getElem_toArray, List.getElem_cons_succ, List.getElem_cons_zero, Act.put, List.setIfInBounds_toArray, List.set_cons_zero, List.set_cons_succ])
      refine wpAnyH_take (i := 3) (oi := _) (v := ?_) rfl (by kernel_rfl) (by kernel_rfl) (by kernel_rfl) (fun _ _ _ h => h) (Or.inl ⟨by rfl, ?_⟩) (by assumption) ?_
      rotate_left
      · (intro w' hSw; obtain ⟨z0, z1, z2, z3⟩ := hSw; go_simp; try with_reducible rfl)
      (try simp only [List.getElem_toArray, List.getElem_cons_succ, List.getElem_cons_zero, Act.put, List.setIfInBounds_toArray, List.set_cons_zero, List.set_cons_succ])
      refine wpAnyH_ready (rs := [4, 8]) (by kernel_rfl) (by simp) ?_
      refine AllReadyH.cons (o := _) rfl (fun K hK => ?_) ?_
      · skip
        go_simp
        rw [← hDl]
        refine (begun_any _ a12 c12 m2 1 none 0 aD (cap' - T.length) D ⟨(X10.out.below (HVD.out.then HZ0.out)).2.f, (X10.out.below (HVD.out.then HZ0.out)).2.t⟩ HFM2.out (HRD.out _ (HVD.out.then HZ0.out)) CD HCD).mono ?_
        rintro e u1 ⟨a15, c15, b15, d15, p9, q9, rfl, hbr, hdn, hfa, hb⟩
        have R3 := mkHid hbr
        have HZ1 := mkHid (HZ0.out.then hb)
        clear hbr hb hdn hfa
        try dsimp only
        refine hK.out _ _ (HS.out _ HZ1.out) (fun hS1 => ?_)
        clear hK K
        (try simp only [List.getElem_toArray, List.getElem_cons_succ, List.getElem_cons_zero, Act.put, List.setIfInBounds_toArray, List.set_cons_zero, List.set_cons_succ])
        refine wpAnyH_take (i := 5) (oi := _) (v := ?_) rfl (by kernel_rfl) (by kernel_rfl) (by kernel_rfl) (fun _ _ _ h => h) (Or.inl ⟨by rfl, ?_⟩) (by assumption) ?_
        rotate_left
        · (intro w' hSw; obtain ⟨z0, z1, z2, z3⟩ := hSw; go_simp; try with_reducible rfl)
        (try simp only [List.getElem_toArray, List.getElem_cons_succ, List.getElem_cons_zero, Act.put, List.setIfInBounds_toArray, List.set_cons_zero, List.set_cons_succ])
        refine wpAnyH_take (i := 6) (oi := _) (v := ?_) rfl (by kernel_rfl) (by kernel_rfl) (by kernel_rfl) (fun _ _ _ h => h) (Or.inl ⟨by rfl, ?_⟩) (by assumption) ?_
        rotate_left
        · (intro w' hSw; obtain ⟨z0, z1, z2, z3⟩ := hSw; go_simp; try with_reducible rfl)
        (try simp only [List.getElem_toArray, List.getElem_cons_succ, List.getElem_cons_zero, Act.put, List.setIfInBounds_toArray, List.set_cons_zero, List.set_cons_succ])
        refine wpAnyH_take (i := 7) (oi := _) (v := ?_) rfl (by kernel_rfl) (by kernel_rfl) (by kernel_rfl) (fun _ _ _ h => h) (Or.inl ⟨by rfl, ?_⟩) (by assumption) ?_
        rotate_left
        · (intro w' hSw; obtain ⟨z0, z1, z2, z3⟩ := hSw; go_simp; try with_reducible rfl)
        (try simp only [List.getElem_toArray, List.getElem_cons_succ, List.getElem_cons_zero, Act.put, List.setIfInBounds_toArray, List.set_cons_zero, List.set_cons_succ])
        refine wpAnyH_ready (rs := [8]) (by kernel_rfl) (by simp) ?_
        refine AllReadyH.cons (o := _) rfl (fun K hK => ?_) AllReadyH.nil
        go_simp
        obtain ⟨u2, hu2⟩ : ∃ X, u1.alloc (.cells #[.slice none 0 0, .int .i64 0, .bool false, .slice none 0 0] 25) = X := ⟨_, rfl⟩
        have hba : Below u1.heap.size u1 u2 := by rw [← hu2]; exact (Below.refl _ _).new _
        have HK2 : Hid (u2.heap[u1.heap.size]? = some (.cells #[.slice none 0 0, .int .i64 0, .bool false, .slice none 0 0] 25 (0, 0))) := by rw [Hid, ← hu2]; exact heap_alloc_new _ _
        have HZ2 := mkHid (HZ1.out.then hba)
        replace R3 := mkHid (R3.out.below hba)
        first | rw [hu2] | skip
        clear hu2 hba
        try dsimp only
        refine hK.out _ _ (HS.out _ HZ2.out) (fun hS2 => ?_)
        clear hK K
        (try simp only [List.getElem_toArray, List.getElem_cons_succ, List.getElem_cons_zero, Act.put, List.setIfInBounds_toArray, List.set_cons_zero, List.set_cons_succ])
        refine wpAnyH_ready (rs := [9]) (by kernel_rfl) (by simp) ?_
        refine AllReadyH.cons (o := _) rfl (fun K hK => ?_) AllReadyH.nil
        have hbz : BX u2 u1.heap.size none 0 [] 0 false none 0 [] := ⟨HK2.out, noB_row _⟩
        obtain ⟨z0, z1, z2, z3⟩ := hbz.cells
        obtain ⟨f0, f1, f2, f3⟩ := hbz.free
        go_simp
        obtain ⟨v3, hv3⟩ : ∃ X, (((u2.setCell ⟨u1.heap.size, 0, none⟩ (.slice a15 m2.length c15)).setCell ⟨u1.heap.size, 1, none⟩ (.int .i64 1)).setCell ⟨u1.heap.size, 2, none⟩ (.bool true)).setCell ⟨u1.heap.size, 3, none⟩ (.slice b15 CD.length d15) = X := ⟨_, rfl⟩
        have X5 : Hid (BX v3 u1.heap.size a15 c15 m2 1 true b15 d15 CD) := by rw [Hid, ← hv3]; exact hbz.storedK HNE.out R3.out (by first | rfl | trivial) (by first | rfl | trivial)
        have HZV : Hid (Below (w7.alloc (.cells #[.slice a12 m2.length c12, .int .i64 1, .bool false, .slice none 0 0] 25)).heap.size (w7.alloc (.cells #[.slice a12 m2.length c12, .int .i64 1, .bool false, .slice none 0 0] 25)) v3) := by rw [Hid, ← hv3]; exact below_four (HVD.out.then HZ2.out) (Nat.le_trans HVD.out.size HZ1.out.size) _ _ _ _
        have HZW : Hid (Below y0.heap.size y0 v3) := by rw [Hid, ← hv3]; exact below_four HZ2.out HZ1.out.size _ _ _ _
        first | rw [hv3] | skip
        clear hv3 hbz z0 z1 z2 z3 f0 f1 f2 f3 R3
        try dsimp only
        refine hK.out _ _ (HS.out _ HZW.out) (fun hS3 => ?_)
        clear hK K
        (try simp only [List.getElem_toArray, List.getElem_cons_succ, List.getElem_cons_zero, Act.put, List.setIfInBounds_toArray, List.set_cons_zero, List.set_cons_succ])
        refine wpAnyH_take (i := 10) (oi := _) (v := ?_) rfl (by kernel_rfl) (by kernel_rfl) (by kernel_rfl) (fun _ _ _ h => h) (Or.inl ⟨by rfl, ?_⟩) (by assumption) ?_
        rotate_left
        · (intro w' hSw; obtain ⟨z0, z1, z2, z3⟩ := hSw; go_simp; try with_reducible rfl)
        (try simp only [List.getElem_toArray, List.getElem_cons_succ, List.getElem_cons_zero, Act.put, List.setIfInBounds_toArray, List.set_cons_zero, List.set_cons_succ])
        refine wpAnyH_done (by kernel_rfl) (NoPanic.normal ?_) _
        refine ⟨rfl, ?_⟩
        (repeat apply Exists.intro)
        exact ⟨rfl, X5.out, HZV.out⟩
      refine AllReadyH.cons (o := _) rfl (fun K hK => ?_) AllReadyH.nil
      go_simp
      obtain ⟨u4, hu4⟩ : ∃ X, y0.alloc (.cells #[.slice none 0 0, .int .i64 0, .bool false, .slice none 0 0] 25) = X := ⟨_, rfl⟩
      have hba : Below y0.heap.size y0 u4 := by rw [← hu4]; exact (Below.refl _ _).new _
      have HK4 : Hid (u4.heap[y0.heap.size]? = some (.cells #[.slice none 0 0, .int .i64 0, .bool false, .slice none 0 0] 25 (0, 0))) := by rw [Hid, ← hu4]; exact heap_alloc_new _ _
      have HZ4 := mkHid (HZ0.out.then hba)
      first | rw [hu4] | skip
      clear hu4 hba
      try dsimp only
      refine hK.out _ _ (HS.out _ HZ4.out) (fun hS4 => ?_)
      clear hK K
      (try simp only [List.getElem_toArray, List.getElem_cons_succ, List.getElem_cons_zero, Act.put, List.setIfInBounds_toArray, List.set_cons_zero, List.set_cons_succ])
      refine wpAnyH_ready (rs := [4]) (by kernel_rfl) (by simp) ?_
      refine AllReadyH.cons (o := _) rfl (fun K hK => ?_) AllReadyH.nil
      go_simp
      rw [← hDl]
      refine (begun_any _ a12 c12 m2 1 none 0 aD (cap' - T.length) D ⟨(X10.out.below (HVD.out.then HZ4.out)).2.f, (X10.out.below (HVD.out.then HZ4.out)).2.t⟩ HFM2.out (HRD.out _ (HVD.out.then HZ4.out)) CD HCD).mono ?_
      rintro e u5 ⟨a15, c15, b15, d15, p9, q9, rfl, hbr, hdn, hfa, hb⟩
      have R3 := mkHid hbr
      have HZ5 := mkHid (HZ4.out.then hb)
      have HK5 := mkHid ((hb.block _ (Array.getElem?_eq_some_iff.1 HK4.out).1).trans HK4.out)
      clear hbr hb hdn hfa
      try dsimp only
      refine hK.out _ _ (HS.out _ HZ5.out) (fun hS5 => ?_)
      clear hK K
      (try simp only [List.getElem_toArray, List.getElem_cons_succ, List.getElem_cons_zero, Act.put, List.setIfInBounds_toArray, List.set_cons_zero, List.set_cons_succ])
      refine wpAnyH_take (i := 5) (oi := _) (v := ?_) rfl (by kernel_rfl) (by kernel_rfl) (by kernel_rfl) (fun _ _ _ h => h) (Or.inl ⟨by rfl, ?_⟩) (by assumption) ?_
      rotate_left
      · (intro w' hSw; obtain ⟨z0, z1, z2, z3⟩ := hSw; go_simp; try with_reducible rfl)
      (try simp only [List.getElem_toArray, List.getElem_cons_succ, List.getElem_cons_zero, Act.put, List.setIfInBounds_toArray, List.set_cons_zero, List.set_cons_succ])
      refine wpAnyH_take (i := 6) (oi := _) (v := ?_) rfl (by kernel_rfl) (by kernel_rfl) (by kernel_rfl) (fun _ _ _ h => h) (Or.inl ⟨by rfl, ?_⟩) (by assumption) ?_
      rotate_left
      · (intro w' hSw; obtain ⟨z0, z1, z2, z3⟩ := hSw; go_simp; try with_reducible rfl)
      (try simp only [List.getElem_toArray, List.getElem_cons_succ, List.getElem_cons_zero, Act.put, List.setIfInBounds_toArray, List.set_cons_zero, List.set_cons_succ])
      refine wpAnyH_take (i := 7) (oi := _) (v := ?_) rfl (by kernel_rfl) (by kernel_rfl) (by kernel_rfl) (fun _ _ _ h => h) (Or.inl ⟨by rfl, ?_⟩) (by assumption) ?_
      rotate_left
      · (intro w' hSw; obtain ⟨z0, z1, z2, z3⟩ := hSw; go_simp; try with_reducible rfl)
      (try simp only [List.getElem_toArray, List.getElem_cons_succ, List.getElem_cons_zero, Act.put, List.setIfInBounds_toArray, List.set_cons_zero, List.set_cons_succ])
      refine wpAnyH_ready (rs := [9]) (by kernel_rfl) (by simp) ?_
      refine AllReadyH.cons (o := _) rfl (fun K hK => ?_) AllReadyH.nil
      have hbz : BX u5 y0.heap.size none 0 [] 0 false none 0 [] := ⟨HK5.out, noB_row _⟩
      obtain ⟨z0, z1, z2, z3⟩ := hbz.cells
      obtain ⟨f0, f1, f2, f3⟩ := hbz.free
      go_simp
      obtain ⟨v3, hv3⟩ : ∃ X, (((u5.setCell ⟨y0.heap.size, 0, none⟩ (.slice a15 m2.length c15)).setCell ⟨y0.heap.size, 1, none⟩ (.int .i64 1)).setCell ⟨y0.heap.size, 2, none⟩ (.bool true)).setCell ⟨y0.heap.size, 3, none⟩ (.slice b15 CD.length d15) = X := ⟨_, rfl⟩
      have X5 : Hid (BX v3 y0.heap.size a15 c15 m2 1 true b15 d15 CD) := by rw [Hid, ← hv3]; exact hbz.storedK HNE.out R3.out (by first | rfl | trivial) (by first | rfl | trivial)
      have HZV : Hid (Below (w7.alloc (.cells #[.slice a12 m2.length c12, .int .i64 1, .bool false, .slice none 0 0] 25)).heap.size (w7.alloc (.cells #[.slice a12 m2.length c12, .int .i64 1, .bool false, .slice none 0 0] 25)) v3) := by rw [Hid, ← hv3]; exact below_four (HVD.out.then HZ5.out) (Nat.le_trans HVD.out.size HZ0.out.size) _ _ _ _
      have HZW : Hid (Below y0.heap.size y0 v3) := by rw [Hid, ← hv3]; exact below_four HZ5.out HZ0.out.size _ _ _ _
      first | rw [hv3] | skip
      clear hv3 hbz z0 z1 z2 z3 f0 f1 f2 f3 R3
      try dsimp only
      refine hK.out _ _ (HS.out _ HZW.out) (fun hS6 => ?_)
      clear hK K
      (try simp only [List.getElem_toArray, List.getElem_cons_succ, List.getElem_cons_zero, Act.put, List.setIfInBounds_toArray, List.set_cons_zero, List.set_cons_succ])
      refine wpAnyH_take (i := 10) (oi := _) (v := ?_) rfl (by kernel_rfl) (by kernel_rfl) (by kernel_rfl) (fun _ _ _ h => h) (Or.inl ⟨by rfl, ?_⟩) (by assumption) ?_
      rotate_left
      · (intro w' hSw; obtain ⟨z0, z1, z2, z3⟩ := hSw; go_simp; try with_reducible rfl)
      (try simp only [List.getElem_toArray, List.getElem_cons_succ, List.getElem_cons_zero, Act.put, List.setIfInBounds_toArray, List.set_cons_zero, List.set_cons_succ])
      refine wpAnyH_done (by kernel_rfl) (NoPanic.normal ?_) _
      refine ⟨rfl, ?_⟩
      (repeat apply Exists.intro)
      exact ⟨rfl, X5.out, HZV.out⟩
    clear HRD HNE
    clear X10c0 X10c1 X10c2 X10c3
    rintro ev A' v11 ⟨rfl, e70, e71, e72, e73, e74, e69, e75, e76, e23, B11, a15, c15, b15, d15, rfl, hbx, hq⟩
    subst hA
    simp only [Act.put, List.setIfInBounds_toArray, List.set_cons_zero, List.set_cons_succ]
    replace HL := mkHid (HL.out.below hq)
    replace HC := mkHid (HC.out.below hq)
    replace X6 := mkHid (X6.out.below hq)
    replace RD := mkHid (RD.out.below hq)
    replace X7 := mkHid (X7.out.below hq)
    replace X8 := mkHid (X8.out.below hq)
    replace X9 := mkHid (X9.out.below hq)
    replace X10 := mkHid (X10.out.below hq)
    replace HB := mkHid (HB.out.then hq)
    clear hq
    have X11 := mkHid hbx
    clear hbx
    obtain ⟨X11c0, X11c1, X11c2, X11c3⟩ := X11.out.cellsK (n := m2.length) (k := CD.length) rfl rfl
    go_wp2_with fail
    refine (commit_okK (n := m2.length) (k := CD.length) (u := 2) X11.out.2 OKD.out HBD.out (by omega) (by omega) HM3 (x := lessF m m2) (z := lessF m2 m) rfl rfl rfl rfl rfl rfl rfl rfl).mono ?_
    rintro e w8 ⟨a16, c16, a17, c17, a18, c18, rfl, h9, h10, h11, hq⟩
    clear X11c0 X11c1 X11c2 X11c3
    replace HL := mkHid (HL.out.below hq)
    replace HC := mkHid (HC.out.below hq)
    replace X6 := mkHid (X6.out.below hq)
    replace RD := mkHid (RD.out.below hq)
    replace X7 := mkHid (X7.out.below hq)
    replace X8 := mkHid (X8.out.below hq)
    replace X9 := mkHid (X9.out.below hq)
    replace X10 := mkHid (X10.out.below hq)
    replace X11 := mkHid (X11.out.below hq)
    replace HB := mkHid (HB.out.then hq)
    clear hq
    have R12 : Hid (BR w8 a16 c16 m none 0 []) := ⟨h9, nilRow _⟩
    clear h9 h10 h11
    have hbx : Below w8.heap.size w8 (w8.alloc (.cells #[.slice a16 m.length c16, .int .i64 2, .bool false, .slice none 0 0] 25)) := (Below.refl _ _).new _
    have X12 : Hid (BX (w8.alloc (.cells #[.slice a16 m.length c16, .int .i64 2, .bool false, .slice none 0 0] 25)) w8.heap.size a16 c16 m 2 false none 0 []) := BX.madeK R12.out rfl rfl
    replace HL := mkHid (HL.out.below hbx)
    replace HC := mkHid (HC.out.below hbx)
    replace X6 := mkHid (X6.out.below hbx)
    replace RD := mkHid (RD.out.below hbx)
    replace X7 := mkHid (X7.out.below hbx)
    replace X8 := mkHid (X8.out.below hbx)
    replace X9 := mkHid (X9.out.below hbx)
    replace X10 := mkHid (X10.out.below hbx)
    replace X11 := mkHid (X11.out.below hbx)
    replace HB := mkHid (HB.out.then hbx)
    clear hbx
    clear R12
    obtain ⟨X9c0, X9c1, X9c2, X9c3⟩ := X9.out.cellsK (n := m.length) (k := 0) rfl rfl
    obtain ⟨X12c0, X12c1, X12c2, X12c3⟩ := X12.out.cellsK (n := m.length) (k := 0) rfl rfl
    go_wp2_with fail
    refine (sameall_lit (n := m.length) (m := m.length) rfl X9.out.2.f rfl X12.out.2.f (decide_eq_true rfl)).mono ?_
    rintro e w9 ⟨rfl, hq⟩
    clear X9c0 X9c1 X9c2 X9c3
    clear X12c0 X12c1 X12c2 X12c3
    replace HL := mkHid (HL.out.below hq)
    replace HC := mkHid (HC.out.below hq)
    replace X6 := mkHid (X6.out.below hq)
    replace RD := mkHid (RD.out.below hq)
    replace X7 := mkHid (X7.out.below hq)
    replace X8 := mkHid (X8.out.below hq)
    replace X9 := mkHid (X9.out.below hq)
    replace X10 := mkHid (X10.out.below hq)
    replace X11 := mkHid (X11.out.below hq)
    replace X12 := mkHid (X12.out.below hq)
    replace HB := mkHid (HB.out.then hq)
    clear hq
    obtain ⟨X9c0, X9c1, X9c2, X9c3⟩ := X9.out.cellsK (n := m.length) (k := 0) rfl rfl
    obtain ⟨X12c0, X12c1, X12c2, X12c3⟩ := X12.out.cellsK (n := m.length) (k := 0) rfl rfl
    go_wp2_with fail
    go_ret
    exact ⟨rfl, HB.out⟩
end Go.Proofs.Ytnpffificfghpaa
namespace Go.Proofs.Ytnpffificfghpaa
open Go.RowKit Go.ChangeShapes Go.WideShapes Go.ChangeAt
open Go.ChangeMaps (open_string)

set_option maxRecDepth 100000 in
set_option maxHeartbeats 1000000 in
theorem TransParts_lifted (os : Os) (started : os.Started) (H : Type) (enc : TypeId × Value → H) :
    ReturnsInHanded {} Try.checked os 8 .any (Rows.transPartsSpec.pre6 enc Try.prog Try.f8 Rows.transPartsRow.domain false) (Rows.transPartsSpec.post enc Try.prog Try.f8 false true false false) := by
  refine returnsInHanded_of_change (C := Try.checked) Try.own started (by kernel_rfl) Try.func8
    (ChangeSpec.witness6 (enc := enc) (C := Try.checked) false ⟨#[], #[.slice none 0 0, .slice none 0 0, .int .u8 0], []⟩ 8 (by kernel_rfl) (by kernel_rfl) (by kernel_rfl) (by kernel_rfl)) ?_
  intro W base args ds gs before hval0 hW hcnd _
  have hval : ∀ (j : Nat) t v, Try.f8.params[j]? = some t → args[j]? = some v → Value.okWide Try.prog W .any base t v := hval0
  have hW' := hW
  obtain ⟨p, q, hA0, hV, rfl, hfz, hnd⟩ := hW
  have hA : DataW.TrodAll enc Try.prog W 0 (fun _ => true) true Try.f8.params.toList args.toList ds p := hA0
  rw [Try.params8] at hA hval
  obtain ⟨v0, vs0, d0, ds0, p0, q0, hargs, rfl, rfl, h0, r0⟩ := trodAll_cons hA
  obtain ⟨v1, vs1, d1, ds1, p1, q1, rfl, rfl, rfl, h1, r1⟩ := trodAll_cons r0
  obtain ⟨v2, vs2, d2, ds2, p2, q2, rfl, rfl, rfl, h2, r2⟩ := trodAll_cons r1
  obtain ⟨rfl, rfl, rfl⟩ := trodAll_nil r2
  obtain rfl : args = #[v0, v1, v2] := by cases args; simp_all
  obtain ⟨rfl, rfl⟩ := trodVars_none hV
  have k0 := h0
  have lt0 : ∀ x ∈ p0, x.block < W.heap.size := by obtain ⟨m, hm⟩ := k0; exact DataW.trod_lt m _ _ _ hm
  obtain ⟨a0, len0, cap0, rfl⟩ := okWide_slice Try.underlying22 (hval 0 22 v0 rfl rfl)
  obtain ⟨xs0, rfl, hr0⟩ : ∃ xs : List (List Cel), xs.length = len0 ∧ Row W a0 cap0 xs := by
    obtain ⟨fuel, hf⟩ := h0
    exact open_cellss hf
  have k1 := h1
  have lt1 : ∀ x ∈ p1, x.block < W.heap.size := by obtain ⟨m, hm⟩ := k1; exact DataW.trod_lt m _ _ _ hm
  obtain ⟨a1, len1, cap1, rfl⟩ := okWide_slice Try.underlying23 (hval 1 23 v1 rfl rfl)
  obtain ⟨xs1, rfl, hr1⟩ : ∃ xs : List Lt, xs.length = len1 ∧ Row W a1 cap1 xs := by
    obtain ⟨fuel, hf⟩ := h1
    exact open_chgs13 hf
  have k2 := h2
  have lt2 : ∀ x ∈ p2, x.block < W.heap.size := by obtain ⟨m, hm⟩ := k2; exact DataW.trod_lt m _ _ _ hm
  obtain ⟨n2, rfl, _, _, wf2⟩ := open_int Try.underlying5 (hval 2 5 v2 rfl rfl) h2
  clear hA0 hval0
  refine (lawTParts_any head13_any a0 cap0 xs0 a1 cap1 xs1 n2 wf2 W hr0 hr1).mono fun e W' ⟨he, bel⟩ => ?_
  subst he
  exact ⟨_, rfl, _, _, _, [], _, [], hW', trodAll_mk1 (shut_bool Try.underlying4 _), (trodAll_cons_mk (Below.trod Try.laidOut (by kernel_rfl) (of_decide_eq_true (by kernel_rfl)) k0 bel lt0) (trodAll_cons_mk (Below.trod Try.laidOut (by kernel_rfl) (of_decide_eq_true (by kernel_rfl)) k1 bel lt1) (trodAll_cons_mk (Below.trod Try.laidOut (by kernel_rfl) (of_decide_eq_true (by kernel_rfl)) k2 bel lt2) trodAll_mk0))), rfl, bel.frame _, fun h => by cases h⟩

theorem TransParts_over : Rows.transPartsRow.holds Try.pinned (OpenSpec.ofChange Rows.transPartsSpec) :=
  OpenClaim.holds_of_wide 8 Try.f8 rfl rfl rfl rfl rfl rfl rfl ⟨rfl, rfl, rfl, rfl, rfl⟩ rfl rfl rfl rfl rfl (by kernel_rfl) Try.func8 (by kernel_rfl)
    (of_decide_eq_true (by kernel_rfl)) (by unfold Func.isWrapper; first | (rw [if_pos (by decide +kernel)]; kernel_rfl) | (rw [if_neg (by decide +kernel)]; exact ⟨rfl, rfl⟩))
    (fun os started H enc _ => TransParts_lifted os started H enc)

theorem TransParts_holds : Rows.TransPartsSaid := TransParts_over
end Go.Proofs.Ytnpffificfghpaa
