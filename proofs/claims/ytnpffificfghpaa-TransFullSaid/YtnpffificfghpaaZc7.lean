/-
  Of layer 13 of sorrel: whatever arguments come in, the law TransFull returns true, and what was handed in reads as it did: with more than 512 facts at any time a commit is refused, and all is as it was, still under way; room that is made ahead counts. No condition.
-/
import Derived.Test.YtnpffificfghpaaZr6
set_option linter.unusedVariables false
namespace Go.Proofs.Ytnpffificfghpaa
open Go.RowKit
theorem same13_K {w : World} {a b a' b' : Option Addr} {c d c' d' n k : Nat} {f : List (List Cel)} {v : Int} {on : Bool} {td : List Lt} (h : BR w a c f a' c' td) (g : BR w b d f b' d' td) (hn : f.length = n) (hk : td.length = k) :
    Calls Try.prog 26 #[.agg #[.slice a n c, .int .i64 v, .bool on, .slice a' k c'], .agg #[.slice b n d, .int .i64 v, .bool on, .slice b' k d']] w fun e w' => e = .returned (.bool true) ∧ Below w.heap.size w w' := by
  subst hn; subst hk; exact same13_is w a b c d f v on a' b' c' d' td h g
theorem commit_bigK {w : World} {a a' : Option Addr} {c c' n k : Nat} {f : List (List Cel)} {v : Int} {td : List Lt} (h : BR w a c f a' c' td) (ok : OkB f td) (hbig : bigF f td = true) (hn : f.length = n) (hk : td.length = k) :
    Calls Try.prog 22 #[.agg #[.slice a n c, .int .i64 v, .bool true, .slice a' k c']] w fun e w' =>
      ∃ a2 c2 a3 c3, e = .returned (.tuple #[.agg #[.slice a2 n c2, .int .i64 v, .bool true, .slice a3 k c3], .slice none 0 0, .slice none 0 0, .int .i64 2]) ∧ BR w' a2 c2 f a3 c3 td ∧ Below w.heap.size w w' := by
  subst hn; subst hk; exact commit_big w a c f v a' c' td h ok hbig

set_option maxHeartbeats 6400000 in
set_option maxRecDepth 100000 in
theorem lawTFull_any (hH : Head13) (n0 : Int) (wf0 : (Lit.int .u16 n0).wf = true) (n1 : Int) (wf1 : (Lit.int .u8 n1).wf = true) (n2 : Int) (wf2 : (Lit.int .u8 n2).wf = true) (w : World) :
    Calls Try.prog 9 #[.int .u16 n0, .int .u8 n1, .int .u8 n2] w fun e w' => e = .returned (.bool true) ∧ Below w.heap.size w w' := by
  have HH := mkHid hH
  clear hH
  have HB := mkHid (Below.refl w.heap.size w)
  have hn0 : 0 ≤ n0 ∧ n0 ≤ 65535 := by
    simp [Lit.wf, IntKind.min, IntKind.max, IntKind.signed, IntKind.bits] at wf0
    omega
  have hn1 : 0 ≤ n1 ∧ n1 ≤ 255 := by
    simp [Lit.wf, IntKind.min, IntKind.max, IntKind.signed, IntKind.bits] at wf1
    omega
  have hn2 : 0 ≤ n2 ∧ n2 ≤ 255 := by
    simp [Lit.wf, IntKind.min, IntKind.max, IntKind.signed, IntKind.bits] at wf2
    omega
  obtain ⟨M, hr, hM1, hM2⟩ : ∃ M : Nat, 480 + n0 % 33 = (M : Int) ∧ 480 ≤ M ∧ M ≤ 512 := ⟨(480 + n0 % 33).toNat, by omega, by omega, by omega⟩
  obtain ⟨d, hd, hdl⟩ : ∃ r : Nat, n1 % 40 = (r : Int) ∧ r < 40 := ⟨(n1 % 40).toNat, by omega, by omega⟩
  obtain ⟨m0, hm0, hml⟩ : ∃ r : Nat, n2 % 80 = (r : Int) ∧ r < 80 := ⟨(n2 % 80).toNat, by omega, by omega⟩
  obtain ⟨F, hF⟩ : ∃ F, rowO 0 M = F := ⟨_, rfl⟩
  have hFl : F.length = M := by rw [← hF, rowO_len]
  have HFR : Hid (FR F) := by rw [Hid, ← hF]; exact rowO_fr (by omega) (by omega) (by omega)
  have HFF := mkHid (full_all (n := M) (d := d) (a := m0) (by omega) (by omega) (by omega))
  rw [hF] at HFF
  have HF := mkHid hF
  clear hF
  go_enter Try.func9, Try.ntmps9
  go_wp2_with fail
  refine (HH.out _).mono ?_
  rintro e w1 ⟨rfl, hq⟩
  replace HB := mkHid (HB.out.then hq)
  clear hq
  have HI0 : Hid (∃ cd ad, Value.slice none 0 0 = .slice ad 0 cd ∧ VOwn (veil (Value.slice none 0 0).ownBlock.toList w1) w1.heap.size 30 (rowO 0 0) (.slice none 0 0) w1) := ⟨0, none, rfl, [], World.ownsRow_nil _ _ _ _, .nil⟩
  go_wp2_with fail
  go_loopw [9, 10] (fun v i wr => ∃ (k : Nat) (ad : Option Addr) (cd : Nat), k ≤ M ∧ i = .int .i64 k ∧ v = .slice ad k cd ∧ Hid (VOwn (veil (Value.slice ad k cd).ownBlock.toList wr) w1.heap.size 30 (rowO 0 k) (.slice ad k cd) wr) ∧ Hid (Below w1.heap.size w1 wr)) (fun v i wr => M - (intOf i).toNat)
  case atStart =>
    exact ⟨0, none, 0, Nat.zero_le _, rfl, rfl, ⟨[], World.ownsRow_nil _ _ _ _, .nil⟩, Below.refl _ _⟩
  case round =>
    clear HI0
    obtain ⟨k, ad, cd, hk, rfl, rfl, HV, HW⟩ := hrel
    by_cases hlt : k < M
    · skip
      go_wp2_with fail
      refine (one13_any k (by omega) (by omega) _).mono ?_
      rintro e w3 ⟨o1, rfl, hnr, hb⟩
      have hsz := hb.size
      obtain ⟨w4, hw4⟩ : ∃ X, w3.alloc (.cells #[.slice o1 2 2] 30) = X := ⟨_, rfl⟩
      have hba : Below w3.heap.size w3 w4 := by rw [← hw4]; exact (Below.refl _ _).new _
      have hbb := hb.then hba
      have hlit : w4.heap[w3.heap.size]? = some (.cells #[.slice o1 2 2] 30 (0, 0)) := by rw [← hw4]; exact heap_alloc_new _ _
      obtain ⟨us, hus⟩ : ∃ us, (Value.slice ad k cd).ownBlock.toList = us := ⟨_, rfl⟩
      have hvl := HV.out.lt
      have hul : ∀ q ∈ us, q < wr.heap.size := fun q hq => by rw [← hus] at hq; exact (hvl q (by simpa using hq)).2
      have hrow : Row (veil us w4) o1 2 (oneF k) := (hnr.below hba).keeps (under_veil (vs := us) hul)
      have hv4 := (HV.out.view (Fr.of hbb).keeps).below hbb
      rw [hus] at hv4
      have hlen := rowO_len 0 k
      obtain ⟨v9, w5, hrun, hv9, hb9, hg9, hwh⟩ := appLitW (t := 22) Try.underlying22 Try.infoSl (by decide) (by decide) hv4 (y := oneF k) (cs := #[.slice o1 2 2]) ⟨o1, 2, rfl, hrow⟩ hlit (by omega) (by have h1 := HW.out.size; have h2 := hbb.size; omega)
      obtain ⟨ae, ce, rfl, _⟩ := hv9.slice
      have hl2 : (rowO 0 k ++ [oneF k]).length = k + 1 := by rw [List.length_append, hlen]; rfl
      have hrs : rowO 0 (k + 1) = rowO 0 k ++ [oneF k] := by rw [rowO_succ, Int.zero_add]
      rw [hl2] at hrun hwh
      have hfu : Fr us w4 w5 := ⟨hg9.os, hg9.tape, hg9.output, hg9.size, fun q hq hn => hg9.block q hq fun e => hn (by rw [← hus, ← e]; simp)⟩
      have hto : ∀ q ∈ (Value.slice ae (k + 1) ce).ownBlock.toList, q ∈ us ∨ w4.heap.size ≤ q := fun q hq => by
        rcases hwh with e | e
        · left; rw [e, hus] at hq; exact hq
        · right; rw [e] at hq; simp at hq; omega
      have HV2 : Hid (VOwn (veil (Value.slice ae (k + 1) ce).ownBlock.toList w5) w1.heap.size 30 (rowO 0 (k + 1)) (.slice ae (k + 1) ce) w5) := by
        rw [Hid, hrs]
        rw [hl2] at hv9
        exact hv9.view (veil_toR hfu hto)
      have HW2 : Hid (Below w1.heap.size w1 w5) := (HW.out.then hbb).trans hb9
      clear hv9 hv4 hrow hlit hfu hto hwh hnr hb hba hbb hvl hul hb9 hg9
      go_wp2_with (at_builtin; first | rw [hw4] | skip; refine wpList_run rfl _ _ 22 rfl rfl rfl hrun ?_)
      go_round
      case rel => exact ⟨k + 1, ae, ce, by omega, by go_num, rfl, HV2, HW2⟩
      case measure => simp [intOf]; omega
    · obtain rfl : M = k := by omega
      have hv := HV.out.row (us := []) (by simp) (veil_mono _ (by simp))
      obtain ⟨a8, c8, e8, hr8⟩ := hv
      injection e8 with e8 e10 e9
      clear e10
      subst e8; subst e9
      have RL : Hid (Row wr ad cd F) := by rw [Hid, ← HF.out]; exact hr8.keeps (veil_keeps _ _)
      replace HB := mkHid (HB.out.then HW.out)
      have HOK : Hid (OkB F []) := ⟨HFR.out, by simp, by simp⟩
      clear hr8 HV HW
      go_wp2_with fail
      refine (begin_offK (n := M) (k := 0) (v := 0) (a' := none) (c' := 0) (td := []) ⟨RL.out, nilRow _⟩ HOK.out hFl rfl).mono ?_
      rintro e w2 ⟨a9, c9, b9, d9, rfl, hbr, hq⟩
      replace HB := mkHid (HB.out.then hq)
      clear hq
      have R9 := mkHid hbr
      clear hbr RL HOK
      skip
      have HBV : Hid (w.heap.size ≤ w2.heap.size) := HB.out.size
      obtain ⟨x3, hx3⟩ : ∃ X, (w2.alloc (.cells #[.slice a9 M c9, .int .i64 0, .bool true, .slice b9 0 d9] 25)) = X := ⟨_, rfl⟩
      have hbx : Below w2.heap.size w2 x3 := by rw [← hx3]; exact (Below.refl _ _).new _
      have X11 : Hid (BX x3 w2.heap.size a9 c9 F 0 true b9 d9 []) := by rw [Hid, ← hx3]; exact BX.madeK R9.out hFl rfl
      replace HB := mkHid (HB.out.then hbx)
      clear hbx
      clear R9
      obtain ⟨B, hB⟩ : ∃ B, w2.heap.size = B := ⟨_, rfl⟩
      have HBL : Hid (w.heap.size ≤ B) := by rw [Hid, ← hB]; exact HBV.out
      have hX := X11.out
      rw [hB] at hX
      replace X11 := mkHid hX
      clear hX
      have hfl2 := hFl
      go_wp2_with fail
      first | rw [hx3] | skip
      clear hx3
      try rw [hB]
      try simp only [hd]
      go_loopw [14] (fun i wr2 => ∃ (k : Nat) (a : Option Addr) (c : Nat) (b : Option Addr) (e : Nat), k ≤ d ∧ i = .int .i64 k ∧ Hid (BX wr2 B a c F 0 true b e (chgO false 0 k)) ∧ Hid (Below w.heap.size w wr2)) (fun i wr2 => d - (intOf i).toNat)
      case atStart => exact ⟨0, a9, c9, b9, d9, Nat.zero_le _, rfl, X11, HB⟩
      case round =>
        clear X11 HB
        obtain ⟨k, a, c, b, e, hk, rfl, HX, HW⟩ := hrel
        by_cases hlt : k < d
        · skip
          obtain ⟨T, hT⟩ : ∃ T, chgO false 0 k = T := ⟨_, rfl⟩
          have hTl : T.length = k := by rw [← hT]; simp [chgO_len]
          have HTS : Hid (chgO false 0 (k + 1) = T ++ [⟨false, oneF ((k : Int))⟩]) := by rw [Hid, ← hT, chgO_succ]; simp
          have HOK : Hid (OkB F T) := by rw [← hT]; exact ⟨HFR.out, chgO_fact (by omega) (by omega) (by have := hdl; omega), by simp [chgO_len]; omega⟩
          have HNE : Hid (NEf F ∧ NEt (T ++ [⟨false, oneF ((k : Int))⟩])) := by
            rw [← HTS.out]
            exact OkB.ne ⟨HFR.out, chgO_fact (by omega) (by omega) (by have := hdl; omega), by simp [chgO_len]; omega⟩
          have HFC : Hid (factB (oneF ((k : Int))) = true) := one_fact (by omega) (by omega)
          rw [hT] at HX
          go_wp2_with fail
          obtain ⟨y1, hv1⟩ : ∃ X, wr.drew = X := ⟨_, rfl⟩
          have hbd : Below wr.heap.size wr y1 := by rw [← hv1]; exact (Below.refl _ _).drew
          replace HX := mkHid (HX.out.below hbd)
          replace HW := mkHid (HW.out.then hbd)
          clear hbd hT
          refine wp_region_noPanic ?_
          refine wp_region_held_drew (S := fun X : World => True) (by kernel_rfl) trivial (fun hSd => ?_)
          rw [hv1]
          clear hv1
          have HY0 := mkHid (Below.refl y1.heap.size y1)
          refine wpAnyH_take (i := 1) (oi := _) (v := ?_) rfl (by kernel_rfl) (by kernel_rfl) (by kernel_rfl) (fun _ _ _ h => h) (Or.inl ⟨by rfl, ?_⟩) (by assumption) ?_
          rotate_left
          · (intro w' hSw; go_simp; try with_reducible rfl)
          (try simp only [List.getElem_toArray, List.getElem_cons_succ, List.getElem_cons_zero, Act.put, List.setIfInBounds_toArray, List.set_cons_zero, List.set_cons_succ])
          refine wpAnyH_ready (rs := [0, 2]) (by kernel_rfl) (by simp) ?_
          refine AllReadyH.cons (o := _) rfl (fun K hK => ?_) ?_
          · skip
            obtain ⟨z0, z1, z2, z3⟩ := (HX.out.below HY0.out).cellsK (n := M) (k := k) hFl hTl
            go_simp
            clear z0 z1 z2 z3
            try dsimp only
            refine hK.out _ _ (trivial) (fun hS1 => ?_)
            clear hK K
            (try simp only [List.getElem_toArray, List.getElem_cons_succ, List.getElem_cons_zero, Act.put, List.setIfInBounds_toArray, List.set_cons_zero, List.set_cons_succ])
            refine wpAnyH_ready (rs := [2]) (by kernel_rfl) (by simp) ?_
            refine AllReadyH.cons (o := _) rfl (fun K hK => ?_) AllReadyH.nil
            go_simp
            refine (one13_any ((k : Int)) (by omega) (by omega) _).mono ?_
            rintro e u2 ⟨o2, rfl, hr, hb⟩
            have HP2 := mkHid hr.row
            have HY2 := mkHid (HY0.out.then hb)
            clear hr hb
            try dsimp only
            refine hK.out _ _ (trivial) (fun hS2 => ?_)
            clear hK K
            (try simp only [List.getElem_toArray, List.getElem_cons_succ, List.getElem_cons_zero, Act.put, List.setIfInBounds_toArray, List.set_cons_zero, List.set_cons_succ])
            refine wpAnyH_take (i := 3) (oi := _) (v := ?_) rfl (by kernel_rfl) (by kernel_rfl) (by kernel_rfl) (fun _ _ _ h => h) (Or.inl ⟨by rfl, ?_⟩) (by assumption) ?_
            rotate_left
            · (intro w' hSw; go_simp; try with_reducible rfl)
            (try simp only [List.getElem_toArray, List.getElem_cons_succ, List.getElem_cons_zero, Act.put, List.setIfInBounds_toArray, List.set_cons_zero, List.set_cons_succ])
            refine wpAnyH_ready (rs := [4]) (by kernel_rfl) (by simp) ?_
            refine AllReadyH.cons (o := _) rfl (fun K hK => ?_) AllReadyH.nil
            go_simp
            refine (change_yesK (n := M) (k := k) (m := 2) (j := k + 1) (q := false) (x := oneF ((k : Int))) (HX.out.below HY2.out).2 HOK.out HP2.out HFC.out hFl hTl rfl rfl).mono ?_
            rintro e u3 ⟨a4, c4, b4, d4, rfl, hbr, hb⟩
            have R4 := mkHid hbr
            have HY3 := mkHid (HY2.out.then hb)
            clear hbr hb
            try dsimp only
            refine hK.out _ _ (trivial) (fun hS3 => ?_)
            clear hK K
            (try simp only [List.getElem_toArray, List.getElem_cons_succ, List.getElem_cons_zero, Act.put, List.setIfInBounds_toArray, List.set_cons_zero, List.set_cons_succ])
            refine wpAnyH_take (i := 5) (oi := _) (v := ?_) rfl (by kernel_rfl) (by kernel_rfl) (by kernel_rfl) (fun _ _ _ h => h) (Or.inl ⟨by rfl, ?_⟩) (by assumption) ?_
            rotate_left
            · (intro w' hSw; go_simp; try with_reducible rfl)
            (try simp only [List.getElem_toArray, List.getElem_cons_succ, List.getElem_cons_zero, Act.put, List.setIfInBounds_toArray, List.set_cons_zero, List.set_cons_succ])
            refine wpAnyH_take (i := 6) (oi := _) (v := ?_) rfl (by kernel_rfl) (by kernel_rfl) (by kernel_rfl) (fun _ _ _ h => h) (Or.inl ⟨by rfl, ?_⟩) (by assumption) ?_
            rotate_left
            · (intro w' hSw; go_simp; try with_reducible rfl)
            (try simp only [List.getElem_toArray, List.getElem_cons_succ, List.getElem_cons_zero, Act.put, List.setIfInBounds_toArray, List.set_cons_zero, List.set_cons_succ])
            refine wpAnyH_take (i := 7) (oi := _) (v := ?_) rfl (by kernel_rfl) (by kernel_rfl) (by kernel_rfl) (fun _ _ _ h => h) (Or.inl ⟨by rfl, ?_⟩) (by assumption) ?_
            rotate_left
            · (intro w' hSw; go_simp; try with_reducible rfl)
            (try simp only [List.getElem_toArray, List.getElem_cons_succ, List.getElem_cons_zero, Act.put, List.setIfInBounds_toArray, List.set_cons_zero, List.set_cons_succ])
            refine wpAnyH_ready (rs := [8]) (by kernel_rfl) (by simp) ?_
            refine AllReadyH.cons (o := _) rfl (fun K hK => ?_) AllReadyH.nil
            have hbz := HX.out.below HY3.out
            obtain ⟨z0, z1, z2, z3⟩ := hbz.cellsK (n := M) (k := k) hFl hTl
            obtain ⟨f0, f1, f2, f3⟩ := hbz.free
            go_simp
            obtain ⟨v4, hv4⟩ : ∃ X, (((u3.setCell ⟨B, 0, none⟩ (.slice a4 M c4)).setCell ⟨B, 1, none⟩ (.int .i64 0)).setCell ⟨B, 2, none⟩ (.bool true)).setCell ⟨B, 3, none⟩ (.slice b4 (k + 1) d4) = X := ⟨_, rfl⟩
            have X6 : Hid (BX v4 B a4 c4 F 0 true b4 d4 (chgO false 0 (k + 1))) := by rw [Hid, ← hv4, HTS.out]; exact hbz.storedK HNE.out R4.out hFl (by simp [hTl])
            have HBV : Hid (Below w.heap.size w v4) := by rw [Hid, ← hv4]; exact below_four (HW.out.then HY3.out) HBL.out _ _ _ _
            first | rw [hv4] | skip
            clear hv4 hbz z0 z1 z2 z3 f0 f1 f2 f3 R4
            try dsimp only
            refine hK.out _ _ (trivial) (fun hS4 => ?_)
            clear hK K
            (try simp only [List.getElem_toArray, List.getElem_cons_succ, List.getElem_cons_zero, Act.put, List.setIfInBounds_toArray, List.set_cons_zero, List.set_cons_succ])
            refine wpAnyH_done (by kernel_rfl) (NoPanic.normal ?_) _
            go_wp2
            go_round
            case rel => exact ⟨k + 1, a4, c4, b4, d4, by omega, by go_num, X6, HBV⟩
            case measure => simp [intOf]; omega
          refine AllReadyH.cons (o := _) rfl (fun K hK => ?_) AllReadyH.nil
          go_simp
          refine (one13_any ((k : Int)) (by omega) (by omega) _).mono ?_
          rintro e u5 ⟨o2, rfl, hr, hb⟩
          have HP5 := mkHid hr.row
          have HY5 := mkHid (HY0.out.then hb)
          clear hr hb
          try dsimp only
          refine hK.out _ _ (trivial) (fun hS5 => ?_)
          clear hK K
          (try simp only [List.getElem_toArray, List.getElem_cons_succ, List.getElem_cons_zero, Act.put, List.setIfInBounds_toArray, List.set_cons_zero, List.set_cons_succ])
          refine wpAnyH_take (i := 3) (oi := _) (v := ?_) rfl (by kernel_rfl) (by kernel_rfl) (by kernel_rfl) (fun _ _ _ h => h) (Or.inl ⟨by rfl, ?_⟩) (by assumption) ?_
          rotate_left
          · (intro w' hSw; go_simp; try with_reducible rfl)
          (try simp only [List.getElem_toArray, List.getElem_cons_succ, List.getElem_cons_zero, Act.put, List.setIfInBounds_toArray, List.set_cons_zero, List.set_cons_succ])
          refine wpAnyH_ready (rs := [0]) (by kernel_rfl) (by simp) ?_
          refine AllReadyH.cons (o := _) rfl (fun K hK => ?_) AllReadyH.nil
          obtain ⟨z0, z1, z2, z3⟩ := (HX.out.below HY5.out).cellsK (n := M) (k := k) hFl hTl
          go_simp
          clear z0 z1 z2 z3
          try dsimp only
          refine hK.out _ _ (trivial) (fun hS6 => ?_)
          clear hK K
          (try simp only [List.getElem_toArray, List.getElem_cons_succ, List.getElem_cons_zero, Act.put, List.setIfInBounds_toArray, List.set_cons_zero, List.set_cons_succ])
          refine wpAnyH_ready (rs := [4]) (by kernel_rfl) (by simp) ?_
          refine AllReadyH.cons (o := _) rfl (fun K hK => ?_) AllReadyH.nil
          go_simp
          refine (change_yesK (n := M) (k := k) (m := 2) (j := k + 1) (q := false) (x := oneF ((k : Int))) (HX.out.below HY5.out).2 HOK.out HP5.out HFC.out hFl hTl rfl rfl).mono ?_
          rintro e u7 ⟨a4, c4, b4, d4, rfl, hbr, hb⟩
          have R4 := mkHid hbr
          have HY7 := mkHid (HY5.out.then hb)
          clear hbr hb
          try dsimp only
          refine hK.out _ _ (trivial) (fun hS7 => ?_)
          clear hK K
          (try simp only [List.getElem_toArray, List.getElem_cons_succ, List.getElem_cons_zero, Act.put, List.setIfInBounds_toArray, List.set_cons_zero, List.set_cons_succ])
          refine wpAnyH_take (i := 5) (oi := _) (v := ?_) rfl (by kernel_rfl) (by kernel_rfl) (by kernel_rfl) (fun _ _ _ h => h) (Or.inl ⟨by rfl, ?_⟩) (by assumption) ?_
          rotate_left
          · (intro w' hSw; go_simp; try with_reducible rfl)
          (try simp only [List.getElem_toArray, List.getElem_cons_succ, List.getElem_cons_zero, Act.put, List.setIfInBounds_toArray, List.set_cons_zero, List.set_cons_succ])
          refine wpAnyH_take (i := 6) (oi := _) (v := ?_) rfl (by kernel_rfl) (by kernel_rfl) (by kernel_rfl) (fun _ _ _ h => h) (Or.inl ⟨by rfl, ?_⟩) (by assumption) ?_
          rotate_left
          · (intro w' hSw; go_simp; try with_reducible rfl)
          (try simp only [List.getElem_toArray, List.getElem_cons_succ, List.getElem_cons_zero, Act.put, List.setIfInBounds_toArray, List.set_cons_zero, List.set_cons_succ])
          refine wpAnyH_take (i := 7) (oi := _) (v := ?_) rfl (by kernel_rfl) (by kernel_rfl) (by kernel_rfl) (fun _ _ _ h => h) (Or.inl ⟨by rfl, ?_⟩) (by assumption) ?_
          rotate_left
          · (intro w' hSw; go_simp; try with_reducible rfl)
          (try simp only [List.getElem_toArray, List.getElem_cons_succ, List.getElem_cons_zero, Act.put, List.setIfInBounds_toArray, List.set_cons_zero, List.set_cons_succ])
          refine wpAnyH_ready (rs := [8]) (by kernel_rfl) (by simp) ?_
          refine AllReadyH.cons (o := _) rfl (fun K hK => ?_) AllReadyH.nil
          have hbz := HX.out.below HY7.out
          obtain ⟨z0, z1, z2, z3⟩ := hbz.cellsK (n := M) (k := k) hFl hTl
          obtain ⟨f0, f1, f2, f3⟩ := hbz.free
          go_simp
          obtain ⟨v4, hv4⟩ : ∃ X, (((u7.setCell ⟨B, 0, none⟩ (.slice a4 M c4)).setCell ⟨B, 1, none⟩ (.int .i64 0)).setCell ⟨B, 2, none⟩ (.bool true)).setCell ⟨B, 3, none⟩ (.slice b4 (k + 1) d4) = X := ⟨_, rfl⟩
          have X6 : Hid (BX v4 B a4 c4 F 0 true b4 d4 (chgO false 0 (k + 1))) := by rw [Hid, ← hv4, HTS.out]; exact hbz.storedK HNE.out R4.out hFl (by simp [hTl])
          have HBV : Hid (Below w.heap.size w v4) := by rw [Hid, ← hv4]; exact below_four (HW.out.then HY7.out) HBL.out _ _ _ _
          first | rw [hv4] | skip
          clear hv4 hbz z0 z1 z2 z3 f0 f1 f2 f3 R4
          try dsimp only
          refine hK.out _ _ (trivial) (fun hS8 => ?_)
          clear hK K
          (try simp only [List.getElem_toArray, List.getElem_cons_succ, List.getElem_cons_zero, Act.put, List.setIfInBounds_toArray, List.set_cons_zero, List.set_cons_succ])
          refine wpAnyH_done (by kernel_rfl) (NoPanic.normal ?_) _
          go_wp2
          go_round
          case rel => exact ⟨k + 1, a4, c4, b4, d4, by omega, by go_num, X6, HBV⟩
          case measure => simp [intOf]; omega
        · obtain rfl : d = k := by omega
          clear hlt
          go_wp2_with fail
          try simp only [hm0]
          go_loopw [16] (fun i wr2 => ∃ (k : Nat) (a : Option Addr) (c : Nat) (b : Option Addr) (e : Nat), k ≤ m0 ∧ i = .int .i64 k ∧ Hid (BX wr2 B a c F 0 true b e (chgO false 0 d ++ chgO true 1000 k)) ∧ Hid (Below w.heap.size w wr2)) (fun i wr2 => m0 - (intOf i).toNat)
          case atStart => exact ⟨0, a, c, b, e, Nat.zero_le _, rfl, (by rw [show chgO false 0 d ++ chgO true 1000 0 = chgO false 0 d from List.append_nil _]; exact HX), HW⟩
          case round =>
            clear HX HW a c b e
            obtain ⟨k, a, c, b, e, hk, rfl, HX, HW⟩ := hrel
            by_cases hlt : k < m0
            · skip
              obtain ⟨T, hT⟩ : ∃ T, chgO false 0 d ++ chgO true 1000 k = T := ⟨_, rfl⟩
              have hTl : T.length = d + k := by rw [← hT]; simp [chgO_len]
              have HTS : Hid (chgO false 0 d ++ chgO true 1000 (k + 1) = T ++ [⟨true, oneF (1000 + (k : Int))⟩]) := by rw [Hid, ← hT, chgO_succ]; simp
              have HOK : Hid (OkB F T) := by rw [← hT]; exact ⟨HFR.out, (fun q hq => by rcases List.mem_append.1 hq with h | h; exact chgO_fact (k := d) (by omega) (by omega) (by omega) _ h; exact chgO_fact (f := 1000) (k := k) (by omega) (by omega) (by omega) _ h), by simp [chgO_len]; omega⟩
              have HNE : Hid (NEf F ∧ NEt (T ++ [⟨true, oneF (1000 + (k : Int))⟩])) := by
                rw [← HTS.out]
                exact OkB.ne ⟨HFR.out, (fun q hq => by rcases List.mem_append.1 hq with h | h; exact chgO_fact (k := d) (by omega) (by omega) (by omega) _ h; exact chgO_fact (f := 1000) (k := (k + 1)) (by omega) (by omega) (by omega) _ h), by simp [chgO_len]; omega⟩
              have HFC : Hid (factB (oneF (1000 + (k : Int))) = true) := one_fact (by omega) (by omega)
              have hwk : IntKind.i64.wrap (1000 + (k : Int)) = 1000 + (k : Int) := IntWalk.i64_in _ (by omega)
              rw [hT] at HX
              go_wp2_with fail
              obtain ⟨y1, hv1⟩ : ∃ X, wr.drew = X := ⟨_, rfl⟩
              have hbd : Below wr.heap.size wr y1 := by rw [← hv1]; exact (Below.refl _ _).drew
              replace HX := mkHid (HX.out.below hbd)
              replace HW := mkHid (HW.out.then hbd)
              clear hbd hT
              refine wp_region_noPanic ?_
              refine wp_region_held_drew (S := fun X : World => True) (by kernel_rfl) trivial (fun hSd => ?_)
              rw [hv1]
              clear hv1
              have HY0 := mkHid (Below.refl y1.heap.size y1)
              refine wpAnyH_take (i := 1) (oi := _) (v := ?_) rfl (by kernel_rfl) (by kernel_rfl) (by kernel_rfl) (fun _ _ _ h => h) (Or.inl ⟨by rfl, ?_⟩) (by assumption) ?_
              rotate_left
              · (intro w' hSw; go_simp; try with_reducible rfl)
              (try simp only [List.getElem_toArray, List.getElem_cons_succ, List.getElem_cons_zero, Act.put, List.setIfInBounds_toArray, List.set_cons_zero, List.set_cons_succ])
              refine wpAnyH_take (i := 2) (oi := _) (v := ?_) rfl (by kernel_rfl) (by kernel_rfl) (by kernel_rfl) (fun _ _ _ h => h) (Or.inl ⟨by rfl, ?_⟩) (by assumption) ?_
              rotate_left
              · (intro w' hSw; go_simp; try with_reducible rfl)
              (try simp only [List.getElem_toArray, List.getElem_cons_succ, List.getElem_cons_zero, Act.put, List.setIfInBounds_toArray, List.set_cons_zero, List.set_cons_succ])
              refine wpAnyH_ready (rs := [0, 3]) (by kernel_rfl) (by simp) ?_
              refine AllReadyH.cons (o := _) rfl (fun K hK => ?_) ?_
              · skip
                obtain ⟨z0, z1, z2, z3⟩ := (HX.out.below HY0.out).cellsK (n := M) (k := d + k) hFl hTl
                go_simp
                clear z0 z1 z2 z3
                try dsimp only
                refine hK.out _ _ (trivial) (fun hS1 => ?_)
                clear hK K
                (try simp only [List.getElem_toArray, List.getElem_cons_succ, List.getElem_cons_zero, Act.put, List.setIfInBounds_toArray, List.set_cons_zero, List.set_cons_succ])
                refine wpAnyH_ready (rs := [3]) (by kernel_rfl) (by simp) ?_
                refine AllReadyH.cons (o := _) rfl (fun K hK => ?_) AllReadyH.nil
                go_simp
                refine (one13_any (1000 + (k : Int)) (by omega) (by omega) _).mono ?_
                rintro e u2 ⟨o2, rfl, hr, hb⟩
                have HP2 := mkHid hr.row
                have HY2 := mkHid (HY0.out.then hb)
                clear hr hb
                try dsimp only
                refine hK.out _ _ (trivial) (fun hS2 => ?_)
                clear hK K
                (try simp only [List.getElem_toArray, List.getElem_cons_succ, List.getElem_cons_zero, Act.put, List.setIfInBounds_toArray, List.set_cons_zero, List.set_cons_succ])
                refine wpAnyH_take (i := 4) (oi := _) (v := ?_) rfl (by kernel_rfl) (by kernel_rfl) (by kernel_rfl) (fun _ _ _ h => h) (Or.inl ⟨by rfl, ?_⟩) (by assumption) ?_
                rotate_left
                · (intro w' hSw; go_simp; try with_reducible rfl)
                (try simp only [List.getElem_toArray, List.getElem_cons_succ, List.getElem_cons_zero, Act.put, List.setIfInBounds_toArray, List.set_cons_zero, List.set_cons_succ])
                refine wpAnyH_ready (rs := [5]) (by kernel_rfl) (by simp) ?_
                refine AllReadyH.cons (o := _) rfl (fun K hK => ?_) AllReadyH.nil
                go_simp
                refine (change_yesK (n := M) (k := d + k) (m := 2) (j := d + k + 1) (q := true) (x := oneF (1000 + (k : Int))) (HX.out.below HY2.out).2 HOK.out HP2.out HFC.out hFl hTl rfl rfl).mono ?_
                rintro e u3 ⟨a4, c4, b4, d4, rfl, hbr, hb⟩
                have R4 := mkHid hbr
                have HY3 := mkHid (HY2.out.then hb)
                clear hbr hb
                try dsimp only
                refine hK.out _ _ (trivial) (fun hS3 => ?_)
                clear hK K
                (try simp only [List.getElem_toArray, List.getElem_cons_succ, List.getElem_cons_zero, Act.put, List.setIfInBounds_toArray, List.set_cons_zero, List.set_cons_succ])
                refine wpAnyH_take (i := 6) (oi := _) (v := ?_) rfl (by kernel_rfl) (by kernel_rfl) (by kernel_rfl) (fun _ _ _ h => h) (Or.inl ⟨by rfl, ?_⟩) (by assumption) ?_
                rotate_left
                · (intro w' hSw; go_simp; try with_reducible rfl)
                (try simp only [List.getElem_toArray, List.getElem_cons_succ, List.getElem_cons_zero, Act.put, List.setIfInBounds_toArray, List.set_cons_zero, List.set_cons_succ])
                refine wpAnyH_take (i := 7) (oi := _) (v := ?_) rfl (by kernel_rfl) (by kernel_rfl) (by kernel_rfl) (fun _ _ _ h => h) (Or.inl ⟨by rfl, ?_⟩) (by assumption) ?_
                rotate_left
                · (intro w' hSw; go_simp; try with_reducible rfl)
                (try simp only [List.getElem_toArray, List.getElem_cons_succ, List.getElem_cons_zero, Act.put, List.setIfInBounds_toArray, List.set_cons_zero, List.set_cons_succ])
                refine wpAnyH_take (i := 8) (oi := _) (v := ?_) rfl (by kernel_rfl) (by kernel_rfl) (by kernel_rfl) (fun _ _ _ h => h) (Or.inl ⟨by rfl, ?_⟩) (by assumption) ?_
                rotate_left
                · (intro w' hSw; go_simp; try with_reducible rfl)
                (try simp only [List.getElem_toArray, List.getElem_cons_succ, List.getElem_cons_zero, Act.put, List.setIfInBounds_toArray, List.set_cons_zero, List.set_cons_succ])
                refine wpAnyH_ready (rs := [9]) (by kernel_rfl) (by simp) ?_
                refine AllReadyH.cons (o := _) rfl (fun K hK => ?_) AllReadyH.nil
                have hbz := HX.out.below HY3.out
                obtain ⟨z0, z1, z2, z3⟩ := hbz.cellsK (n := M) (k := d + k) hFl hTl
                obtain ⟨f0, f1, f2, f3⟩ := hbz.free
                go_simp
                obtain ⟨v4, hv4⟩ : ∃ X, (((u3.setCell ⟨B, 0, none⟩ (.slice a4 M c4)).setCell ⟨B, 1, none⟩ (.int .i64 0)).setCell ⟨B, 2, none⟩ (.bool true)).setCell ⟨B, 3, none⟩ (.slice b4 (d + k + 1) d4) = X := ⟨_, rfl⟩
                have X6 : Hid (BX v4 B a4 c4 F 0 true b4 d4 (chgO false 0 d ++ chgO true 1000 (k + 1))) := by rw [Hid, ← hv4, HTS.out]; exact hbz.storedK HNE.out R4.out hFl (by simp [hTl])
                have HBV : Hid (Below w.heap.size w v4) := by rw [Hid, ← hv4]; exact below_four (HW.out.then HY3.out) HBL.out _ _ _ _
                first | rw [hv4] | skip
                clear hv4 hbz z0 z1 z2 z3 f0 f1 f2 f3 R4
                try dsimp only
                refine hK.out _ _ (trivial) (fun hS4 => ?_)
                clear hK K
                (try simp only [List.getElem_toArray, List.getElem_cons_succ, List.getElem_cons_zero, Act.put, List.setIfInBounds_toArray, List.set_cons_zero, List.set_cons_succ])
                refine wpAnyH_done (by kernel_rfl) (NoPanic.normal ?_) _
                go_wp2
                go_round
                case rel => exact ⟨k + 1, a4, c4, b4, d4, by omega, by go_num, X6, HBV⟩
                case measure => simp [intOf]; omega
              refine AllReadyH.cons (o := _) rfl (fun K hK => ?_) AllReadyH.nil
              go_simp
              refine (one13_any (1000 + (k : Int)) (by omega) (by omega) _).mono ?_
              rintro e u5 ⟨o2, rfl, hr, hb⟩
              have HP5 := mkHid hr.row
              have HY5 := mkHid (HY0.out.then hb)
              clear hr hb
              try dsimp only
              refine hK.out _ _ (trivial) (fun hS5 => ?_)
              clear hK K
              (try simp only [List.getElem_toArray, List.getElem_cons_succ, List.getElem_cons_zero, Act.put, List.setIfInBounds_toArray, List.set_cons_zero, List.set_cons_succ])
              refine wpAnyH_take (i := 4) (oi := _) (v := ?_) rfl (by kernel_rfl) (by kernel_rfl) (by kernel_rfl) (fun _ _ _ h => h) (Or.inl ⟨by rfl, ?_⟩) (by assumption) ?_
              rotate_left
              · (intro w' hSw; go_simp; try with_reducible rfl)
              (try simp only [List.getElem_toArray, List.getElem_cons_succ, List.getElem_cons_zero, Act.put, List.setIfInBounds_toArray, List.set_cons_zero, List.set_cons_succ])
              refine wpAnyH_ready (rs := [0]) (by kernel_rfl) (by simp) ?_
              refine AllReadyH.cons (o := _) rfl (fun K hK => ?_) AllReadyH.nil
              obtain ⟨z0, z1, z2, z3⟩ := (HX.out.below HY5.out).cellsK (n := M) (k := d + k) hFl hTl
              go_simp
              clear z0 z1 z2 z3
              try dsimp only
              refine hK.out _ _ (trivial) (fun hS6 => ?_)
              clear hK K
              (try simp only [List.getElem_toArray, List.getElem_cons_succ, List.getElem_cons_zero, Act.put, List.setIfInBounds_toArray, List.set_cons_zero, List.set_cons_succ])
              refine wpAnyH_ready (rs := [5]) (by kernel_rfl) (by simp) ?_
              refine AllReadyH.cons (o := _) rfl (fun K hK => ?_) AllReadyH.nil
              go_simp
              refine (change_yesK (n := M) (k := d + k) (m := 2) (j := d + k + 1) (q := true) (x := oneF (1000 + (k : Int))) (HX.out.below HY5.out).2 HOK.out HP5.out HFC.out hFl hTl rfl rfl).mono ?_
              rintro e u7 ⟨a4, c4, b4, d4, rfl, hbr, hb⟩
              have R4 := mkHid hbr
              have HY7 := mkHid (HY5.out.then hb)
              clear hbr hb
              try dsimp only
              refine hK.out _ _ (trivial) (fun hS7 => ?_)
              clear hK K
              (try simp only [List.getElem_toArray, List.getElem_cons_succ, List.getElem_cons_zero, Act.put, List.setIfInBounds_toArray, List.set_cons_zero, List.set_cons_succ])
              refine wpAnyH_take (i := 6) (oi := _) (v := ?_) rfl (by kernel_rfl) (by kernel_rfl) (by kernel_rfl) (fun _ _ _ h => h) (Or.inl ⟨by rfl, ?_⟩) (by assumption) ?_
              rotate_left
              · (intro w' hSw; go_simp; try with_reducible rfl)
              (try simp only [List.getElem_toArray, List.getElem_cons_succ, List.getElem_cons_zero, Act.put, List.setIfInBounds_toArray, List.set_cons_zero, List.set_cons_succ])
              refine wpAnyH_take (i := 7) (oi := _) (v := ?_) rfl (by kernel_rfl) (by kernel_rfl) (by kernel_rfl) (fun _ _ _ h => h) (Or.inl ⟨by rfl, ?_⟩) (by assumption) ?_
              rotate_left
              · (intro w' hSw; go_simp; try with_reducible rfl)
              (try simp only [List.getElem_toArray, List.getElem_cons_succ, List.getElem_cons_zero, Act.put, List.setIfInBounds_toArray, List.set_cons_zero, List.set_cons_succ])
              refine wpAnyH_take (i := 8) (oi := _) (v := ?_) rfl (by kernel_rfl) (by kernel_rfl) (by kernel_rfl) (fun _ _ _ h => h) (Or.inl ⟨by rfl, ?_⟩) (by assumption) ?_
              rotate_left
              · (intro w' hSw; go_simp; try with_reducible rfl)
              (try simp only [List.getElem_toArray, List.getElem_cons_succ, List.getElem_cons_zero, Act.put, List.setIfInBounds_toArray, List.set_cons_zero, List.set_cons_succ])
              refine wpAnyH_ready (rs := [9]) (by kernel_rfl) (by simp) ?_
              refine AllReadyH.cons (o := _) rfl (fun K hK => ?_) AllReadyH.nil
              have hbz := HX.out.below HY7.out
              obtain ⟨z0, z1, z2, z3⟩ := hbz.cellsK (n := M) (k := d + k) hFl hTl
              obtain ⟨f0, f1, f2, f3⟩ := hbz.free
              go_simp
              obtain ⟨v4, hv4⟩ : ∃ X, (((u7.setCell ⟨B, 0, none⟩ (.slice a4 M c4)).setCell ⟨B, 1, none⟩ (.int .i64 0)).setCell ⟨B, 2, none⟩ (.bool true)).setCell ⟨B, 3, none⟩ (.slice b4 (d + k + 1) d4) = X := ⟨_, rfl⟩
              have X6 : Hid (BX v4 B a4 c4 F 0 true b4 d4 (chgO false 0 d ++ chgO true 1000 (k + 1))) := by rw [Hid, ← hv4, HTS.out]; exact hbz.storedK HNE.out R4.out hFl (by simp [hTl])
              have HBV : Hid (Below w.heap.size w v4) := by rw [Hid, ← hv4]; exact below_four (HW.out.then HY7.out) HBL.out _ _ _ _
              first | rw [hv4] | skip
              clear hv4 hbz z0 z1 z2 z3 f0 f1 f2 f3 R4
              try dsimp only
              refine hK.out _ _ (trivial) (fun hS8 => ?_)
              clear hK K
              (try simp only [List.getElem_toArray, List.getElem_cons_succ, List.getElem_cons_zero, Act.put, List.setIfInBounds_toArray, List.set_cons_zero, List.set_cons_succ])
              refine wpAnyH_done (by kernel_rfl) (NoPanic.normal ?_) _
              go_wp2
              go_round
              case rel => exact ⟨k + 1, a4, c4, b4, d4, by omega, by go_num, X6, HBV⟩
              case measure => simp [intOf]; omega
            · obtain rfl : m0 = k := by omega
              clear hlt
              obtain ⟨T, hT⟩ : ∃ T, chgO false 0 d ++ chgO true 1000 m0 = T := ⟨_, rfl⟩
              have hTl : T.length = d + m0 := by rw [← hT]; simp [chgO_len]
              have HOK : Hid (OkB F T) := by rw [← hT]; exact ⟨HFR.out, (fun q hq => by rcases List.mem_append.1 hq with h | h; exact chgO_fact (k := d) (by omega) (by omega) (by omega) _ h; exact chgO_fact (f := 1000) (k := m0) (by omega) (by omega) (by omega) _ h), by simp [chgO_len]; omega⟩
              rw [hT] at HX HFF
              obtain ⟨m, hm⟩ : ∃ m, nowF F T = m := ⟨_, rfl⟩
              rw [hm] at HFF
              have HM := mkHid hm
              have HB := HW
              clear hT hm HW
              by_cases hbig : 512 < M - d + m0
              · skip
                have hgt : (512 : Int) < (M : Int) - d + m0 := by omega
                have hgd : decide ((512 : Int) < (M : Int) - d + m0) = true := decide_eq_true hgt
                have hml : m.length = 512 := HFF.out.full hbig
                have HBI : Hid (bigF F T = true) := by rw [Hid, HFF.out.big]; exact decide_eq_true hbig
                obtain ⟨HXc0, HXc1, HXc2, HXc3⟩ := HX.out.cellsK (n := M) (k := d + m0) hFl hTl
                go_wp2_with fail
                try simp only [hm0]
                refine (commit_bigK HX.out.2 HOK.out HBI.out hFl hTl).mono ?_
                rintro ev w20 ⟨a20, c20, b20, d20, rfl, hbr, hq⟩
                clear HXc0 HXc1 HXc2 HXc3
                replace HX := mkHid (HX.out.below hq)
                replace HB := mkHid (HB.out.then hq)
                clear hq
                have R20 := mkHid hbr
                clear hbr
                obtain ⟨x104, hx104⟩ : ∃ X, (w20.alloc (.cells #[.slice a20 M c20, .int .i64 0, .bool true, .slice b20 (d + m0) d20] 25)) = X := ⟨_, rfl⟩
                have hbx : Below w20.heap.size w20 x104 := by rw [← hx104]; exact (Below.refl _ _).new _
                have XC : Hid (BX x104 w20.heap.size a20 c20 F 0 true b20 d20 T) := by rw [Hid, ← hx104]; exact BX.madeK R20.out hFl hTl
                replace HX := mkHid (HX.out.below hbx)
                replace HB := mkHid (HB.out.then hbx)
                clear hbx
                clear R20
                obtain ⟨HXc0, HXc1, HXc2, HXc3⟩ := HX.out.cellsK (n := M) (k := d + m0) hFl hTl
                obtain ⟨XCc0, XCc1, XCc2, XCc3⟩ := XC.out.cellsK (n := M) (k := d + m0) hFl hTl
                go_wp2_with fail
                first | rw [hx104] | skip
                clear hx104
                refine (same13_K HX.out.2 XC.out.2 hFl hTl).mono ?_
                rintro ev w21 ⟨rfl, hq⟩
                clear HXc0 HXc1 HXc2 HXc3 XCc0 XCc1 XCc2 XCc3
                replace HX := mkHid (HX.out.below hq)
                replace HB := mkHid (HB.out.then hq)
                clear hq
                obtain ⟨HXc0, HXc1, HXc2, HXc3⟩ := HX.out.cellsK (n := M) (k := d + m0) hFl hTl
                go_wp2_with fail
                refine (nowK HX.out.2 HOK.out HM hFl hTl hml).mono ?_
                rintro ev w22 ⟨a22, c22, rfl, _, hq⟩
                replace HB := mkHid (HB.out.then hq)
                go_wp2_with fail
                go_ret
                exact ⟨rfl, HB.out⟩
              · skip
                obtain ⟨J, hJ⟩ : ∃ J, M - d + m0 = J := ⟨_, rfl⟩
                have tJ : ((J : Int) == (M : Int) - d + m0) = true := by simp; omega
                have hgt : ¬ (512 : Int) < (M : Int) - d + m0 := by omega
                have hgd : decide ((512 : Int) < (M : Int) - d + m0) = false := decide_eq_false hgt
                have hml : m.length = J := (HFF.out.len hbig).trans hJ
                have HBI : Hid (bigF F T = false) := by rw [Hid, HFF.out.big]; exact decide_eq_false hbig
                obtain ⟨HXc0, HXc1, HXc2, HXc3⟩ := HX.out.cellsK (n := M) (k := d + m0) hFl hTl
                go_wp2_with fail
                try simp only [hm0]
                refine (commit_okK (u := 1) (x := lessF m F) (z := lessF F m) HX.out.2 HOK.out HBI.out (by omega) (by omega) HM rfl rfl hFl hTl hml (HFF.out.came hbig) (HFF.out.went hbig) rfl).mono ?_
                rintro ev w20 ⟨a20, c20, b20, d20, a21, c21, rfl, hbr, _, _, hq⟩
                clear HXc0 HXc1 HXc2 HXc3
                replace HX := mkHid (HX.out.below hq)
                replace HB := mkHid (HB.out.then hq)
                clear hq
                have R20 : Hid (BR w20 a20 c20 m none 0 []) := ⟨hbr, nilRow _⟩
                clear hbr
                have hbx : Below w20.heap.size w20 (w20.alloc (.cells #[.slice a20 J c20, .int .i64 1, .bool false, .slice none 0 0] 25)) := (Below.refl _ _).new _
                have XC : Hid (BX (w20.alloc (.cells #[.slice a20 J c20, .int .i64 1, .bool false, .slice none 0 0] 25)) w20.heap.size a20 c20 m 1 false none 0 []) := BX.madeK R20.out hml rfl
                replace HX := mkHid (HX.out.below hbx)
                replace HB := mkHid (HB.out.then hbx)
                clear hbx
                clear R20
                obtain ⟨HXc0, HXc1, HXc2, HXc3⟩ := HX.out.cellsK (n := M) (k := d + m0) hFl hTl
                obtain ⟨XCc0, XCc1, XCc2, XCc3⟩ := XC.out.cellsK (n := J) (k := 0) hml rfl
                go_wp2_with fail
                go_ret
                exact ⟨rfl, HB.out⟩
end Go.Proofs.Ytnpffificfghpaa
namespace Go.Proofs.Ytnpffificfghpaa
open Go.RowKit Go.ChangeShapes Go.WideShapes Go.ChangeAt
open Go.ChangeMaps (open_string)

set_option maxRecDepth 100000 in
set_option maxHeartbeats 1000000 in
theorem TransFull_lifted (os : Os) (started : os.Started) (H : Type) (enc : TypeId × Value → H) :
    ReturnsInHanded {} Try.checked os 9 .any (Rows.transFullSpec.pre6 enc Try.prog Try.f9 Rows.transFullRow.domain false) (Rows.transFullSpec.post enc Try.prog Try.f9 false true false false) := by
  refine returnsInHanded_of_change (C := Try.checked) Try.own started (by kernel_rfl) Try.func9
    (ChangeSpec.witness6 (enc := enc) (C := Try.checked) false ⟨#[], #[.int .u16 0, .int .u8 0, .int .u8 0], []⟩ 8 (by kernel_rfl) (by kernel_rfl) (by kernel_rfl) (by kernel_rfl)) ?_
  intro W base args ds gs before hval0 hW hcnd _
  have hval : ∀ (j : Nat) t v, Try.f9.params[j]? = some t → args[j]? = some v → Value.okWide Try.prog W .any base t v := hval0
  have hW' := hW
  obtain ⟨p, q, hA0, hV, rfl, hfz, hnd⟩ := hW
  have hA : DataW.TrodAll enc Try.prog W 0 (fun _ => true) true Try.f9.params.toList args.toList ds p := hA0
  rw [Try.params9] at hA hval
  obtain ⟨v0, vs0, d0, ds0, p0, q0, hargs, rfl, rfl, h0, r0⟩ := trodAll_cons hA
  obtain ⟨v1, vs1, d1, ds1, p1, q1, rfl, rfl, rfl, h1, r1⟩ := trodAll_cons r0
  obtain ⟨v2, vs2, d2, ds2, p2, q2, rfl, rfl, rfl, h2, r2⟩ := trodAll_cons r1
  obtain ⟨rfl, rfl, rfl⟩ := trodAll_nil r2
  obtain rfl : args = #[v0, v1, v2] := by cases args; simp_all
  obtain ⟨rfl, rfl⟩ := trodVars_none hV
  have k0 := h0
  have lt0 : ∀ x ∈ p0, x.block < W.heap.size := by obtain ⟨m, hm⟩ := k0; exact DataW.trod_lt m _ _ _ hm
  obtain ⟨n0, rfl, _, _, wf0⟩ := open_int Try.underlying53 (hval 0 53 v0 rfl rfl) h0
  have k1 := h1
  have lt1 : ∀ x ∈ p1, x.block < W.heap.size := by obtain ⟨m, hm⟩ := k1; exact DataW.trod_lt m _ _ _ hm
  obtain ⟨n1, rfl, _, _, wf1⟩ := open_int Try.underlying5 (hval 1 5 v1 rfl rfl) h1
  have k2 := h2
  have lt2 : ∀ x ∈ p2, x.block < W.heap.size := by obtain ⟨m, hm⟩ := k2; exact DataW.trod_lt m _ _ _ hm
  obtain ⟨n2, rfl, _, _, wf2⟩ := open_int Try.underlying5 (hval 2 5 v2 rfl rfl) h2
  clear hA0 hval0
  refine (lawTFull_any head13_any n0 wf0 n1 wf1 n2 wf2 W ).mono fun e W' ⟨he, bel⟩ => ?_
  subst he
  exact ⟨_, rfl, _, _, _, [], _, [], hW', trodAll_mk1 (shut_bool Try.underlying4 _), (trodAll_cons_mk (Below.trod Try.laidOut (by kernel_rfl) (of_decide_eq_true (by kernel_rfl)) k0 bel lt0) (trodAll_cons_mk (Below.trod Try.laidOut (by kernel_rfl) (of_decide_eq_true (by kernel_rfl)) k1 bel lt1) (trodAll_cons_mk (Below.trod Try.laidOut (by kernel_rfl) (of_decide_eq_true (by kernel_rfl)) k2 bel lt2) trodAll_mk0))), rfl, bel.frame _, fun h => by cases h⟩

theorem TransFull_over : Rows.transFullRow.holds Try.pinned (OpenSpec.ofChange Rows.transFullSpec) :=
  OpenClaim.holds_of_wide 9 Try.f9 rfl rfl rfl rfl rfl rfl rfl ⟨rfl, rfl, rfl, rfl, rfl⟩ rfl rfl rfl rfl rfl (by kernel_rfl) Try.func9 (by kernel_rfl)
    (of_decide_eq_true (by kernel_rfl)) (by unfold Func.isWrapper; first | (rw [if_pos (by decide +kernel)]; kernel_rfl) | (rw [if_neg (by decide +kernel)]; exact ⟨rfl, rfl⟩))
    (fun os started H enc _ => TransFull_lifted os started H enc)

theorem TransFull_holds : Rows.TransFullSaid := TransFull_over
end Go.Proofs.Ytnpffificfghpaa
