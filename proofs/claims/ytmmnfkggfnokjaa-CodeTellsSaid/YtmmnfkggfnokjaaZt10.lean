import Derived.Test.YtmmnfkggfnokjaaZt9
set_option linter.unusedVariables false
namespace Go.Proofs.Ytmmnfkggfnokjaa
open Go.RowKit
/-! ### unis -/
theorem unifyS_mono (ts : List Tm) (m : MkS) : m.code.length ≤ (unifyS ts m).1.code.length := by
  obtain ⟨ch, e, _⟩ := unifyS_q ts m
  rw [e, List.length_append]
  omega
theorem unifyS_upto (ts : List Tm) (k : Nat) (m : MkS) : (unifyS (ts.take k) m).1.code.length ≤ (unifyS ts m).1.code.length := by
  have h := unifyS_append (ts.take k) (ts.drop k) m
  rw [List.take_append_drop] at h
  rw [h]
  exact unifyS_mono _ _
theorem own_at {w : World} {B e n : Nat} {v : Value} {vs : List Value} (h : w.ownsRow B e 1 v n vs) : ∃ al cl, v = .slice al n cl ∧ n ≤ cl ∧ cl ≤ 9223372036854775807 ∧ ∀ k (hk : k < vs.length), ∃ gl, al = some ⟨gl, 0, none⟩ ∧ B ≤ gl ∧ gl < w.heap.size ∧ w.cell? ⟨gl, k, none⟩ = some vs[k] := by
  obtain ⟨hl, h2⟩ := h
  rcases h2 with ⟨rfl, h0⟩ | ⟨g, cap, cur, rfl, hB, hg, hn, hm, hs, ht⟩
  · subst h0
    refine ⟨none, 0, rfl, Nat.le_refl _, by omega, fun k hk => ?_⟩
    omega
  · refine ⟨_, _, rfl, hn, by unfold maxLen at hm; omega, fun k hk => ⟨g, rfl, hB, (Array.getElem?_eq_some_iff.1 hg).1, ?_⟩⟩
    rw [cell_of_row w g k _ _ _ hg]
    have e1 : vs[k]? = some vs[k] := List.getElem?_eq_getElem hk
    generalize vs[k] = x at e1 ⊢
    rw [← ht, List.getElem?_take] at e1
    split at e1
    · rw [← Array.getElem?_toList]; exact e1
    · cases e1
theorem pl_c {w : World} {a : Option Addr} {c : Nat} {xs : List Cel} (n : Nat) (hn : xs.length = n) (h : Row w a c xs) (r : Int) (h1 : -9223372036854775808 ≤ r) (h2 : r ≤ 9223372036854775807) : RepC.C w (#[Value.slice a n c, .int .i64 r]).toList (⟨xs, r⟩ : Pl) := by
  subst hn
  exact ⟨⟨a, c, rfl, h⟩, h1, h2⟩
theorem fit_w (op x a n : Int) (ho : 0 ≤ op ∧ op ≤ 100) (hx : -9223372036854775808 ≤ x ∧ x ≤ 9223372036854775807) (ha : -9223372036854775808 ≤ a ∧ a ≤ 9223372036854775807) (hn : -9223372036854775808 ≤ n ∧ n ≤ 9223372036854775807) : Ins.fit ⟨op, x, a, ⟨#[]⟩, n, false⟩ :=
  ⟨by show _ ≤ op; omega, by show op ≤ _; omega, hx.1, hx.2, ha.1, ha.2, by show (0 : Nat) ≤ _; omega, hn.1, hn.2⟩
theorem Try.infoArg10 : (Try.prog.info? 102).map (fun i => (i.zero, i.size, i.bytes)) = some (some (.agg #[.slice none 0 0, .int .i64 0]), 2, 32) := by kernel_rfl
set_option maxRecDepth 100000 in
set_option maxHeartbeats 25600000 in
theorem unis_any (us : List Nat) (w : World) (ac : Option Addr) (cc : Nat) (av : Option Addr) (cv : Nat) (ar : Option Addr) (cr : Nat) (m : MkS) (vs rs : List Int) (hst : StR us w ac cc av cv ar cr m vs rs) (hbj : Bj 0 m vs rs) (aR : Option Addr) (cR : Nat) (ps : List Pl) (at0 : Option Addr) (ct : Nat) (t : Tm) (hu : ∀ k ∈ us, k < w.heap.size) (hR : Row (veil us w) aR cR ps) (hT : Row (veil us w) at0 ct t.flat) (ht : t.ok) (h3 : t.hd.k = 3) (h200 : t.flat.length ≤ 200) (hl : (unifyS t.args m).1.code.length ≤ 10000) (hp : ps.length ≤ 10000) :
    Calls Try.prog 152 #[.agg #[.slice ac m.code.length cc, .int .i64 m.next, .slice av vs.length cv, .slice ar rs.length cr], .slice aR ps.length cR, .slice at0 t.flat.length ct] w fun e w' => ∃ ac' cc' av' cv' ar' cr' vs' rs' a2 c2, e = .returned (.tuple #[.agg #[.slice ac' (unifyS t.args m).1.code.length cc', .int .i64 (unifyS t.args m).1.next, .slice av' (List.length vs') cv', .slice ar' (List.length rs') cr'], .slice a2 (ps ++ (unifyS t.args m).2.map plOf).length c2]) ∧ SX 0 us w' ac' cc' av' cv' ar' cr' (unifyS t.args m).1 vs' rs' ∧ Row (veil us w') a2 c2 (ps ++ (unifyS t.args m).2.map plOf) ∧ Below w.heap.size w w' := by
  obtain ⟨W, hW⟩ : ∃ W, (w.alloc (.cells #[.slice ac m.code.length cc, .int .i64 m.next, .slice av vs.length cv, .slice ar rs.length cr] 104)).alloc (.cells #[.slice none 0 0, .int .i64 0, .slice none 0 0, .slice none 0 0] 104) = W := ⟨_, rfl⟩
  have hb0 : Below w.heap.size w W := by rw [← hW]; exact ((Below.refl _ _).new _).new _
  have hs1 : (w.alloc (.cells #[.slice ac m.code.length cc, .int .i64 m.next, .slice av vs.length cv, .slice ar rs.length cr] 104)).heap.size = w.heap.size + 1 := by simp
  have hk0 : W.heap[w.heap.size]? = some (.cells #[.slice ac m.code.length cc, .int .i64 m.next, .slice av vs.length cv, .slice ar rs.length cr] 104 (0, 0)) := by
    rw [← hW]
    exact (heap_alloc_old _ _ (by simp)).trans (heap_alloc_new _ _)
  have HK1 : Hid (W.heap[w.heap.size + 1]? = some (.cells #[.slice none 0 0, .int .i64 0, .slice none 0 0, .slice none 0 0] 104 (0, 0))) := by
    rw [Hid, ← hW, ← hs1]
    exact heap_alloc_new _ _
  have HZ : Hid (W.heap.size = w.heap.size + 2) := by rw [Hid, ← hW]; simp
  obtain ⟨us2, hus2⟩ : ∃ us2, [w.heap.size, w.heap.size + 1] ++ us = us2 := ⟨_, rfl⟩
  have HU2 : Hid (∀ X : World, w.heap.size + 2 ≤ X.heap.size → ∀ k ∈ us2, k < X.heap.size) := by
    rw [Hid, ← hus2]
    intro X hX k hk
    rcases List.mem_append.1 hk with h | h
    · simp at h; omega
    · have := hu k h; omega
  have HIN : Hid (∀ k ∈ us2, k ∈ us ∨ w.heap.size ≤ k) := by
    rw [Hid, ← hus2]
    intro k hk
    rcases List.mem_append.1 hk with h | h
    · simp at h; right; omega
    · exact .inl h
  have HM2 : Hid (∀ k ∈ us, k ∈ us2) := by
    rw [Hid, ← hus2]
    exact fun k hk => List.mem_append_right _ hk
  have H02 : Hid (w.heap.size ∈ us2 ∧ w.heap.size + 1 ∈ us2) := by rw [Hid, ← hus2]; exact ⟨by simp, by simp⟩
  have hst2 := hst.to (Fr.of hb0) HIN.out
  have HSB : Hid (SB 0 us2 W w.heap.size m) := ⟨ac, cc, av, cv, ar, cr, vs, rs, hk0, hst2, hbj⟩
  have HR := mkHid (hR.keeps (veil_toR (Fr.of hb0) HIN.out))
  have HT := mkHid (hT.keeps (veil_toR (Fr.of hb0) HIN.out))
  have HB := mkHid hb0
  have HOK := mkHid ht
  have hP : partsL t.flat = t.args.map Tm.flat := parts_flat ht
  have HKI := mkHid (ok_kinds t ht)
  have HFL := mkHid hl
  have hpos := flat_pos t
  have htk : (t.flat[0]'hpos).k = 3 := by simp only [flat_cons, List.getElem_cons_zero]; exact h3
  have HPT := mkHid (refparts_own at0 ct W t.flat (HT.out.keeps (veil_keeps us2 W)) (right_flat ht h200) hpos htk)
  rw [hP] at HPT
  have hna : t.args.length ≤ 200 := by
    have h6 := h200
    have key : ∀ ts : List Tm, ts.length ≤ (flats ts).length := by
      intro ts
      induction ts with
      | nil => simp [flats]
      | cons t ts ih =>
        have := flat_pos t
        simp only [flats, List.length_cons, List.length_append]
        omega
    have := key t.args
    rw [flat_cons, List.length_cons] at h6
    omega
  clear hb0 hs1 hus2 hst hst2 hk0 hR hT ht h3 hpos htk hP hbj hl h200 hu
  go_enter Try.func152, Try.ntmps152
  go_wp2_with fail
  first | rw [hW] | skip
  clear hW
  refine HPT.out.mono ?_
  rintro e w1 ⟨vl, ws, rfl, hown, hsl, hb1⟩
  rw [List.length_map] at hown
  have hwl := hown.1
  rw [Nat.mul_one] at hwl
  obtain ⟨al, cl, rfl, hlc, hlm, hlat⟩ := own_at hown
  have HSL := mkHid hsl
  have HLA := mkHid hlat
  have hfr : Fr us2 W w1 := Fr.of hb1
  have HSB1 := mkHid (SB.on HSB.out hfr (hb1.block w.heap.size (by have := HZ.out; omega)))
  have HR1 := mkHid (HR.out.keeps (veil_toR hfr fun k hk => .inl hk))
  have HT1 := mkHid (HT.out.keeps (veil_toR hfr fun k hk => .inl hk))
  have HK2 := mkHid ((hb1.block (w.heap.size + 1) (by have := HZ.out; omega)).trans HK1.out)
  have HB1 := mkHid (HB.out.then hb1)
  have HZ1 : Hid (w.heap.size + 2 ≤ w1.heap.size) := by have := HZ.out; have := hb1.size; rw [Hid]; omega
  have HWL := mkHid hwl
  clear hown hsl hlat hfr hb1 HSB HR HT HK1 HB HPT hwl
  go_wp2_with fail
  go_loopw [1, 9] (fun rv i wr => ∃ (k : Nat) (aQ : Option Addr) (cQ : Nat) (qs : List Pl), k ≤ t.args.length ∧ i = .int .i64 k ∧ rv = .slice aQ qs.length cQ ∧ qs.length ≤ 10000 + k ∧ Hid (qs = ps ++ (unifyS (t.args.take k) m).2.map plOf) ∧ Hid (Row (veil us2 wr) aQ cQ qs) ∧ Hid (Fr [w.heap.size] w1 wr) ∧ Hid (SB 0 us2 wr w.heap.size (unifyS (t.args.take k) m).1)) (fun _ i wr => t.args.length - (intOf i).toNat)
  case atStart => exact ⟨0, aR, cR, ps, Nat.zero_le _, rfl, rfl, by omega, by rw [Hid]; simp [unifyS], HR1, Fr.refl _ _, HSB1⟩
  case round =>
    clear HR1 HSB1
    obtain ⟨k, aQ, cQ, qs, hk, rfl, rfl, hql, HQ, HRQ, HF, HSB⟩ := hrel
    obtain ⟨mk, hmk⟩ : ∃ mk, (unifyS (t.args.take k) m).1 = mk := ⟨_, rfl⟩
    have HMK := mkHid hmk
    rw [hmk] at HSB
    have hml : mk.code.length ≤ 10000 := by have := unifyS_upto t.args k m; have := HFL.out; rw [← hmk]; omega
    clear hmk
    have HZR : Hid (w.heap.size + 2 ≤ wr.heap.size) := by have := HZ1.out; have := HF.out.size; rw [Hid]; omega
    have HTR := mkHid (HT1.out.keeps (veil_toR (us := us2) (HF.out.sub fun k hk => by simp at hk; subst hk; exact H02.out.1) fun k hk => .inl hk))
    have HBR := mkHid (HB1.out.trans (HF.out.below (B := w.heap.size) (by have := HZ1.out; omega) fun k hk => by simp at hk; omega))
    obtain ⟨ac2, cc2, av2, cv2, ar2, cr2, vs2, rs2, hx, hsx⟩ := HSB.out
    have HX := mkHid hx
    have HSX := mkHid hsx
    clear hx hsx HSB
    by_cases hlt : k < t.args.length
    · have hltw : k < ws.length := by have := HWL.out; omega
      obtain ⟨gl, rfl, hglB, hgls, hglc⟩ := HLA.out k hltw
      have hglB2 : w.heap.size + 2 ≤ gl := by have := HZ.out; omega
      obtain ⟨u, hue⟩ : ∃ u, t.args[k] = u := ⟨_, rfl⟩
      obtain ⟨a3, c3, hwk, hr3⟩ := (HSL.out (veil us2 wr) HTR.out).row k ws[k] u.flat (List.getElem?_eq_getElem hltw) (by rw [List.getElem?_map, List.getElem?_eq_getElem hlt, hue]; rfl)
      rw [hwk] at hglc
      have hgl2 : wr.cell? ⟨gl, k, none⟩ = some (.slice a3 u.flat.length c3) := (World.cell?_of_block (w := w1) (a := ⟨gl, k, none⟩) (HF.out.block gl hgls (by simp; omega))).trans hglc
      have huk : kindOk u.hd := KindsL.mem (show KindsL t.args from by have := HKI.out; cases t; exact this.2.2) u (by rw [← hue]; exact List.getElem_mem hlt)
      have hpu := flat_pos u
      obtain ⟨b3, o3, rfl, hb3, hat3⟩ := hr3.cases.resolve_left (fun e => by rw [e] at hpu; simp at hpu)
      have hcv := cel_at hat3 (Below.refl _ _) hpu
      have hce : u.flat[0] = u.hd := by simp only [flat_cons, List.getElem_cons_zero]
      rw [hce] at hcv
      obtain ⟨hc0, hc1, hc2, hcf⟩ := hcv
      rw [Nat.zero_mul, Nat.add_zero] at hc0 hc1 hc2
      obtain ⟨hb3u, c0⟩ := veil_cell hc0
      have c2 := (veil_cell hc2).2
      have hb3n : b3 ≠ w.heap.size := fun e => hb3u (by rw [e]; exact H02.out.1)
      have hf1 := hcf.n1
      have hf2 := hcf.n2
      have HR3 := mkHid hr3
      have hle3 := hr3.le
      have hmx3 := hr3.max
      obtain ⟨m3, hm3⟩ : ∃ m3, u.flat.length = m3 + 1 := ⟨u.flat.length - 1, by omega⟩
      have HM3 := mkHid hm3
      rw [hm3] at hgl2 hle3
      have hnx := unifyS_next hlt m
      rw [hue, HMK.out] at hnx
      have hlen1 := unifyS_upto t.args (k + 1) m
      have hlen2 := HFL.out
      clear hwk hglc hr3 hat3 hc0 hc1 hc2 hcf hce hltw hm3 hb3 hpu
      rcases huk with h1 | h2 | h3'
      · rw [h1] at c0
        have hst : unifyS [u] mk = (mk.var u.hd.n 5 6 0, []) := by rw [unifyS_cons, if_pos h1]; rfl
        rw [hst] at hnx
        obtain ⟨M, R, F, hM⟩ : ∃ M R F, regM mk u.hd.n = (M, R, F) := ⟨_, _, _, rfl⟩
        have hvr := var_reg mk u.hd.n 5 6 0
        rw [hM] at hvr
        have HN1 : Hid ((unifyS (t.args.take (k + 1)) m).1 = M.lay ⟨if F then 5 else 6, R, 0, ⟨#[]⟩, 0, false⟩) := by rw [Hid, hnx]; exact hvr
        have HN2 : Hid (qs = ps ++ (unifyS (t.args.take (k + 1)) m).2.map plOf) := by rw [Hid, hnx, List.append_nil]; exact HQ.out
        have hMc : M.code.length = mk.code.length := by have := regM_code mk u.hd.n; rw [hM] at this; rw [this]
        have HM := mkHid hM
        clear hnx hst hvr hM hlen1 hlen2 h1 HQ
        have hMl : M.code.length ≤ 10000 := by omega
        clear hMc
        go_wp2_with fail
        refine wp_region_noPanic ?_
        obtain ⟨y0, hv0⟩ : ∃ X, wr.drew = X := ⟨_, rfl⟩
        have hbd : Below wr.heap.size wr y0 := by rw [← hv0]; exact (Below.refl _ _).drew
        have HXY := mkHid ((hbd.block w.heap.size (by have := HZR.out; omega)).trans HX.out)
        have HSY := mkHid (HSX.out.on (Fr.of hbd))
        have HQY := mkHid (HRQ.out.keeps (veil_toR (us := us2) (Fr.of hbd) fun k hk => .inl hk))
        have HFY := mkHid (HF.out.trans (Fr.of hbd))
        have HZY : Hid (w.heap.size + 2 ≤ y0.heap.size) := by have := HZR.out; have := hbd.size; rw [Hid]; omega
        have d0 := mkHid (keep hgl2 hbd)
        have d1 := mkHid (keep c2 hbd)
        have HS : Hid (∀ X, Below y0.heap.size y0 X → (fun X : World => (X.cell? ⟨w.heap.size, 0, none⟩ = some (.slice ac2 mk.code.length cc2) ∧ X.cell? ⟨w.heap.size, 1, none⟩ = some (.int .i64 mk.next) ∧ X.cell? ⟨w.heap.size, 2, none⟩ = some (.slice av2 vs2.length cv2) ∧ X.cell? ⟨w.heap.size, 3, none⟩ = some (.slice ar2 rs2.length cr2)) ∧ X.cell? ⟨gl, k, none⟩ = some (.slice (some ⟨b3, o3, none⟩) (m3 + 1) c3) ∧ X.cell? ⟨b3, o3 + 2, none⟩ = some (.int .i64 u.hd.n)) X) := fun X h => by
          obtain ⟨q0, q1, q2, q3⟩ := st_cells HXY.out
          exact ⟨⟨keep q0 h, keep q1 h, keep q2 h, keep q3 h⟩, keep d0.out h, keep d1.out h⟩
        refine wp_region_held_drew (S := fun X : World => (X.cell? ⟨w.heap.size, 0, none⟩ = some (.slice ac2 mk.code.length cc2) ∧ X.cell? ⟨w.heap.size, 1, none⟩ = some (.int .i64 mk.next) ∧ X.cell? ⟨w.heap.size, 2, none⟩ = some (.slice av2 vs2.length cv2) ∧ X.cell? ⟨w.heap.size, 3, none⟩ = some (.slice ar2 rs2.length cr2)) ∧ X.cell? ⟨gl, k, none⟩ = some (.slice (some ⟨b3, o3, none⟩) (m3 + 1) c3) ∧ X.cell? ⟨b3, o3 + 2, none⟩ = some (.int .i64 u.hd.n)) (by kernel_rfl) (by rw [hv0]; exact HS.out _ (Below.refl _ _)) (fun hSd => ?_)
        rw [hv0] at hSd ⊢
        have HB0 := mkHid (Below.refl y0.heap.size y0)
        clear hv0 hbd c0 c2 hgl2 HX HSX HRQ HF HZR HBR HTR
        refine wpAnyH_take (i := 0) (oi := _) (v := ?_) rfl (by kernel_rfl) (by kernel_rfl) (by kernel_rfl) (fun _ _ _ h => h) (Or.inl ⟨by rfl, ?_⟩) (by assumption) ?_
        rotate_left
        · (intro w' hSw; obtain ⟨⟨z0, z1, z2, z3⟩, z4, z5⟩ := hSw; go_simp; try with_reducible rfl)
        (try simp only [List.getElem_toArray, List.getElem_cons_succ, List.getElem_cons_zero, Act.put, List.setIfInBounds_toArray, List.set_cons_zero, List.set_cons_succ])
        refine wpAnyH_take (i := 1) (oi := _) (v := ?_) rfl (by kernel_rfl) (by kernel_rfl) (by kernel_rfl) (fun _ _ _ h => h) (Or.inl ⟨by rfl, ?_⟩) (by assumption) ?_
        rotate_left
        · (intro w' hSw; obtain ⟨⟨z0, z1, z2, z3⟩, z4, z5⟩ := hSw; go_simp; try with_reducible rfl)
        (try simp only [List.getElem_toArray, List.getElem_cons_succ, List.getElem_cons_zero, Act.put, List.setIfInBounds_toArray, List.set_cons_zero, List.set_cons_succ])
        refine wpAnyH_take (i := 2) (oi := _) (v := ?_) rfl (by kernel_rfl) (by kernel_rfl) (by kernel_rfl) (fun _ _ _ h => h) (Or.inl ⟨by rfl, ?_⟩) (by assumption) ?_
        rotate_left
        · (intro w' hSw; obtain ⟨⟨z0, z1, z2, z3⟩, z4, z5⟩ := hSw; go_simp; try with_reducible rfl)
        (try simp only [List.getElem_toArray, List.getElem_cons_succ, List.getElem_cons_zero, Act.put, List.setIfInBounds_toArray, List.set_cons_zero, List.set_cons_succ])
        refine wpAnyH_take (i := 3) (oi := _) (v := ?_) rfl (by kernel_rfl) (by kernel_rfl) (by kernel_rfl) (fun _ _ _ h => h) (Or.inl ⟨by rfl, ?_⟩) (by assumption) ?_
        rotate_left
        · (intro w' hSw; obtain ⟨⟨z0, z1, z2, z3⟩, z4, z5⟩ := hSw; go_simp; try with_reducible rfl)
        (try simp only [List.getElem_toArray, List.getElem_cons_succ, List.getElem_cons_zero, Act.put, List.setIfInBounds_toArray, List.set_cons_zero, List.set_cons_succ])
        refine wpAnyH_take (i := 4) (oi := _) (v := ?_) rfl (by kernel_rfl) (by kernel_rfl) (by kernel_rfl) (fun _ _ _ h => h) (Or.inl ⟨by rfl, ?_⟩) (by assumption) ?_
        rotate_left
        · (intro w' hSw; obtain ⟨⟨z0, z1, z2, z3⟩, z4, z5⟩ := hSw; go_simp; try with_reducible rfl)
        (try simp only [List.getElem_toArray, List.getElem_cons_succ, List.getElem_cons_zero, Act.put, List.setIfInBounds_toArray, List.set_cons_zero, List.set_cons_succ])
        refine wpAnyH_take (i := 5) (oi := _) (v := ?_) rfl (by kernel_rfl) (by kernel_rfl) (by kernel_rfl) (fun _ _ _ h => h) (Or.inl ⟨by rfl, ?_⟩) (by assumption) ?_
        rotate_left
        · (intro w' hSw; obtain ⟨⟨z0, z1, z2, z3⟩, z4, z5⟩ := hSw; go_simp; try with_reducible rfl)
        (try simp only [List.getElem_toArray, List.getElem_cons_succ, List.getElem_cons_zero, Act.put, List.setIfInBounds_toArray, List.set_cons_zero, List.set_cons_succ])
        refine wpAnyH_take (i := 6) (oi := _) (v := ?_) rfl (by kernel_rfl) (by kernel_rfl) (by kernel_rfl) (fun _ _ _ h => h) (Or.inl ⟨by rfl, ?_⟩) (by assumption) ?_
        rotate_left
        · (intro w' hSw; obtain ⟨⟨z0, z1, z2, z3⟩, z4, z5⟩ := hSw; go_simp; try with_reducible rfl)
        (try simp only [List.getElem_toArray, List.getElem_cons_succ, List.getElem_cons_zero, Act.put, List.setIfInBounds_toArray, List.set_cons_zero, List.set_cons_succ])
        refine wpAnyH_take (i := 7) (oi := _) (v := ?_) rfl (by kernel_rfl) (by kernel_rfl) (by kernel_rfl) (fun _ _ _ h => h) (Or.inl ⟨by rfl, ?_⟩) (by assumption) ?_
        rotate_left
        · (intro w' hSw; obtain ⟨⟨z0, z1, z2, z3⟩, z4, z5⟩ := hSw; go_simp; try with_reducible rfl)
        (try simp only [List.getElem_toArray, List.getElem_cons_succ, List.getElem_cons_zero, Act.put, List.setIfInBounds_toArray, List.set_cons_zero, List.set_cons_succ])
        refine wpAnyH_ready (rs := [8, 13]) (by kernel_rfl) (by simp) ?_
        refine AllReadyH.cons (o := _) rfl (fun K hK => ?_) ?_
        · go_simp
          refine (register_sy us2 y0 ac2 cc2 av2 cv2 ar2 cr2 mk vs2 rs2 u.hd.n M R F HM.out hf1 hf2 (HU2.out y0 HZY.out) HSY.out hml).mono ?_
          rintro r y1 ⟨av4, cv4, ar4, cr4, vs4, rs4, rfl, hRb, hs4, hb4⟩
          have HBC := mkHid (HB0.out.trans (hb4.mono HB0.out.size))
          have HS1 := mkHid hs4
          clear hs4 hb4
          try dsimp only
          refine hK.out _ _ (HS.out _ HBC.out) (fun _ => ?_)
          clear hK K
          (try simp only [List.getElem_toArray, List.getElem_cons_succ, List.getElem_cons_zero, Act.put, List.setIfInBounds_toArray, List.set_cons_zero, List.set_cons_succ])
          refine wpAnyH_take (i := 9) (oi := _) (v := ?_) rfl (by kernel_rfl) (by kernel_rfl) (by kernel_rfl) (fun _ _ _ h => h) (Or.inl ⟨by rfl, ?_⟩) (by assumption) ?_
          rotate_left
          · (intro w' hSw; obtain ⟨⟨z0, z1, z2, z3⟩, z4, z5⟩ := hSw; go_simp; try with_reducible rfl)
          (try simp only [List.getElem_toArray, List.getElem_cons_succ, List.getElem_cons_zero, Act.put, List.setIfInBounds_toArray, List.set_cons_zero, List.set_cons_succ])
          refine wpAnyH_take (i := 10) (oi := _) (v := ?_) rfl (by kernel_rfl) (by kernel_rfl) (by kernel_rfl) (fun _ _ _ h => h) (Or.inl ⟨by rfl, ?_⟩) (by assumption) ?_
          rotate_left
          · (intro w' hSw; obtain ⟨⟨z0, z1, z2, z3⟩, z4, z5⟩ := hSw; go_simp; try with_reducible rfl)
          (try simp only [List.getElem_toArray, List.getElem_cons_succ, List.getElem_cons_zero, Act.put, List.setIfInBounds_toArray, List.set_cons_zero, List.set_cons_succ])
          refine wpAnyH_take (i := 11) (oi := _) (v := ?_) rfl (by kernel_rfl) (by kernel_rfl) (by kernel_rfl) (fun _ _ _ h => h) (Or.inl ⟨by rfl, ?_⟩) (by assumption) ?_
          rotate_left
          · (intro w' hSw; obtain ⟨⟨z0, z1, z2, z3⟩, z4, z5⟩ := hSw; go_simp; try with_reducible rfl)
          (try simp only [List.getElem_toArray, List.getElem_cons_succ, List.getElem_cons_zero, Act.put, List.setIfInBounds_toArray, List.set_cons_zero, List.set_cons_succ])
          refine wpAnyH_take (i := 12) (oi := _) (v := ?_) rfl (by kernel_rfl) (by kernel_rfl) (by kernel_rfl) (fun _ _ _ h => h) (Or.inl ⟨by rfl, ?_⟩) (by assumption) ?_
          rotate_left
          · (intro w' hSw; obtain ⟨⟨z0, z1, z2, z3⟩, z4, z5⟩ := hSw; go_simp; try with_reducible rfl)
          (try simp only [List.getElem_toArray, List.getElem_cons_succ, List.getElem_cons_zero, Act.put, List.setIfInBounds_toArray, List.set_cons_zero, List.set_cons_succ])
          refine wpAnyH_ready (rs := [13]) (by kernel_rfl) (by simp) ?_
          refine AllReadyH.cons (o := _) rfl (fun K hK => ?_) AllReadyH.nil
          go_simp
          have HBN := mkHid (HBC.out.trans ((Below.refl y1.heap.size y1).new (.cells #[.slice none 0 0, .int .i64 0, .slice none 0 0, .slice none 0 0] 104) |>.mono HBC.out.size))
          have HG : Hid ((y1.alloc (.cells #[.slice none 0 0, .int .i64 0, .slice none 0 0, .slice none 0 0] 104)).heap[y1.heap.size]? = some (.cells #[.slice none 0 0, .int .i64 0, .slice none 0 0, .slice none 0 0] 104 (0, 0))) := heap_alloc_new _ _
          have HGY : Hid (y0.heap.size ≤ y1.heap.size) := HBC.out.size
          have HSN : Hid (SX 1 (y1.heap.size :: us2) (y1.alloc (.cells #[.slice none 0 0, .int .i64 0, .slice none 0 0, .slice none 0 0] 104)) ac2 cc2 av4 cv4 ar4 cr4 M vs4 rs4) := HS1.out.to (Fr.of ((Below.refl _ _).new _)) fun k hk => by
            rcases List.mem_cons.1 hk with rfl | hk
            · right; exact Nat.le_refl _
            · exact .inl hk
          clear HS1 HBC
          try dsimp only
          refine hK.out _ _ (HS.out _ HBN.out) (fun _ => ?_)
          clear hK K
          (try simp only [List.getElem_toArray, List.getElem_cons_succ, List.getElem_cons_zero, Act.put, List.setIfInBounds_toArray, List.set_cons_zero, List.set_cons_succ])
          generalize (y1.alloc (.cells #[.slice none 0 0, .int .i64 0, .slice none 0 0, .slice none 0 0] 104)) = yz at *
          refine wpAnyH_ready (rs := [14]) (by kernel_rfl) (by simp) ?_
          refine AllReadyH.cons (o := _) rfl (fun K hK => ?_) AllReadyH.nil
          obtain ⟨f0, f1, f2, f3⟩ := st_free HG.out
          obtain ⟨k0, k1, k2, k3⟩ := st_cells HG.out
          have HY4 := mkHid (below_four HBN.out (g := y1.heap.size) HGY.out (.slice ac2 M.code.length cc2) (.int .i64 M.next) (.slice av4 vs4.length cv4) (.slice ar4 rs4.length cr4))
          have HX4 := mkHid ((HY4.out.block w.heap.size (by have := HZY.out; omega)).trans HXY.out)
          have HG4 := mkHid (st_all HG.out (.slice ac2 M.code.length cc2) (.int .i64 M.next) (.slice av4 vs4.length cv4) (.slice ar4 rs4.length cr4))
          have HS4 := mkHid (HSN.out.on ((Fr.refl (y1.heap.size :: us2) yz).four (List.mem_cons_self) (.slice ac2 M.code.length cc2) (.int .i64 M.next) (.slice av4 vs4.length cv4) (.slice ar4 rs4.length cr4)))
          go_simp
          try dsimp only
          refine hK.out _ _ (HS.out _ HY4.out) (fun hSz => ?_)
          clear hK K f0 f1 f2 f3 k0 k1 k2 k3
          (try simp only [List.getElem_toArray, List.getElem_cons_succ, List.getElem_cons_zero, Act.put, List.setIfInBounds_toArray, List.set_cons_zero, List.set_cons_succ])
          refine wpAnyH_take (i := 15) (oi := _) (v := ?_) rfl (by kernel_rfl) (by kernel_rfl) (by kernel_rfl) (fun _ _ _ h => h) (Or.inl ⟨by rfl, ?_⟩) (by assumption) ?_
          rotate_left
          · (intro w' hSw; obtain ⟨⟨z0, z1, z2, z3⟩, z4, z5⟩ := hSw; go_simp; try with_reducible rfl)
          (try simp only [List.getElem_toArray, List.getElem_cons_succ, List.getElem_cons_zero, Act.put, List.setIfInBounds_toArray, List.set_cons_zero, List.set_cons_succ])
          refine wpAnyH_take (i := 16) (oi := _) (v := ?_) rfl (by kernel_rfl) (by kernel_rfl) (by kernel_rfl) (fun _ _ _ h => h) (Or.inl ⟨by rfl, ?_⟩) (by assumption) ?_
          rotate_left
          · (intro w' hSw; obtain ⟨⟨z0, z1, z2, z3⟩, z4, z5⟩ := hSw; go_simp; try with_reducible rfl)
          (try simp only [List.getElem_toArray, List.getElem_cons_succ, List.getElem_cons_zero, Act.put, List.setIfInBounds_toArray, List.set_cons_zero, List.set_cons_succ])
          refine wpAnyH_done (by kernel_rfl) (NoPanic.normal ?_) _
          have HQ4 := mkHid (HQY.out.keeps (veil_toR (us := us2) (Fr.of HY4.out) fun k hk => .inl hk))
          have HF4 := mkHid (HFY.out.trans (Fr.of HY4.out))
          have HGB : Hid (y1.heap.size ≠ w.heap.size) := by have := HGY.out; have := HZY.out; rw [Hid]; omega
          have HZ4 : Hid (w.heap.size + 2 ≤ ((((yz.setCell ⟨y1.heap.size, 0, none⟩ (.slice ac2 M.code.length cc2)).setCell ⟨y1.heap.size, 1, none⟩ (.int .i64 M.next)).setCell ⟨y1.heap.size, 2, none⟩ (.slice av4 vs4.length cv4)).setCell ⟨y1.heap.size, 3, none⟩ (.slice ar4 rs4.length cr4)).heap.size) := by have := HY4.out.size; have := HZY.out; rw [Hid]; omega
          generalize ((((yz.setCell ⟨y1.heap.size, 0, none⟩ (.slice ac2 M.code.length cc2)).setCell ⟨y1.heap.size, 1, none⟩ (.int .i64 M.next)).setCell ⟨y1.heap.size, 2, none⟩ (.slice av4 vs4.length cv4)).setCell ⟨y1.heap.size, 3, none⟩ (.slice ar4 rs4.length cr4)) = zz at *
          generalize y1.heap.size = g10 at *
          clear HG HSN HBN hSz hSd HS HY4 HSY HXY HQY HFY HZY d0 d1 HGY
          obtain ⟨l0, l1, l2, l3⟩ := st_cells HG4.out
          obtain ⟨k0, k1, k2, k3⟩ := st_cells HX4.out
          obtain ⟨f0, f1, f2, f3⟩ := st_free HX4.out
          have HX5 := mkHid (st_all HX4.out (.slice ac2 M.code.length cc2) (.int .i64 M.next) (.slice av4 vs4.length cv4) (.slice ar4 rs4.length cr4))
          have HF5 := mkHid ((Fr.refl [w.heap.size] zz).four (g := w.heap.size) (by simp) (.slice ac2 M.code.length cc2) (.int .i64 M.next) (.slice av4 vs4.length cv4) (.slice ar4 rs4.length cr4))
          have HS5 := mkHid ((HS4.out.on ((Fr.refl (g10 :: us2) zz).four (g := w.heap.size) (List.mem_cons_of_mem _ H02.out.1) (.slice ac2 M.code.length cc2) (.int .i64 M.next) (.slice av4 vs4.length cv4) (.slice ar4 rs4.length cr4))).sub (us' := us2) fun k hk => List.mem_cons_of_mem _ hk)
          have HZ5 : Hid (w.heap.size + 2 ≤ ((((zz.setCell ⟨w.heap.size, 0, none⟩ (.slice ac2 M.code.length cc2)).setCell ⟨w.heap.size, 1, none⟩ (.int .i64 M.next)).setCell ⟨w.heap.size, 2, none⟩ (.slice av4 vs4.length cv4)).setCell ⟨w.heap.size, 3, none⟩ (.slice ar4 rs4.length cr4)).heap.size) := by have := HF5.out.size; have := HZ4.out; rw [Hid]; omega
          obtain ⟨p0, p1, p2, p3⟩ := st_cells HX5.out
          have HQ5 := mkHid (HQ4.out.keeps (veil_toR (us := us2) (HF5.out.sub fun k hk => by simp at hk; subst hk; exact H02.out.1) fun k hk => .inl hk))
          have HF6 := mkHid (HF4.out.trans HF5.out)
          cases F
          · go_wp2_with fail
            refine (emit_sx 1 us2 _ ac2 cc2 av4 cv4 ar4 cr4 M vs4 rs4 ⟨6, R, 0, ⟨#[]⟩, 0, false⟩ (fit_w _ _ _ _ (by omega) hRb (by omega) (by omega)) (HU2.out _ HZ5.out) HS5.out hMl).mono ?_
            rintro r z6 ⟨a5, c5, rfl, hs6, hb6⟩
            have HX6 := mkHid ((hb6.block w.heap.size (by have := HZ5.out; omega)).trans HX5.out)
            have HS6 := mkHid hs6
            have HQ6 := mkHid (HQ5.out.keeps (veil_toR (us := us2) (Fr.of hb6) fun k hk => .inl hk))
            have HF7 := mkHid (HF6.out.trans (Fr.of hb6))
            clear l0 l1 l2 l3 k0 k1 k2 k3 f0 f1 f2 f3 p0 p1 p2 p3 HX5 HS5 HQ5 HF6 HX4 HS4 HG4 HQ4 HF4 HF5 HZ5 HZ4 hs6 hb6
            obtain ⟨k0, k1, k2, k3⟩ := st_cells HX6.out
            obtain ⟨f0, f1, f2, f3⟩ := st_free HX6.out
            have HSB7 := mkHid (SB.stored HX6.out H02.out.1 HS6.out)
            have HSB8 : Hid (SB 0 us2 ((((z6.setCell ⟨w.heap.size, 0, none⟩ (.slice a5 (M.lay ⟨6, R, 0, ⟨#[]⟩, 0, false⟩).code.length c5)).setCell ⟨w.heap.size, 1, none⟩ (.int .i64 (M.lay ⟨6, R, 0, ⟨#[]⟩, 0, false⟩).next)).setCell ⟨w.heap.size, 2, none⟩ (.slice av4 vs4.length cv4)).setCell ⟨w.heap.size, 3, none⟩ (.slice ar4 rs4.length cr4)) w.heap.size (unifyS (t.args.take (k + 1)) m).1) := by rw [Hid, HN1.out]; exact HSB7.out
            have HFF := mkHid ((Fr.refl [w.heap.size] z6).four (g := w.heap.size) (by simp) (.slice a5 (M.lay ⟨6, R, 0, ⟨#[]⟩, 0, false⟩).code.length c5) (.int .i64 (M.lay ⟨6, R, 0, ⟨#[]⟩, 0, false⟩).next) (.slice av4 vs4.length cv4) (.slice ar4 rs4.length cr4))
            have HQ8 := mkHid (HQ6.out.keeps (veil_toR (us := us2) (HFF.out.sub fun k hk => by simp at hk; subst hk; exact H02.out.1) fun k hk => .inl hk))
            have HF8 := mkHid (HF7.out.trans HFF.out)
            go_wp2_with fail
            go_round
            case rel => exact ⟨k + 1, aQ, cQ, qs, by omega, by go_num, rfl, by omega, HN2, HQ8, HF8, HSB8⟩
            case measure => simp [intOf]; omega
          · go_wp2_with fail
            refine (emit_sx 1 us2 _ ac2 cc2 av4 cv4 ar4 cr4 M vs4 rs4 ⟨5, R, 0, ⟨#[]⟩, 0, false⟩ (fit_w _ _ _ _ (by omega) hRb (by omega) (by omega)) (HU2.out _ HZ5.out) HS5.out hMl).mono ?_
            rintro r z6 ⟨a5, c5, rfl, hs6, hb6⟩
            have HX6 := mkHid ((hb6.block w.heap.size (by have := HZ5.out; omega)).trans HX5.out)
            have HS6 := mkHid hs6
            have HQ6 := mkHid (HQ5.out.keeps (veil_toR (us := us2) (Fr.of hb6) fun k hk => .inl hk))
            have HF7 := mkHid (HF6.out.trans (Fr.of hb6))
            clear l0 l1 l2 l3 k0 k1 k2 k3 f0 f1 f2 f3 p0 p1 p2 p3 HX5 HS5 HQ5 HF6 HX4 HS4 HG4 HQ4 HF4 HF5 HZ5 HZ4 hs6 hb6
            obtain ⟨k0, k1, k2, k3⟩ := st_cells HX6.out
            obtain ⟨f0, f1, f2, f3⟩ := st_free HX6.out
            have HSB7 := mkHid (SB.stored HX6.out H02.out.1 HS6.out)
            have HSB8 : Hid (SB 0 us2 ((((z6.setCell ⟨w.heap.size, 0, none⟩ (.slice a5 (M.lay ⟨5, R, 0, ⟨#[]⟩, 0, false⟩).code.length c5)).setCell ⟨w.heap.size, 1, none⟩ (.int .i64 (M.lay ⟨5, R, 0, ⟨#[]⟩, 0, false⟩).next)).setCell ⟨w.heap.size, 2, none⟩ (.slice av4 vs4.length cv4)).setCell ⟨w.heap.size, 3, none⟩ (.slice ar4 rs4.length cr4)) w.heap.size (unifyS (t.args.take (k + 1)) m).1) := by rw [Hid, HN1.out]; exact HSB7.out
            have HFF := mkHid ((Fr.refl [w.heap.size] z6).four (g := w.heap.size) (by simp) (.slice a5 (M.lay ⟨5, R, 0, ⟨#[]⟩, 0, false⟩).code.length c5) (.int .i64 (M.lay ⟨5, R, 0, ⟨#[]⟩, 0, false⟩).next) (.slice av4 vs4.length cv4) (.slice ar4 rs4.length cr4))
            have HQ8 := mkHid (HQ6.out.keeps (veil_toR (us := us2) (HFF.out.sub fun k hk => by simp at hk; subst hk; exact H02.out.1) fun k hk => .inl hk))
            have HF8 := mkHid (HF7.out.trans HFF.out)
            go_wp2_with fail
            go_round
            case rel => exact ⟨k + 1, aQ, cQ, qs, by omega, by go_num, rfl, by omega, HN2, HQ8, HF8, HSB8⟩
            case measure => simp [intOf]; omega
        refine AllReadyH.cons (o := _) rfl (fun K hK => ?_) AllReadyH.nil
        go_simp
        have HB1' := mkHid (HB0.out.new (.cells #[.slice none 0 0, .int .i64 0, .slice none 0 0, .slice none 0 0] 104))
        have HG0 : Hid ((y0.alloc (.cells #[.slice none 0 0, .int .i64 0, .slice none 0 0, .slice none 0 0] 104)).heap[y0.heap.size]? = some (.cells #[.slice none 0 0, .int .i64 0, .slice none 0 0, .slice none 0 0] 104 (0, 0))) := heap_alloc_new _ _
        have HSN0 : Hid (SX 0 (y0.heap.size :: us2) (y0.alloc (.cells #[.slice none 0 0, .int .i64 0, .slice none 0 0, .slice none 0 0] 104)) ac2 cc2 av2 cv2 ar2 cr2 mk vs2 rs2) := HSY.out.to (Fr.of ((Below.refl _ _).new _)) fun k hk => by
          rcases List.mem_cons.1 hk with rfl | hk
          · right; exact Nat.le_refl _
          · exact .inl hk
        have HUN : Hid (∀ k ∈ y0.heap.size :: us2, k < (y0.alloc (.cells #[.slice none 0 0, .int .i64 0, .slice none 0 0, .slice none 0 0] 104)).heap.size) := by
          intro k hk
          rw [World.size_alloc]
          rcases List.mem_cons.1 hk with rfl | hk
          · omega
          · have := HU2.out y0 HZY.out k hk; omega
        have hsz : (y0.alloc (.cells #[.slice none 0 0, .int .i64 0, .slice none 0 0, .slice none 0 0] 104)).heap.size = y0.heap.size + 1 := World.size_alloc _ _
        have HSZ := mkHid hsz
        clear hsz
        try dsimp only
        refine hK.out _ _ (HS.out _ HB1'.out) (fun _ => ?_)
        clear hK K
        (try simp only [List.getElem_toArray, List.getElem_cons_succ, List.getElem_cons_zero, Act.put, List.setIfInBounds_toArray, List.set_cons_zero, List.set_cons_succ])
        refine wpAnyH_ready (rs := [8]) (by kernel_rfl) (by simp) ?_
        refine AllReadyH.cons (o := _) rfl (fun K hK => ?_) AllReadyH.nil
        go_simp
        refine (register_sy (y0.heap.size :: us2) (y0.alloc (.cells #[.slice none 0 0, .int .i64 0, .slice none 0 0, .slice none 0 0] 104)) ac2 cc2 av2 cv2 ar2 cr2 mk vs2 rs2 u.hd.n M R F HM.out hf1 hf2 HUN.out HSN0.out hml).mono ?_
        rintro r y1 ⟨av4, cv4, ar4, cr4, vs4, rs4, rfl, hRb, hs4, hb4⟩
        have HBC := mkHid (HB1'.out.trans (hb4.mono HB1'.out.size))
        have HS1 := mkHid hs4
        have HG : Hid (y1.heap[y0.heap.size]? = some (.cells #[.slice none 0 0, .int .i64 0, .slice none 0 0, .slice none 0 0] 104 (0, 0))) := (hb4.block y0.heap.size (by rw [HSZ.out]; omega)).trans HG0.out
        have HGY : Hid (y0.heap.size ≤ y0.heap.size) := Nat.le_refl _
        have HSN := HS1
        have HBN := HBC
        clear HS1 HG0 HSN0 hs4 hb4 HUN HSZ
        try dsimp only
        refine hK.out _ _ (HS.out _ HBC.out) (fun _ => ?_)
        clear hK K
        (try simp only [List.getElem_toArray, List.getElem_cons_succ, List.getElem_cons_zero, Act.put, List.setIfInBounds_toArray, List.set_cons_zero, List.set_cons_succ])
        clear HBC
        refine wpAnyH_take (i := 9) (oi := _) (v := ?_) rfl (by kernel_rfl) (by kernel_rfl) (by kernel_rfl) (fun _ _ _ h => h) (Or.inl ⟨by rfl, ?_⟩) (by assumption) ?_
        rotate_left
        · (intro w' hSw; obtain ⟨⟨z0, z1, z2, z3⟩, z4, z5⟩ := hSw; go_simp; try with_reducible rfl)
        (try simp only [List.getElem_toArray, List.getElem_cons_succ, List.getElem_cons_zero, Act.put, List.setIfInBounds_toArray, List.set_cons_zero, List.set_cons_succ])
        refine wpAnyH_take (i := 10) (oi := _) (v := ?_) rfl (by kernel_rfl) (by kernel_rfl) (by kernel_rfl) (fun _ _ _ h => h) (Or.inl ⟨by rfl, ?_⟩) (by assumption) ?_
        rotate_left
        · (intro w' hSw; obtain ⟨⟨z0, z1, z2, z3⟩, z4, z5⟩ := hSw; go_simp; try with_reducible rfl)
        (try simp only [List.getElem_toArray, List.getElem_cons_succ, List.getElem_cons_zero, Act.put, List.setIfInBounds_toArray, List.set_cons_zero, List.set_cons_succ])
        refine wpAnyH_take (i := 11) (oi := _) (v := ?_) rfl (by kernel_rfl) (by kernel_rfl) (by kernel_rfl) (fun _ _ _ h => h) (Or.inl ⟨by rfl, ?_⟩) (by assumption) ?_
        rotate_left
        · (intro w' hSw; obtain ⟨⟨z0, z1, z2, z3⟩, z4, z5⟩ := hSw; go_simp; try with_reducible rfl)
        (try simp only [List.getElem_toArray, List.getElem_cons_succ, List.getElem_cons_zero, Act.put, List.setIfInBounds_toArray, List.set_cons_zero, List.set_cons_succ])
        refine wpAnyH_take (i := 12) (oi := _) (v := ?_) rfl (by kernel_rfl) (by kernel_rfl) (by kernel_rfl) (fun _ _ _ h => h) (Or.inl ⟨by rfl, ?_⟩) (by assumption) ?_
        rotate_left
        · (intro w' hSw; obtain ⟨⟨z0, z1, z2, z3⟩, z4, z5⟩ := hSw; go_simp; try with_reducible rfl)
        (try simp only [List.getElem_toArray, List.getElem_cons_succ, List.getElem_cons_zero, Act.put, List.setIfInBounds_toArray, List.set_cons_zero, List.set_cons_succ])
        refine wpAnyH_ready (rs := [14]) (by kernel_rfl) (by simp) ?_
        refine AllReadyH.cons (o := _) rfl (fun K hK => ?_) AllReadyH.nil
        obtain ⟨f0, f1, f2, f3⟩ := st_free HG.out
        obtain ⟨k0, k1, k2, k3⟩ := st_cells HG.out
        have HY4 := mkHid (below_four HBN.out (g := y0.heap.size) HGY.out (.slice ac2 M.code.length cc2) (.int .i64 M.next) (.slice av4 vs4.length cv4) (.slice ar4 rs4.length cr4))
        have HX4 := mkHid ((HY4.out.block w.heap.size (by have := HZY.out; omega)).trans HXY.out)
        have HG4 := mkHid (st_all HG.out (.slice ac2 M.code.length cc2) (.int .i64 M.next) (.slice av4 vs4.length cv4) (.slice ar4 rs4.length cr4))
        have HS4 := mkHid (HSN.out.on ((Fr.refl (y0.heap.size :: us2) y1).four (List.mem_cons_self) (.slice ac2 M.code.length cc2) (.int .i64 M.next) (.slice av4 vs4.length cv4) (.slice ar4 rs4.length cr4)))
        go_simp
        try dsimp only
        refine hK.out _ _ (HS.out _ HY4.out) (fun hSz => ?_)
        clear hK K f0 f1 f2 f3 k0 k1 k2 k3
        (try simp only [List.getElem_toArray, List.getElem_cons_succ, List.getElem_cons_zero, Act.put, List.setIfInBounds_toArray, List.set_cons_zero, List.set_cons_succ])
        refine wpAnyH_take (i := 15) (oi := _) (v := ?_) rfl (by kernel_rfl) (by kernel_rfl) (by kernel_rfl) (fun _ _ _ h => h) (Or.inl ⟨by rfl, ?_⟩) (by assumption) ?_
        rotate_left
        · (intro w' hSw; obtain ⟨⟨z0, z1, z2, z3⟩, z4, z5⟩ := hSw; go_simp; try with_reducible rfl)
        (try simp only [List.getElem_toArray, List.getElem_cons_succ, List.getElem_cons_zero, Act.put, List.setIfInBounds_toArray, List.set_cons_zero, List.set_cons_succ])
        refine wpAnyH_take (i := 16) (oi := _) (v := ?_) rfl (by kernel_rfl) (by kernel_rfl) (by kernel_rfl) (fun _ _ _ h => h) (Or.inl ⟨by rfl, ?_⟩) (by assumption) ?_
        rotate_left
        · (intro w' hSw; obtain ⟨⟨z0, z1, z2, z3⟩, z4, z5⟩ := hSw; go_simp; try with_reducible rfl)
        (try simp only [List.getElem_toArray, List.getElem_cons_succ, List.getElem_cons_zero, Act.put, List.setIfInBounds_toArray, List.set_cons_zero, List.set_cons_succ])
        refine wpAnyH_done (by kernel_rfl) (NoPanic.normal ?_) _
        have HQ4 := mkHid (HQY.out.keeps (veil_toR (us := us2) (Fr.of HY4.out) fun k hk => .inl hk))
        have HF4 := mkHid (HFY.out.trans (Fr.of HY4.out))
        have HGB : Hid (y0.heap.size ≠ w.heap.size) := by have := HGY.out; have := HZY.out; rw [Hid]; omega
        have HZ4 : Hid (w.heap.size + 2 ≤ ((((y1.setCell ⟨y0.heap.size, 0, none⟩ (.slice ac2 M.code.length cc2)).setCell ⟨y0.heap.size, 1, none⟩ (.int .i64 M.next)).setCell ⟨y0.heap.size, 2, none⟩ (.slice av4 vs4.length cv4)).setCell ⟨y0.heap.size, 3, none⟩ (.slice ar4 rs4.length cr4)).heap.size) := by have := HY4.out.size; have := HZY.out; rw [Hid]; omega
        generalize ((((y1.setCell ⟨y0.heap.size, 0, none⟩ (.slice ac2 M.code.length cc2)).setCell ⟨y0.heap.size, 1, none⟩ (.int .i64 M.next)).setCell ⟨y0.heap.size, 2, none⟩ (.slice av4 vs4.length cv4)).setCell ⟨y0.heap.size, 3, none⟩ (.slice ar4 rs4.length cr4)) = zz at *
        generalize y0.heap.size = g10 at *
        clear HG HSN HBN hSz hSd HS HY4 HSY HXY HQY HFY HZY d0 d1 HGY
        obtain ⟨l0, l1, l2, l3⟩ := st_cells HG4.out
        obtain ⟨k0, k1, k2, k3⟩ := st_cells HX4.out
        obtain ⟨f0, f1, f2, f3⟩ := st_free HX4.out
        have HX5 := mkHid (st_all HX4.out (.slice ac2 M.code.length cc2) (.int .i64 M.next) (.slice av4 vs4.length cv4) (.slice ar4 rs4.length cr4))
        have HF5 := mkHid ((Fr.refl [w.heap.size] zz).four (g := w.heap.size) (by simp) (.slice ac2 M.code.length cc2) (.int .i64 M.next) (.slice av4 vs4.length cv4) (.slice ar4 rs4.length cr4))
        have HS5 := mkHid ((HS4.out.on ((Fr.refl (g10 :: us2) zz).four (g := w.heap.size) (List.mem_cons_of_mem _ H02.out.1) (.slice ac2 M.code.length cc2) (.int .i64 M.next) (.slice av4 vs4.length cv4) (.slice ar4 rs4.length cr4))).sub (us' := us2) fun k hk => List.mem_cons_of_mem _ hk)
        have HZ5 : Hid (w.heap.size + 2 ≤ ((((zz.setCell ⟨w.heap.size, 0, none⟩ (.slice ac2 M.code.length cc2)).setCell ⟨w.heap.size, 1, none⟩ (.int .i64 M.next)).setCell ⟨w.heap.size, 2, none⟩ (.slice av4 vs4.length cv4)).setCell ⟨w.heap.size, 3, none⟩ (.slice ar4 rs4.length cr4)).heap.size) := by have := HF5.out.size; have := HZ4.out; rw [Hid]; omega
        obtain ⟨p0, p1, p2, p3⟩ := st_cells HX5.out
        have HQ5 := mkHid (HQ4.out.keeps (veil_toR (us := us2) (HF5.out.sub fun k hk => by simp at hk; subst hk; exact H02.out.1) fun k hk => .inl hk))
        have HF6 := mkHid (HF4.out.trans HF5.out)
        cases F
        · go_wp2_with fail
          refine (emit_sx 1 us2 _ ac2 cc2 av4 cv4 ar4 cr4 M vs4 rs4 ⟨6, R, 0, ⟨#[]⟩, 0, false⟩ (fit_w _ _ _ _ (by omega) hRb (by omega) (by omega)) (HU2.out _ HZ5.out) HS5.out hMl).mono ?_
          rintro r z6 ⟨a5, c5, rfl, hs6, hb6⟩
          have HX6 := mkHid ((hb6.block w.heap.size (by have := HZ5.out; omega)).trans HX5.out)
          have HS6 := mkHid hs6
          have HQ6 := mkHid (HQ5.out.keeps (veil_toR (us := us2) (Fr.of hb6) fun k hk => .inl hk))
          have HF7 := mkHid (HF6.out.trans (Fr.of hb6))
          clear l0 l1 l2 l3 k0 k1 k2 k3 f0 f1 f2 f3 p0 p1 p2 p3 HX5 HS5 HQ5 HF6 HX4 HS4 HG4 HQ4 HF4 HF5 HZ5 HZ4 hs6 hb6
          obtain ⟨k0, k1, k2, k3⟩ := st_cells HX6.out
          obtain ⟨f0, f1, f2, f3⟩ := st_free HX6.out
          have HSB7 := mkHid (SB.stored HX6.out H02.out.1 HS6.out)
          have HSB8 : Hid (SB 0 us2 ((((z6.setCell ⟨w.heap.size, 0, none⟩ (.slice a5 (M.lay ⟨6, R, 0, ⟨#[]⟩, 0, false⟩).code.length c5)).setCell ⟨w.heap.size, 1, none⟩ (.int .i64 (M.lay ⟨6, R, 0, ⟨#[]⟩, 0, false⟩).next)).setCell ⟨w.heap.size, 2, none⟩ (.slice av4 vs4.length cv4)).setCell ⟨w.heap.size, 3, none⟩ (.slice ar4 rs4.length cr4)) w.heap.size (unifyS (t.args.take (k + 1)) m).1) := by rw [Hid, HN1.out]; exact HSB7.out
          have HFF := mkHid ((Fr.refl [w.heap.size] z6).four (g := w.heap.size) (by simp) (.slice a5 (M.lay ⟨6, R, 0, ⟨#[]⟩, 0, false⟩).code.length c5) (.int .i64 (M.lay ⟨6, R, 0, ⟨#[]⟩, 0, false⟩).next) (.slice av4 vs4.length cv4) (.slice ar4 rs4.length cr4))
          have HQ8 := mkHid (HQ6.out.keeps (veil_toR (us := us2) (HFF.out.sub fun k hk => by simp at hk; subst hk; exact H02.out.1) fun k hk => .inl hk))
          have HF8 := mkHid (HF7.out.trans HFF.out)
          go_wp2_with fail
          go_round
          case rel => exact ⟨k + 1, aQ, cQ, qs, by omega, by go_num, rfl, by omega, HN2, HQ8, HF8, HSB8⟩
          case measure => simp [intOf]; omega
        · go_wp2_with fail
          refine (emit_sx 1 us2 _ ac2 cc2 av4 cv4 ar4 cr4 M vs4 rs4 ⟨5, R, 0, ⟨#[]⟩, 0, false⟩ (fit_w _ _ _ _ (by omega) hRb (by omega) (by omega)) (HU2.out _ HZ5.out) HS5.out hMl).mono ?_
          rintro r z6 ⟨a5, c5, rfl, hs6, hb6⟩
          have HX6 := mkHid ((hb6.block w.heap.size (by have := HZ5.out; omega)).trans HX5.out)
          have HS6 := mkHid hs6
          have HQ6 := mkHid (HQ5.out.keeps (veil_toR (us := us2) (Fr.of hb6) fun k hk => .inl hk))
          have HF7 := mkHid (HF6.out.trans (Fr.of hb6))
          clear l0 l1 l2 l3 k0 k1 k2 k3 f0 f1 f2 f3 p0 p1 p2 p3 HX5 HS5 HQ5 HF6 HX4 HS4 HG4 HQ4 HF4 HF5 HZ5 HZ4 hs6 hb6
          obtain ⟨k0, k1, k2, k3⟩ := st_cells HX6.out
          obtain ⟨f0, f1, f2, f3⟩ := st_free HX6.out
          have HSB7 := mkHid (SB.stored HX6.out H02.out.1 HS6.out)
          have HSB8 : Hid (SB 0 us2 ((((z6.setCell ⟨w.heap.size, 0, none⟩ (.slice a5 (M.lay ⟨5, R, 0, ⟨#[]⟩, 0, false⟩).code.length c5)).setCell ⟨w.heap.size, 1, none⟩ (.int .i64 (M.lay ⟨5, R, 0, ⟨#[]⟩, 0, false⟩).next)).setCell ⟨w.heap.size, 2, none⟩ (.slice av4 vs4.length cv4)).setCell ⟨w.heap.size, 3, none⟩ (.slice ar4 rs4.length cr4)) w.heap.size (unifyS (t.args.take (k + 1)) m).1) := by rw [Hid, HN1.out]; exact HSB7.out
          have HFF := mkHid ((Fr.refl [w.heap.size] z6).four (g := w.heap.size) (by simp) (.slice a5 (M.lay ⟨5, R, 0, ⟨#[]⟩, 0, false⟩).code.length c5) (.int .i64 (M.lay ⟨5, R, 0, ⟨#[]⟩, 0, false⟩).next) (.slice av4 vs4.length cv4) (.slice ar4 rs4.length cr4))
          have HQ8 := mkHid (HQ6.out.keeps (veil_toR (us := us2) (HFF.out.sub fun k hk => by simp at hk; subst hk; exact H02.out.1) fun k hk => .inl hk))
          have HF8 := mkHid (HF7.out.trans HFF.out)
          go_wp2_with fail
          go_round
          case rel => exact ⟨k + 1, aQ, cQ, qs, by omega, by go_num, rfl, by omega, HN2, HQ8, HF8, HSB8⟩
          case measure => simp [intOf]; omega
      · rw [h2] at c0
        have hst : unifyS [u] mk = (mk.lay ⟨7, 0, 0, ⟨#[]⟩, u.hd.n, false⟩, []) := by rw [unifyS_cons, if_neg (by omega), if_pos h2]; rfl
        rw [hst] at hnx
        have HN1 : Hid ((unifyS (t.args.take (k + 1)) m).1 = mk.lay ⟨7, 0, 0, ⟨#[]⟩, u.hd.n, false⟩) := by rw [Hid, hnx]
        have HN2 : Hid (qs = ps ++ (unifyS (t.args.take (k + 1)) m).2.map plOf) := by rw [Hid, hnx, List.append_nil]; exact HQ.out
        clear hnx hst hlen1 hlen2 h2 HQ
        go_wp2_with fail
        refine wp_region_noPanic ?_
        obtain ⟨y0, hv0⟩ : ∃ X, wr.drew = X := ⟨_, rfl⟩
        have hbd : Below wr.heap.size wr y0 := by rw [← hv0]; exact (Below.refl _ _).drew
        have HXY := mkHid ((hbd.block w.heap.size (by have := HZR.out; omega)).trans HX.out)
        have HSY := mkHid (HSX.out.on (Fr.of hbd))
        have HQY := mkHid (HRQ.out.keeps (veil_toR (us := us2) (Fr.of hbd) fun k hk => .inl hk))
        have HFY := mkHid (HF.out.trans (Fr.of hbd))
        have HZY : Hid (w.heap.size + 2 ≤ y0.heap.size) := by have := HZR.out; have := hbd.size; rw [Hid]; omega
        have d0 := mkHid (keep hgl2 hbd)
        have d1 := mkHid (keep c2 hbd)
        have hb3y : b3 < y0.heap.size := cell_lt d1.out
        have hgly : gl < y0.heap.size := cell_lt d0.out
        have HS : Hid (∀ X, Fr [w.heap.size] y0 X → (fun X : World => X.cell? ⟨gl, k, none⟩ = some (.slice (some ⟨b3, o3, none⟩) (m3 + 1) c3) ∧ X.cell? ⟨b3, o3 + 2, none⟩ = some (.int .i64 u.hd.n)) X) := fun X h =>
          ⟨(World.cell?_of_block (w := y0) (a := ⟨gl, k, none⟩) (h.block gl hgly (by simp; omega))).trans d0.out, (World.cell?_of_block (w := y0) (a := ⟨b3, o3 + 2, none⟩) (h.block b3 hb3y (by simp; exact hb3n))).trans d1.out⟩
        refine wp_region_held_drew (S := fun X : World => X.cell? ⟨gl, k, none⟩ = some (.slice (some ⟨b3, o3, none⟩) (m3 + 1) c3) ∧ X.cell? ⟨b3, o3 + 2, none⟩ = some (.int .i64 u.hd.n)) (by kernel_rfl) (by rw [hv0]; exact HS.out _ (Fr.refl _ _)) (fun hSd => ?_)
        rw [hv0] at hSd ⊢
        have HB0 : Hid (Fr [w.heap.size] y0 y0) := Fr.refl _ _
        clear hv0 hbd c0 c2 hgl2 HX HSX HRQ HF HZR HBR HTR
        refine wpAnyH_take (i := 1) (oi := _) (v := ?_) rfl (by kernel_rfl) (by kernel_rfl) (by kernel_rfl) (fun _ _ _ h => h) (Or.inl ⟨by rfl, ?_⟩) (by assumption) ?_
        rotate_left
        · (intro w' hSw; obtain ⟨z4, z5⟩ := hSw; go_simp; try with_reducible rfl)
        (try simp only [List.getElem_toArray, List.getElem_cons_succ, List.getElem_cons_zero, Act.put, List.setIfInBounds_toArray, List.set_cons_zero, List.set_cons_succ])
        refine wpAnyH_take (i := 2) (oi := _) (v := ?_) rfl (by kernel_rfl) (by kernel_rfl) (by kernel_rfl) (fun _ _ _ h => h) (Or.inl ⟨by rfl, ?_⟩) (by assumption) ?_
        rotate_left
        · (intro w' hSw; obtain ⟨z4, z5⟩ := hSw; go_simp; try with_reducible rfl)
        (try simp only [List.getElem_toArray, List.getElem_cons_succ, List.getElem_cons_zero, Act.put, List.setIfInBounds_toArray, List.set_cons_zero, List.set_cons_succ])
        refine wpAnyH_take (i := 3) (oi := _) (v := ?_) rfl (by kernel_rfl) (by kernel_rfl) (by kernel_rfl) (fun _ _ _ h => h) (Or.inl ⟨by rfl, ?_⟩) (by assumption) ?_
        rotate_left
        · (intro w' hSw; obtain ⟨z4, z5⟩ := hSw; go_simp; try with_reducible rfl)
        (try simp only [List.getElem_toArray, List.getElem_cons_succ, List.getElem_cons_zero, Act.put, List.setIfInBounds_toArray, List.set_cons_zero, List.set_cons_succ])
        refine wpAnyH_take (i := 4) (oi := _) (v := ?_) rfl (by kernel_rfl) (by kernel_rfl) (by kernel_rfl) (fun _ _ _ h => h) (Or.inl ⟨by rfl, ?_⟩) (by assumption) ?_
        rotate_left
        · (intro w' hSw; obtain ⟨z4, z5⟩ := hSw; go_simp; try with_reducible rfl)
        (try simp only [List.getElem_toArray, List.getElem_cons_succ, List.getElem_cons_zero, Act.put, List.setIfInBounds_toArray, List.set_cons_zero, List.set_cons_succ])
        refine wpAnyH_take (i := 5) (oi := _) (v := ?_) rfl (by kernel_rfl) (by kernel_rfl) (by kernel_rfl) (fun _ _ _ h => h) (Or.inl ⟨by rfl, ?_⟩) (by assumption) ?_
        rotate_left
        · (intro w' hSw; obtain ⟨z4, z5⟩ := hSw; go_simp; try with_reducible rfl)
        (try simp only [List.getElem_toArray, List.getElem_cons_succ, List.getElem_cons_zero, Act.put, List.setIfInBounds_toArray, List.set_cons_zero, List.set_cons_succ])
        refine wpAnyH_take (i := 6) (oi := _) (v := ?_) rfl (by kernel_rfl) (by kernel_rfl) (by kernel_rfl) (fun _ _ _ h => h) (Or.inl ⟨by rfl, ?_⟩) (by assumption) ?_
        rotate_left
        · (intro w' hSw; obtain ⟨z4, z5⟩ := hSw; go_simp; try with_reducible rfl)
        (try simp only [List.getElem_toArray, List.getElem_cons_succ, List.getElem_cons_zero, Act.put, List.setIfInBounds_toArray, List.set_cons_zero, List.set_cons_succ])
        refine wpAnyH_take (i := 7) (oi := _) (v := ?_) rfl (by kernel_rfl) (by kernel_rfl) (by kernel_rfl) (fun _ _ _ h => h) (Or.inl ⟨by rfl, ?_⟩) (by assumption) ?_
        rotate_left
        · (intro w' hSw; obtain ⟨z4, z5⟩ := hSw; go_simp; try with_reducible rfl)
        (try simp only [List.getElem_toArray, List.getElem_cons_succ, List.getElem_cons_zero, Act.put, List.setIfInBounds_toArray, List.set_cons_zero, List.set_cons_succ])
        refine wpAnyH_take (i := 8) (oi := _) (v := ?_) rfl (by kernel_rfl) (by kernel_rfl) (by kernel_rfl) (fun _ _ _ h => h) (Or.inl ⟨by rfl, ?_⟩) (by assumption) ?_
        rotate_left
        · (intro w' hSw; obtain ⟨z4, z5⟩ := hSw; go_simp; try with_reducible rfl)
        (try simp only [List.getElem_toArray, List.getElem_cons_succ, List.getElem_cons_zero, Act.put, List.setIfInBounds_toArray, List.set_cons_zero, List.set_cons_succ])
        refine wpAnyH_ready (rs := [0]) (by kernel_rfl) (by simp) ?_
        refine AllReadyH.cons (o := _) rfl (fun K hK => ?_) AllReadyH.nil
        obtain ⟨k0, k1, k2, k3⟩ := st_cells HXY.out
        go_simp
        clear k0 k1 k2 k3
        try dsimp only
        refine hK.out _ _ (HS.out _ HB0.out) (fun _ => ?_)
        clear hK K
        (try simp only [List.getElem_toArray, List.getElem_cons_succ, List.getElem_cons_zero, Act.put, List.setIfInBounds_toArray, List.set_cons_zero, List.set_cons_succ])
        refine wpAnyH_ready (rs := [9]) (by kernel_rfl) (by simp) ?_
        refine AllReadyH.cons (o := _) rfl (fun K hK => ?_) AllReadyH.nil
        go_simp
        refine (emit_sx 0 us2 y0 ac2 cc2 av2 cv2 ar2 cr2 mk vs2 rs2 ⟨7, 0, 0, ⟨#[]⟩, u.hd.n, false⟩ (fit_w _ _ _ _ (by omega) (by omega) (by omega) ⟨hf1, hf2⟩) (HU2.out y0 HZY.out) HSY.out hml).mono ?_
        rintro r z6 ⟨a5, c5, rfl, hs6, hb6⟩
        have HX6 := mkHid ((hb6.block w.heap.size (by have := HZY.out; omega)).trans HXY.out)
        have HS6 := mkHid hs6
        have HQ6 := mkHid (HQY.out.keeps (veil_toR (us := us2) (Fr.of hb6) fun k hk => .inl hk))
        have HF7 := mkHid (HFY.out.trans (Fr.of hb6))
        have HB6 : Hid (Fr [w.heap.size] y0 z6) := Fr.of hb6
        clear hs6 hb6 HXY HSY HQY HFY
        try dsimp only
        refine hK.out _ _ (HS.out _ HB6.out) (fun _ => ?_)
        clear hK K
        (try simp only [List.getElem_toArray, List.getElem_cons_succ, List.getElem_cons_zero, Act.put, List.setIfInBounds_toArray, List.set_cons_zero, List.set_cons_succ])
        refine wpAnyH_ready (rs := [10]) (by kernel_rfl) (by simp) ?_
        refine AllReadyH.cons (o := _) rfl (fun K hK => ?_) AllReadyH.nil
        obtain ⟨k0, k1, k2, k3⟩ := st_cells HX6.out
        obtain ⟨f0, f1, f2, f3⟩ := st_free HX6.out
        have HSB7 := mkHid (SB.mono (SB.stored HX6.out H02.out.1 HS6.out) (show (0 : Int) - 1 ≤ 0 by omega))
        have HSB8 : Hid (SB 0 us2 ((((z6.setCell ⟨w.heap.size, 0, none⟩ (.slice a5 (mk.lay ⟨7, 0, 0, ⟨#[]⟩, u.hd.n, false⟩).code.length c5)).setCell ⟨w.heap.size, 1, none⟩ (.int .i64 (mk.lay ⟨7, 0, 0, ⟨#[]⟩, u.hd.n, false⟩).next)).setCell ⟨w.heap.size, 2, none⟩ (.slice av2 vs2.length cv2)).setCell ⟨w.heap.size, 3, none⟩ (.slice ar2 rs2.length cr2)) w.heap.size (unifyS (t.args.take (k + 1)) m).1) := by rw [Hid, HN1.out]; exact HSB7.out
        have HFF := mkHid ((Fr.refl [w.heap.size] z6).four (g := w.heap.size) (by simp) (.slice a5 (mk.lay ⟨7, 0, 0, ⟨#[]⟩, u.hd.n, false⟩).code.length c5) (.int .i64 (mk.lay ⟨7, 0, 0, ⟨#[]⟩, u.hd.n, false⟩).next) (.slice av2 vs2.length cv2) (.slice ar2 rs2.length cr2))
        have HQ8 := mkHid (HQ6.out.keeps (veil_toR (us := us2) (HFF.out.sub fun k hk => by simp at hk; subst hk; exact H02.out.1) fun k hk => .inl hk))
        have HF8 := mkHid (HF7.out.trans HFF.out)
        have HB8 := mkHid (HB6.out.trans HFF.out)
        go_simp
        clear k0 k1 k2 k3 f0 f1 f2 f3
        try dsimp only
        refine hK.out _ _ (HS.out _ HB8.out) (fun _ => ?_)
        clear hK K
        (try simp only [List.getElem_toArray, List.getElem_cons_succ, List.getElem_cons_zero, Act.put, List.setIfInBounds_toArray, List.set_cons_zero, List.set_cons_succ])
        refine wpAnyH_done (by kernel_rfl) (NoPanic.normal ?_) _
        clear HS hSd HX6 HS6 HQ6 HF7 HB6 HSB7 HFF HB8 HB0 d0 d1 HZY
        go_wp2_with fail
        go_round
        case rel => exact ⟨k + 1, aQ, cQ, qs, by omega, by go_num, rfl, by omega, HN2, HQ8, HF8, HSB8⟩
        case measure => simp [intOf]; omega
      · have hst : unifyS [u] mk = (mk.fresh.lay ⟨5, mk.next, 0, ⟨#[]⟩, 0, false⟩, [(u, mk.next)]) := by rw [unifyS_cons, if_neg (by omega), if_neg (by omega), if_pos h3']; rfl
        rw [h3'] at c0
        rw [hst] at hnx
        have HN1 : Hid ((unifyS (t.args.take (k + 1)) m).1 = mk.fresh.lay ⟨5, mk.next, 0, ⟨#[]⟩, 0, false⟩) := by rw [Hid, hnx]
        have HN2 : Hid (qs ++ [⟨u.flat, mk.next⟩] = ps ++ (unifyS (t.args.take (k + 1)) m).2.map plOf) := by
          rw [Hid, hnx, HQ.out, List.map_append, List.append_assoc]; rfl
        have hx0 := HSX.out.b.n0
        have hx1 := HSX.out.b.n1
        have hnl : mk.next ≤ 20010 := by omega
        have hnl2 : (mk.lay ⟨5, mk.next, 0, ⟨#[]⟩, 0, false⟩).next ≤ 20010 := hnl
        have hnl3 : 0 ≤ (mk.lay ⟨5, mk.next, 0, ⟨#[]⟩, 0, false⟩).next := hx0
        clear hnx hst hlen1 hlen2 h3' HQ hx1
        obtain ⟨k0, k1, k2, k3⟩ := st_cells HX.out
        obtain ⟨f0, f1, f2, f3⟩ := st_free HX.out
        go_wp2_with fail
        refine (emit_sx 0 us2 wr ac2 cc2 av2 cv2 ar2 cr2 mk vs2 rs2 ⟨5, mk.next, 0, ⟨#[]⟩, 0, false⟩ (fit_w _ _ _ _ (by omega) (by omega) (by omega) (by omega)) (HU2.out wr HZR.out) HSX.out hml).mono ?_
        rintro r z6 ⟨a5, c5, rfl, hs6, hb6⟩
        have HX6 := mkHid ((hb6.block w.heap.size (by have := HZR.out; omega)).trans HX.out)
        have HS6 := mkHid hs6
        have HQ6 := mkHid (HRQ.out.keeps (veil_toR (us := us2) (Fr.of hb6) fun k hk => .inl hk))
        have HR36 := mkHid (HR3.out.keeps (veil_toR (us := us2) (Fr.of hb6) fun k hk => .inl hk))
        have HF7 := mkHid (HF.out.trans (Fr.of hb6))
        have hgl3 := keep hgl2 hb6
        have HZ6 : Hid (w.heap.size + 2 ≤ z6.heap.size) := by have := HZR.out; have := hb6.size; rw [Hid]; omega
        clear hs6 hb6 HX HSX HRQ HR3 HF hgl2 k0 k1 k2 k3 f0 f1 f2 f3 c0 c2 HTR HBR HZR
        obtain ⟨k0, k1, k2, k3⟩ := st_cells HX6.out
        obtain ⟨f0, f1, f2, f3⟩ := st_free HX6.out
        have hgl6 : gl < z6.heap.size := cell_lt hgl3
        have HFF := mkHid ((Fr.refl [w.heap.size] z6).four (g := w.heap.size) (by simp) (.slice a5 (mk.lay ⟨5, mk.next, 0, ⟨#[]⟩, 0, false⟩).code.length c5) (.int .i64 (mk.lay ⟨5, mk.next, 0, ⟨#[]⟩, 0, false⟩).next) (.slice av2 vs2.length cv2) (.slice ar2 rs2.length cr2))
        have HX7 := mkHid (st_all HX6.out (.slice a5 (mk.lay ⟨5, mk.next, 0, ⟨#[]⟩, 0, false⟩).code.length c5) (.int .i64 (mk.lay ⟨5, mk.next, 0, ⟨#[]⟩, 0, false⟩).next) (.slice av2 vs2.length cv2) (.slice ar2 rs2.length cr2))
        have HS7 := mkHid (HS6.out.on (HFF.out.sub fun k hk => by simp at hk; subst hk; exact H02.out.1))
        have HQ7 := mkHid (HQ6.out.keeps (veil_toR (us := us2) (HFF.out.sub fun k hk => by simp at hk; subst hk; exact H02.out.1) fun k hk => .inl hk))
        have HR37 := mkHid (HR36.out.keeps (veil_toR (us := us2) (HFF.out.sub fun k hk => by simp at hk; subst hk; exact H02.out.1) fun k hk => .inl hk))
        have HF9 := mkHid (HF7.out.trans HFF.out)
        have hgl4 : (((((z6.setCell ⟨w.heap.size, 0, none⟩ (.slice a5 (mk.lay ⟨5, mk.next, 0, ⟨#[]⟩, 0, false⟩).code.length c5)).setCell ⟨w.heap.size, 1, none⟩ (.int .i64 (mk.lay ⟨5, mk.next, 0, ⟨#[]⟩, 0, false⟩).next)).setCell ⟨w.heap.size, 2, none⟩ (.slice av2 vs2.length cv2)).setCell ⟨w.heap.size, 3, none⟩ (.slice ar2 rs2.length cr2))).cell? ⟨gl, k, none⟩ = some (.slice (some ⟨b3, o3, none⟩) (m3 + 1) c3) := (World.cell?_of_block (w := z6) (a := ⟨gl, k, none⟩) (HFF.out.block gl hgl6 (by simp; omega))).trans hgl3
        have HZ7 : Hid (w.heap.size + 2 ≤ (((((z6.setCell ⟨w.heap.size, 0, none⟩ (.slice a5 (mk.lay ⟨5, mk.next, 0, ⟨#[]⟩, 0, false⟩).code.length c5)).setCell ⟨w.heap.size, 1, none⟩ (.int .i64 (mk.lay ⟨5, mk.next, 0, ⟨#[]⟩, 0, false⟩).next)).setCell ⟨w.heap.size, 2, none⟩ (.slice av2 vs2.length cv2)).setCell ⟨w.heap.size, 3, none⟩ (.slice ar2 rs2.length cr2))).heap.size) := by have := HZ6.out; have := HFF.out.size; rw [Hid]; omega
        go_wp2_with fail
        generalize ((((z6.setCell ⟨w.heap.size, 0, none⟩ (.slice a5 (mk.lay ⟨5, mk.next, 0, ⟨#[]⟩, 0, false⟩).code.length c5)).setCell ⟨w.heap.size, 1, none⟩ (.int .i64 (mk.lay ⟨5, mk.next, 0, ⟨#[]⟩, 0, false⟩).next)).setCell ⟨w.heap.size, 2, none⟩ (.slice av2 vs2.length cv2)).setCell ⟨w.heap.size, 3, none⟩ (.slice ar2 rs2.length cr2)) = z7 at *
        clear HX6 HS6 HQ6 HR36 HF7 HFF hgl3 k0 k1 k2 k3 f0 f1 f2 f3 HZ6
        refine wp_region_noPanic ?_
        obtain ⟨y0, hv0⟩ : ∃ X, z7.drew = X := ⟨_, rfl⟩
        have hbd : Below z7.heap.size z7 y0 := by rw [← hv0]; exact (Below.refl _ _).drew
        have HXY := mkHid ((hbd.block w.heap.size (by have := HZ7.out; omega)).trans HX7.out)
        have HSY := mkHid (HS7.out.on (Fr.of hbd))
        have HQY := mkHid (HQ7.out.keeps (veil_toR (us := us2) (Fr.of hbd) fun k hk => .inl hk))
        have HR3Y := mkHid (HR37.out.keeps (veil_toR (us := us2) (Fr.of hbd) fun k hk => .inl hk))
        have HFY := mkHid (HF9.out.trans (Fr.of hbd))
        have HZY : Hid (w.heap.size + 2 ≤ y0.heap.size) := by have := HZ7.out; have := hbd.size; rw [Hid]; omega
        have d0 := mkHid (keep hgl4 hbd)
        have hgly : gl < y0.heap.size := cell_lt d0.out
        have HS : Hid (∀ X, Fr [] y0 X → (fun X : World => X.cell? ⟨w.heap.size, 1, none⟩ = some (.int .i64 (mk.lay ⟨5, mk.next, 0, ⟨#[]⟩, 0, false⟩).next) ∧ X.cell? ⟨gl, k, none⟩ = some (.slice (some ⟨b3, o3, none⟩) (m3 + 1) c3)) X) := fun X h =>
          ⟨(World.cell?_of_block (w := y0) (a := ⟨w.heap.size, 1, none⟩) (h.block w.heap.size (by have := HZY.out; omega) (by simp))).trans (st_cells HXY.out).2.1, (World.cell?_of_block (w := y0) (a := ⟨gl, k, none⟩) (h.block gl hgly (by simp))).trans d0.out⟩
        refine wp_region_held_drew (S := fun X : World => X.cell? ⟨w.heap.size, 1, none⟩ = some (.int .i64 (mk.lay ⟨5, mk.next, 0, ⟨#[]⟩, 0, false⟩).next) ∧ X.cell? ⟨gl, k, none⟩ = some (.slice (some ⟨b3, o3, none⟩) (m3 + 1) c3)) (by kernel_rfl) (by rw [hv0]; exact HS.out _ (Fr.refl _ _)) (fun hSd => ?_)
        rw [hv0] at hSd ⊢
        have HB0 := mkHid (Below.refl y0.heap.size y0)
        clear hv0 hbd hgl4 HX7 HS7 HQ7 HR37 HF9 HZ7
        refine wpAnyH_take (i := 1) (oi := _) (v := ?_) rfl (by kernel_rfl) (by kernel_rfl) (by kernel_rfl) (fun _ _ _ h => h) (Or.inl ⟨by rfl, ?_⟩) (by assumption) ?_
        rotate_left
        · (intro w' hSw; obtain ⟨z0, z1⟩ := hSw; go_simp; try with_reducible rfl)
        (try simp only [List.getElem_toArray, List.getElem_cons_succ, List.getElem_cons_zero, Act.put, List.setIfInBounds_toArray, List.set_cons_zero, List.set_cons_succ])
        refine wpAnyH_take (i := 3) (oi := _) (v := ?_) rfl (by kernel_rfl) (by kernel_rfl) (by kernel_rfl) (fun _ _ _ h => h) (Or.inl ⟨by rfl, ?_⟩) (by assumption) ?_
        rotate_left
        · (intro w' hSw; obtain ⟨z0, z1⟩ := hSw; go_simp; try with_reducible rfl)
        (try simp only [List.getElem_toArray, List.getElem_cons_succ, List.getElem_cons_zero, Act.put, List.setIfInBounds_toArray, List.set_cons_zero, List.set_cons_succ])
        refine wpAnyH_take (i := 4) (oi := _) (v := ?_) rfl (by kernel_rfl) (by kernel_rfl) (by kernel_rfl) (fun _ _ _ h => h) (Or.inl ⟨by rfl, ?_⟩) (by assumption) ?_
        rotate_left
        · (intro w' hSw; obtain ⟨z0, z1⟩ := hSw; go_simp; try with_reducible rfl)
        (try simp only [List.getElem_toArray, List.getElem_cons_succ, List.getElem_cons_zero, Act.put, List.setIfInBounds_toArray, List.set_cons_zero, List.set_cons_succ])
        refine wpAnyH_take (i := 5) (oi := _) (v := ?_) rfl (by kernel_rfl) (by kernel_rfl) (by kernel_rfl) (fun _ _ _ h => h) (Or.inl ⟨by rfl, ?_⟩) (by assumption) ?_
        rotate_left
        · (intro w' hSw; obtain ⟨z0, z1⟩ := hSw; go_simp; try with_reducible rfl)
        (try simp only [List.getElem_toArray, List.getElem_cons_succ, List.getElem_cons_zero, Act.put, List.setIfInBounds_toArray, List.set_cons_zero, List.set_cons_succ])
        refine wpAnyH_take (i := 6) (oi := _) (v := ?_) rfl (by kernel_rfl) (by kernel_rfl) (by kernel_rfl) (fun _ _ _ h => h) (Or.inl ⟨by rfl, ?_⟩) (by assumption) ?_
        rotate_left
        · (intro w' hSw; obtain ⟨z0, z1⟩ := hSw; go_simp; try with_reducible rfl)
        (try simp only [List.getElem_toArray, List.getElem_cons_succ, List.getElem_cons_zero, Act.put, List.setIfInBounds_toArray, List.set_cons_zero, List.set_cons_succ])
        refine wpAnyH_take (i := 7) (oi := _) (v := ?_) rfl (by kernel_rfl) (by kernel_rfl) (by kernel_rfl) (fun _ _ _ h => h) (Or.inl ⟨by rfl, ?_⟩) (by assumption) ?_
        rotate_left
        · (intro w' hSw; obtain ⟨z0, z1⟩ := hSw; go_simp; try with_reducible rfl)
        (try simp only [List.getElem_toArray, List.getElem_cons_succ, List.getElem_cons_zero, Act.put, List.setIfInBounds_toArray, List.set_cons_zero, List.set_cons_succ])
        refine wpAnyH_take (i := 8) (oi := _) (v := ?_) rfl (by kernel_rfl) (by kernel_rfl) (by kernel_rfl) (fun _ _ _ h => h) (Or.inl ⟨by rfl, ?_⟩) (by assumption) ?_
        rotate_left
        · (intro w' hSw; obtain ⟨z0, z1⟩ := hSw; go_simp; try with_reducible rfl)
        (try simp only [List.getElem_toArray, List.getElem_cons_succ, List.getElem_cons_zero, Act.put, List.setIfInBounds_toArray, List.set_cons_zero, List.set_cons_succ])
        refine wpAnyH_take (i := 9) (oi := _) (v := ?_) rfl (by kernel_rfl) (by kernel_rfl) (by kernel_rfl) (fun _ _ _ h => h) (Or.inl ⟨by rfl, ?_⟩) (by assumption) ?_
        rotate_left
        · (intro w' hSw; obtain ⟨z0, z1⟩ := hSw; go_simp; try with_reducible rfl)
        (try simp only [List.getElem_toArray, List.getElem_cons_succ, List.getElem_cons_zero, Act.put, List.setIfInBounds_toArray, List.set_cons_zero, List.set_cons_succ])
        refine wpAnyH_ready (rs := [0, 10]) (by kernel_rfl) (by simp) ?_
        refine AllReadyH.cons (o := _) rfl (fun K hK => ?_) ?_
        · go_simp
          have HB1 := mkHid (HB0.out.then ((Below.refl _ _).new (.cells #[] 102)))
          try dsimp only
          refine hK.out _ _ (HS.out _ (Fr.of HB1.out)) (fun hS1 => ?_)
          clear hK K
          (try simp only [List.getElem_toArray, List.getElem_cons_succ, List.getElem_cons_zero, Act.put, List.setIfInBounds_toArray, List.set_cons_zero, List.set_cons_succ])
          refine wpAnyH_ready (rs := [2, 10]) (by kernel_rfl) (by simp) ?_
          refine AllReadyH.cons (o := _) rfl (fun K hK => ?_) ?_
          · obtain ⟨v1, w1, a2, c2, w2, hrun1, hrun2, hr2, hc1, hc2⟩ := three_c (α := Pl) (us := us2) (cs := #[.slice (some ⟨b3, o3, none⟩) (m3 + 1) c3, .int .i64 (mk.lay ⟨5, mk.next, 0, ⟨#[]⟩, 0, false⟩).next]) (y := ⟨u.flat, (mk.lay ⟨5, mk.next, 0, ⟨#[]⟩, 0, false⟩).next⟩) Try.underlying100 Try.infoArg10 (by decide) (by decide) (HU2.out y0 HZY.out) HQY.out (pl_c (m3 + 1) HM3.out HR3Y.out (mk.lay ⟨5, mk.next, 0, ⟨#[]⟩, 0, false⟩).next (by omega) (by omega)) (by omega) qs.length rfl
            have HB2 := mkHid hc1
            have HW2 := mkHid hc2
            have HR2 := mkHid hr2
            clear hc1 hc2 hr2
            (rw [if_pos (by rfl)]; simp [Oper.wp, execOp, resolve, invoke, builtin, Oper.upon, Act.eval, hrun1, Result.andThen, Sem.run_bind])
            try dsimp only
            refine hK.out _ _ (HS.out _ (Fr.of HB2.out)) (fun hS2 => ?_)
            clear hK K
            (try simp only [List.getElem_toArray, List.getElem_cons_succ, List.getElem_cons_zero, Act.put, List.setIfInBounds_toArray, List.set_cons_zero, List.set_cons_succ])
            refine wpAnyH_ready (rs := [10]) (by kernel_rfl) (by simp) ?_
            refine AllReadyH.cons (o := _) rfl (fun K hK => ?_) AllReadyH.nil
            go_simp
            have HB3 := mkHid (HB2.out.trans ((Below.refl w1.heap.size w1).new (.cells #[.slice (some ⟨b3, o3, none⟩) (m3 + 1) c3, .int .i64 (mk.lay ⟨5, mk.next, 0, ⟨#[]⟩, 0, false⟩).next] 102) |>.mono HB2.out.size))
            try dsimp only
            refine hK.out _ _ (HS.out _ (Fr.of HB3.out)) (fun hS3 => ?_)
            clear hK K
            (try simp only [List.getElem_toArray, List.getElem_cons_succ, List.getElem_cons_zero, Act.put, List.setIfInBounds_toArray, List.set_cons_zero, List.set_cons_succ])
            refine wpAnyH_ready (rs := [11]) (by kernel_rfl) (by simp) ?_
            refine AllReadyH.cons (o := _) rfl (fun K hK => ?_) AllReadyH.nil
            have HB4 := HW2
            (rw [if_pos (by rfl)]; simp [Oper.wp, execOp, resolve, invoke, builtin, Oper.upon, Act.eval, hrun2, Result.andThen, Sem.run_bind])
            try dsimp only
            refine hK.out _ _ (HS.out _ (Fr.of HB4.out)) (fun hS4 => ?_)
            clear hK K
            (try simp only [List.getElem_toArray, List.getElem_cons_succ, List.getElem_cons_zero, Act.put, List.setIfInBounds_toArray, List.set_cons_zero, List.set_cons_succ])
            refine wpAnyH_take (i := 12) (oi := _) (v := ?_) rfl (by kernel_rfl) (by kernel_rfl) (by kernel_rfl) (fun _ _ _ h => h) (Or.inl ⟨by rfl, ?_⟩) (by assumption) ?_
            rotate_left
            · (intro w' hSw; obtain ⟨z0, z1⟩ := hSw; go_simp; try with_reducible rfl)
            (try simp only [List.getElem_toArray, List.getElem_cons_succ, List.getElem_cons_zero, Act.put, List.setIfInBounds_toArray, List.set_cons_zero, List.set_cons_succ])
            refine wpAnyH_done (by kernel_rfl) (NoPanic.normal ?_) _
            have HX8 := mkHid ((HW2.out.block w.heap.size (by have := HZY.out; omega)).trans HXY.out)
            have HSB8 : Hid (SB (0 - 1) us2 w2 w.heap.size (mk.lay ⟨5, mk.next, 0, ⟨#[]⟩, 0, false⟩)) := ⟨a5, c5, av2, cv2, ar2, cr2, vs2, rs2, HX8.out, HSY.out.on (Fr.of HW2.out)⟩
            have HF8 := mkHid (HFY.out.trans (Fr.of HW2.out))
            obtain ⟨k0, k1, k2, k3⟩ := st_cells HX8.out
            obtain ⟨f0, f1, f2, f3⟩ := st_free HX8.out
            clear HS hSd HXY HSY HFY HQY HR3Y HW2 HB0 d0 HZY hrun1 hrun2
            have HSB9 := mkHid (SB.mono (SB.next HSB8.out H02.out.1) (show (0 : Int) - 1 + 1 ≤ 0 by omega))
            have HSB10 : Hid (SB 0 us2 (w2.setCell ⟨w.heap.size, 1, none⟩ (.int .i64 ((mk.lay ⟨5, mk.next, 0, ⟨#[]⟩, 0, false⟩).next + 1))) w.heap.size (unifyS (t.args.take (k + 1)) m).1) := by rw [Hid, HN1.out]; exact HSB9.out
            have HFS := mkHid ((Fr.refl [w.heap.size] w2).set (g := w.heap.size) (k := 1) (by simp) (.int .i64 ((mk.lay ⟨5, mk.next, 0, ⟨#[]⟩, 0, false⟩).next + 1)))
            have HF9 := mkHid (HF8.out.trans HFS.out)
            have HQ9 := mkHid (HR2.out.keeps (veil_toR (us := us2) (HFS.out.sub fun k hk => by simp at hk; subst hk; exact H02.out.1) fun k hk => .inl hk))
            go_wp2_with fail
            go_round
            case rel => exact ⟨k + 1, a2, c2, qs ++ [⟨u.flat, mk.next⟩], by omega, by go_num, by rw [List.length_append]; rfl, by rw [List.length_append, List.length_singleton]; omega, HN2, HQ9, HF9, HSB10⟩
            case measure => simp [intOf]; omega
          refine AllReadyH.cons (o := _) rfl (fun K hK => ?_) AllReadyH.nil
          go_simp
          have HB2 := mkHid (HB1.out.then ((Below.refl _ _).new (.cells #[.slice (some ⟨b3, o3, none⟩) (m3 + 1) c3, .int .i64 (mk.lay ⟨5, mk.next, 0, ⟨#[]⟩, 0, false⟩).next] 102)))
          try dsimp only
          refine hK.out _ _ (HS.out _ (Fr.of HB2.out)) (fun hS2 => ?_)
          clear hK K
          (try simp only [List.getElem_toArray, List.getElem_cons_succ, List.getElem_cons_zero, Act.put, List.setIfInBounds_toArray, List.set_cons_zero, List.set_cons_succ])
          refine wpAnyH_ready (rs := [2]) (by kernel_rfl) (by simp) ?_
          refine AllReadyH.cons (o := _) rfl (fun K hK => ?_) AllReadyH.nil
          obtain ⟨v1, w1, a2, c2, w2, hrun1, hrun2, hr2, hc1, hc2⟩ := three_b (α := Pl) (us := us2) (cs := #[.slice (some ⟨b3, o3, none⟩) (m3 + 1) c3, .int .i64 (mk.lay ⟨5, mk.next, 0, ⟨#[]⟩, 0, false⟩).next]) (y := ⟨u.flat, (mk.lay ⟨5, mk.next, 0, ⟨#[]⟩, 0, false⟩).next⟩) Try.underlying100 Try.infoArg10 (by decide) (by decide) (HU2.out y0 HZY.out) HQY.out (pl_c (m3 + 1) HM3.out HR3Y.out (mk.lay ⟨5, mk.next, 0, ⟨#[]⟩, 0, false⟩).next (by omega) (by omega)) (by omega) qs.length rfl
          have HB3 := mkHid hc1
          have HW2 := mkHid hc2
          have HR2 := mkHid hr2
          clear hc1 hc2 hr2
          (rw [if_pos (by rfl)]; simp [Oper.wp, execOp, resolve, invoke, builtin, Oper.upon, Act.eval, hrun1, Result.andThen, Sem.run_bind])
          try dsimp only
          refine hK.out _ _ (HS.out _ (Fr.of HB3.out)) (fun hS3 => ?_)
          clear hK K
          (try simp only [List.getElem_toArray, List.getElem_cons_succ, List.getElem_cons_zero, Act.put, List.setIfInBounds_toArray, List.set_cons_zero, List.set_cons_succ])
          refine wpAnyH_ready (rs := [11]) (by kernel_rfl) (by simp) ?_
          refine AllReadyH.cons (o := _) rfl (fun K hK => ?_) AllReadyH.nil
          have HB4 := HW2
          (rw [if_pos (by rfl)]; simp [Oper.wp, execOp, resolve, invoke, builtin, Oper.upon, Act.eval, hrun2, Result.andThen, Sem.run_bind])
          try dsimp only
          refine hK.out _ _ (HS.out _ (Fr.of HB4.out)) (fun hS4 => ?_)
          clear hK K
          (try simp only [List.getElem_toArray, List.getElem_cons_succ, List.getElem_cons_zero, Act.put, List.setIfInBounds_toArray, List.set_cons_zero, List.set_cons_succ])
          refine wpAnyH_take (i := 12) (oi := _) (v := ?_) rfl (by kernel_rfl) (by kernel_rfl) (by kernel_rfl) (fun _ _ _ h => h) (Or.inl ⟨by rfl, ?_⟩) (by assumption) ?_
          rotate_left
          · (intro w' hSw; obtain ⟨z0, z1⟩ := hSw; go_simp; try with_reducible rfl)
          (try simp only [List.getElem_toArray, List.getElem_cons_succ, List.getElem_cons_zero, Act.put, List.setIfInBounds_toArray, List.set_cons_zero, List.set_cons_succ])
          refine wpAnyH_done (by kernel_rfl) (NoPanic.normal ?_) _
          have HX8 := mkHid ((HW2.out.block w.heap.size (by have := HZY.out; omega)).trans HXY.out)
          have HSB8 : Hid (SB (0 - 1) us2 w2 w.heap.size (mk.lay ⟨5, mk.next, 0, ⟨#[]⟩, 0, false⟩)) := ⟨a5, c5, av2, cv2, ar2, cr2, vs2, rs2, HX8.out, HSY.out.on (Fr.of HW2.out)⟩
          have HF8 := mkHid (HFY.out.trans (Fr.of HW2.out))
          obtain ⟨k0, k1, k2, k3⟩ := st_cells HX8.out
          obtain ⟨f0, f1, f2, f3⟩ := st_free HX8.out
          clear HS hSd HXY HSY HFY HQY HR3Y HW2 HB0 d0 HZY hrun1 hrun2
          have HSB9 := mkHid (SB.mono (SB.next HSB8.out H02.out.1) (show (0 : Int) - 1 + 1 ≤ 0 by omega))
          have HSB10 : Hid (SB 0 us2 (w2.setCell ⟨w.heap.size, 1, none⟩ (.int .i64 ((mk.lay ⟨5, mk.next, 0, ⟨#[]⟩, 0, false⟩).next + 1))) w.heap.size (unifyS (t.args.take (k + 1)) m).1) := by rw [Hid, HN1.out]; exact HSB9.out
          have HFS := mkHid ((Fr.refl [w.heap.size] w2).set (g := w.heap.size) (k := 1) (by simp) (.int .i64 ((mk.lay ⟨5, mk.next, 0, ⟨#[]⟩, 0, false⟩).next + 1)))
          have HF9 := mkHid (HF8.out.trans HFS.out)
          have HQ9 := mkHid (HR2.out.keeps (veil_toR (us := us2) (HFS.out.sub fun k hk => by simp at hk; subst hk; exact H02.out.1) fun k hk => .inl hk))
          go_wp2_with fail
          go_round
          case rel => exact ⟨k + 1, a2, c2, qs ++ [⟨u.flat, mk.next⟩], by omega, by go_num, by rw [List.length_append]; rfl, by rw [List.length_append, List.length_singleton]; omega, HN2, HQ9, HF9, HSB10⟩
          case measure => simp [intOf]; omega
        refine AllReadyH.cons (o := _) rfl (fun K hK => ?_) AllReadyH.nil
        go_simp
        have HB1 := mkHid (HB0.out.then ((Below.refl _ _).new (.cells #[.slice (some ⟨b3, o3, none⟩) (m3 + 1) c3, .int .i64 (mk.lay ⟨5, mk.next, 0, ⟨#[]⟩, 0, false⟩).next] 102)))
        try dsimp only
        refine hK.out _ _ (HS.out _ (Fr.of HB1.out)) (fun hS1 => ?_)
        clear hK K
        (try simp only [List.getElem_toArray, List.getElem_cons_succ, List.getElem_cons_zero, Act.put, List.setIfInBounds_toArray, List.set_cons_zero, List.set_cons_succ])
        refine wpAnyH_ready (rs := [0]) (by kernel_rfl) (by simp) ?_
        refine AllReadyH.cons (o := _) rfl (fun K hK => ?_) AllReadyH.nil
        go_simp
        have HB2 := mkHid (HB1.out.then ((Below.refl _ _).new (.cells #[] 102)))
        try dsimp only
        refine hK.out _ _ (HS.out _ (Fr.of HB2.out)) (fun hS2 => ?_)
        clear hK K
        (try simp only [List.getElem_toArray, List.getElem_cons_succ, List.getElem_cons_zero, Act.put, List.setIfInBounds_toArray, List.set_cons_zero, List.set_cons_succ])
        refine wpAnyH_ready (rs := [2]) (by kernel_rfl) (by simp) ?_
        refine AllReadyH.cons (o := _) rfl (fun K hK => ?_) AllReadyH.nil
        obtain ⟨v1, w1, a2, c2, w2, hrun1, hrun2, hr2, hc1, hc2⟩ := three_a (α := Pl) (us := us2) (cs := #[.slice (some ⟨b3, o3, none⟩) (m3 + 1) c3, .int .i64 (mk.lay ⟨5, mk.next, 0, ⟨#[]⟩, 0, false⟩).next]) (y := ⟨u.flat, (mk.lay ⟨5, mk.next, 0, ⟨#[]⟩, 0, false⟩).next⟩) Try.underlying100 Try.infoArg10 (by decide) (by decide) (HU2.out y0 HZY.out) HQY.out (pl_c (m3 + 1) HM3.out HR3Y.out (mk.lay ⟨5, mk.next, 0, ⟨#[]⟩, 0, false⟩).next (by omega) (by omega)) (by omega) qs.length rfl
        have HB3 := mkHid hc1
        have HW2 := mkHid hc2
        have HR2 := mkHid hr2
        clear hc1 hc2 hr2
        (rw [if_pos (by rfl)]; simp [Oper.wp, execOp, resolve, invoke, builtin, Oper.upon, Act.eval, hrun1, Result.andThen, Sem.run_bind])
        try dsimp only
        refine hK.out _ _ (HS.out _ (Fr.of HB3.out)) (fun hS3 => ?_)
        clear hK K
        (try simp only [List.getElem_toArray, List.getElem_cons_succ, List.getElem_cons_zero, Act.put, List.setIfInBounds_toArray, List.set_cons_zero, List.set_cons_succ])
        refine wpAnyH_ready (rs := [11]) (by kernel_rfl) (by simp) ?_
        refine AllReadyH.cons (o := _) rfl (fun K hK => ?_) AllReadyH.nil
        have HB4 := HW2
        (rw [if_pos (by rfl)]; simp [Oper.wp, execOp, resolve, invoke, builtin, Oper.upon, Act.eval, hrun2, Result.andThen, Sem.run_bind])
        try dsimp only
        refine hK.out _ _ (HS.out _ (Fr.of HB4.out)) (fun hS4 => ?_)
        clear hK K
        (try simp only [List.getElem_toArray, List.getElem_cons_succ, List.getElem_cons_zero, Act.put, List.setIfInBounds_toArray, List.set_cons_zero, List.set_cons_succ])
        refine wpAnyH_take (i := 12) (oi := _) (v := ?_) rfl (by kernel_rfl) (by kernel_rfl) (by kernel_rfl) (fun _ _ _ h => h) (Or.inl ⟨by rfl, ?_⟩) (by assumption) ?_
        rotate_left
        · (intro w' hSw; obtain ⟨z0, z1⟩ := hSw; go_simp; try with_reducible rfl)
        (try simp only [List.getElem_toArray, List.getElem_cons_succ, List.getElem_cons_zero, Act.put, List.setIfInBounds_toArray, List.set_cons_zero, List.set_cons_succ])
        refine wpAnyH_done (by kernel_rfl) (NoPanic.normal ?_) _
        have HX8 := mkHid ((HW2.out.block w.heap.size (by have := HZY.out; omega)).trans HXY.out)
        have HSB8 : Hid (SB (0 - 1) us2 w2 w.heap.size (mk.lay ⟨5, mk.next, 0, ⟨#[]⟩, 0, false⟩)) := ⟨a5, c5, av2, cv2, ar2, cr2, vs2, rs2, HX8.out, HSY.out.on (Fr.of HW2.out)⟩
        have HF8 := mkHid (HFY.out.trans (Fr.of HW2.out))
        obtain ⟨k0, k1, k2, k3⟩ := st_cells HX8.out
        obtain ⟨f0, f1, f2, f3⟩ := st_free HX8.out
        clear HS hSd HXY HSY HFY HQY HR3Y HW2 HB0 d0 HZY hrun1 hrun2
        have HSB9 := mkHid (SB.mono (SB.next HSB8.out H02.out.1) (show (0 : Int) - 1 + 1 ≤ 0 by omega))
        have HSB10 : Hid (SB 0 us2 (w2.setCell ⟨w.heap.size, 1, none⟩ (.int .i64 ((mk.lay ⟨5, mk.next, 0, ⟨#[]⟩, 0, false⟩).next + 1))) w.heap.size (unifyS (t.args.take (k + 1)) m).1) := by rw [Hid, HN1.out]; exact HSB9.out
        have HFS := mkHid ((Fr.refl [w.heap.size] w2).set (g := w.heap.size) (k := 1) (by simp) (.int .i64 ((mk.lay ⟨5, mk.next, 0, ⟨#[]⟩, 0, false⟩).next + 1)))
        have HF9 := mkHid (HF8.out.trans HFS.out)
        have HQ9 := mkHid (HR2.out.keeps (veil_toR (us := us2) (HFS.out.sub fun k hk => by simp at hk; subst hk; exact H02.out.1) fun k hk => .inl hk))
        go_wp2_with fail
        go_round
        case rel => exact ⟨k + 1, a2, c2, qs ++ [⟨u.flat, mk.next⟩], by omega, by go_num, by rw [List.length_append]; rfl, by rw [List.length_append, List.length_singleton]; omega, HN2, HQ9, HF9, HSB10⟩
        case measure => simp [intOf]; omega
    · have HE : Hid (mk = (unifyS t.args m).1) := by rw [Hid, ← HMK.out, List.take_of_length_le (by omega)]
      have HQE : Hid (qs = ps ++ (unifyS t.args m).2.map plOf) := by
        have h := HQ.out
        rw [List.take_of_length_le (by omega)] at h
        exact h
      have HK3 := mkHid ((HF.out.block (w.heap.size + 1) (by have := HZ1.out; omega) (by simp)).trans HK2.out)
      obtain ⟨l0, l1, l2, l3⟩ := st_cells HX.out
      obtain ⟨k0, k1, k2, k3⟩ := st_cells HK3.out
      obtain ⟨f0, f1, f2, f3⟩ := st_free HK3.out
      go_wp2_with fail
      refine bodyPost_ret (v := .tuple #[.agg #[.slice ac2 mk.code.length cc2, .int .i64 mk.next, .slice av2 vs2.length cv2, .slice ar2 rs2.length cr2], .slice aQ qs.length cQ]) (by simp [results, Try.results152, go_sem, *]) rfl ?_
      rw [← HE.out, ← HQE.out]
      have HFE := mkHid ((Fr.refl us2 wr).four H02.out.2 (.slice ac2 mk.code.length cc2) (.int .i64 mk.next) (.slice av2 vs2.length cv2) (.slice ar2 rs2.length cr2))
      refine ⟨ac2, cc2, av2, cv2, ar2, cr2, vs2, rs2, aQ, cQ, rfl, ?_, ?_, ?_⟩
      · exact (HSX.out.on HFE.out).sub HM2.out
      · exact HRQ.out.keeps (HFE.out.keeps.trans (veil_mono _ HM2.out))
      · exact below_four HBR.out (g := w.heap.size + 1) (by omega) (.slice ac2 mk.code.length cc2) (.int .i64 mk.next) (.slice av2 vs2.length cv2) (.slice ar2 rs2.length cr2)
end Go.Proofs.Ytmmnfkggfnokjaa
set_option linter.unusedVariables false
namespace Go.Proofs.Ytmmnfkggfnokjaa
open Go.RowKit
/-! ### heads -/
theorem rowS_mono (f : Nat) (ps : List (Tm × Int)) (m : MkS) : m.code.length ≤ (rowS f ps m).code.length := by
  obtain ⟨ch, e, _⟩ := rowS_q f ps m
  rw [e, List.length_append]
  omega
/-- the first of a row of terms that wait -/
theorem pl_head {w : World} {a : Option Addr} {c : Nat} {x : Pl} {qs : List Pl} (h : Row w a c (x :: qs)) : ∃ gb off a3 c3, a = some ⟨gb, off, none⟩ ∧ w.cell? ⟨gb, off, none⟩ = some (.slice a3 x.t.length c3) ∧ w.cell? ⟨gb, off + 1, none⟩ = some (.int .i64 x.r) ∧ Row w a3 c3 x.t ∧ -9223372036854775808 ≤ x.r ∧ x.r ≤ 9223372036854775807 := by
  obtain ⟨gb, off, e, hE⟩ := h.at_ 0 x rfl
  rw [Nat.zero_mul, Nat.add_zero] at hE
  obtain ⟨⟨a3, c3, h0, h1, hr⟩, r1, r2⟩ := (show PlE w gb off x from hE)
  exact ⟨gb, off, a3, c3, e, h0, h1, hr, r1, r2⟩
theorem pl_tail {w : World} {gb off c : Nat} {x : Pl} {qs : List Pl} (h : Row w (some ⟨gb, off, none⟩) c (x :: qs)) : Row w (some ⟨gb, off + 2, none⟩) (c - 1) qs :=
  ⟨by have := h.le; rw [List.length_cons] at this; omega, by have := h.max; omega, (fun e => by cases e), fun i y hi => by
    obtain ⟨b, o, e, hE⟩ := h.at_ (i + 1) y (by simpa using hi)
    injection e with e
    injection e with e1 e2 e3
    subst e1
    subst e2
    refine ⟨gb, off + 2, rfl, ?_⟩
    have e4 : off + 2 + i * Rep.sz Pl = off + (i + 1) * Rep.sz Pl := by
      show off + 2 + i * 2 = off + (i + 1) * 2
      omega
    rw [e4]
    exact hE⟩
theorem pl_none {w : World} {gb off : Nat} : Row w (some ⟨gb, off, none⟩) 0 ([] : List Pl) := Row.empty _ _ _ (by omega) (fun e => by cases e)
theorem fit_s (op x a : Int) (s : ByteArray) (n : Int) (ho : 0 ≤ op ∧ op ≤ 100) (hx : -9223372036854775808 ≤ x ∧ x ≤ 9223372036854775807) (ha : -9223372036854775808 ≤ a ∧ a ≤ 9223372036854775807) (hs : s.size ≤ 9223372036854775807) (hn : -9223372036854775808 ≤ n ∧ n ≤ 9223372036854775807) : Ins.fit ⟨op, x, a, s, n, false⟩ :=
  ⟨by show _ ≤ op; omega, by show op ≤ _; omega, hx.1, hx.2, ha.1, ha.2, hs, hn.1, hn.2⟩
set_option maxRecDepth 100000 in
set_option maxHeartbeats 25600000 in
theorem heads_any (us : List Nat) (w : World) (ac : Option Addr) (cc : Nat) (av : Option Addr) (cv : Nat) (ar : Option Addr) (cr : Nat) (m : MkS) (vs rs : List Int) (hst : StR us w ac cc av cv ar cr m vs rs) (hbj : Bj 0 m vs rs) (aR : Option Addr) (cR : Nat) (ps0 : List (Tm × Int)) (F0 : Nat) (hu : ∀ k ∈ us, k < w.heap.size) (hR : Row (veil us w) aR cR (ps0.map plOf)) (hO : RowOkN ps0) (hF : sumF ps0 ≤ F0) (hF2 : F0 ≤ 5000) (hl : (rowS F0 ps0 m).code.length ≤ 10000) :
    Calls Try.prog 68 #[.agg #[.slice ac m.code.length cc, .int .i64 m.next, .slice av vs.length cv, .slice ar rs.length cr], .slice aR (ps0.map plOf).length cR] w fun e w' => ∃ ac' cc' av' cv' ar' cr' vs' rs', e = .returned (.agg #[.slice ac' (rowS F0 ps0 m).code.length cc', .int .i64 (rowS F0 ps0 m).next, .slice av' (List.length vs') cv', .slice ar' (List.length rs') cr']) ∧ SX 0 us w' ac' cc' av' cv' ar' cr' (rowS F0 ps0 m) vs' rs' ∧ Below w.heap.size w w' := by
  obtain ⟨W, hW⟩ : ∃ W, (w.alloc (.cells #[.slice ac m.code.length cc, .int .i64 m.next, .slice av vs.length cv, .slice ar rs.length cr] 104)).alloc (.cells #[.slice none 0 0, .int .i64 0, .slice none 0 0, .slice none 0 0] 104) = W := ⟨_, rfl⟩
  have hb0 : Below w.heap.size w W := by rw [← hW]; exact ((Below.refl _ _).new _).new _
  have hs1 : (w.alloc (.cells #[.slice ac m.code.length cc, .int .i64 m.next, .slice av vs.length cv, .slice ar rs.length cr] 104)).heap.size = w.heap.size + 1 := by simp
  have hk0 : W.heap[w.heap.size]? = some (.cells #[.slice ac m.code.length cc, .int .i64 m.next, .slice av vs.length cv, .slice ar rs.length cr] 104 (0, 0)) := by
    rw [← hW]
    exact (heap_alloc_old _ _ (by simp)).trans (heap_alloc_new _ _)
  have HK1 : Hid (W.heap[w.heap.size + 1]? = some (.cells #[.slice none 0 0, .int .i64 0, .slice none 0 0, .slice none 0 0] 104 (0, 0))) := by
    rw [Hid, ← hW, ← hs1]
    exact heap_alloc_new _ _
  have HZ : Hid (W.heap.size = w.heap.size + 2) := by rw [Hid, ← hW]; simp
  obtain ⟨us2, hus2⟩ : ∃ us2, [w.heap.size, w.heap.size + 1] ++ us = us2 := ⟨_, rfl⟩
  have HU2 : Hid (∀ X : World, w.heap.size + 2 ≤ X.heap.size → ∀ k ∈ us2, k < X.heap.size) := by
    rw [Hid, ← hus2]
    intro X hX k hk
    rcases List.mem_append.1 hk with h | h
    · simp at h; omega
    · have := hu k h; omega
  have HIN : Hid (∀ k ∈ us2, k ∈ us ∨ w.heap.size ≤ k) := by
    rw [Hid, ← hus2]
    intro k hk
    rcases List.mem_append.1 hk with h | h
    · simp at h; right; omega
    · exact .inl h
  have HM2 : Hid (∀ k ∈ us, k ∈ us2) := by
    rw [Hid, ← hus2]
    exact fun k hk => List.mem_append_right _ hk
  have H02 : Hid (w.heap.size ∈ us2 ∧ w.heap.size + 1 ∈ us2) := by rw [Hid, ← hus2]; exact ⟨by simp, by simp⟩
  have hst2 := hst.to (Fr.of hb0) HIN.out
  have HSB : Hid (SB 0 us2 W w.heap.size m) := ⟨ac, cc, av, cv, ar, cr, vs, rs, hk0, hst2, hbj⟩
  have HR := mkHid (hR.keeps (veil_toR (Fr.of hb0) HIN.out))
  have HB := mkHid hb0
  have HFL := mkHid hl
  have HO := mkHid hO
  have HSF := mkHid hF
  have HBW : Hid (Below w.heap.size w W) := hb0
  have HSUB : Hid (∀ {X Y : World}, Fr [w.heap.size] X Y → Fr us2 X Y) := fun h => h.sub fun k hk => by simp at hk; subst hk; exact H02.out.1
  clear hb0 hs1 hus2 hst hst2 hk0 hR hbj hl hu hO hF
  go_enter Try.func68, Try.ntmps68
  go_wp2_with fail
  first | rw [hW] | skip
  clear hW
  go_loopg [1] F0 (fun kk rv wr => ∃ (ps : List (Tm × Int)) (mk : MkS) (aQ : Option Addr) (cQ : Nat) (qs : List Pl), kk ≤ F0 ∧ rv = .slice aQ qs.length cQ ∧ Hid (qs = ps.map plOf) ∧ Hid (sumF ps ≤ kk) ∧ Hid (rowS F0 ps0 m = rowS kk ps mk) ∧ Hid (RowOkN ps) ∧ Hid (Row (veil us2 wr) aQ cQ qs) ∧ Hid (Fr [w.heap.size] W wr) ∧ Hid (SB 0 us2 wr w.heap.size mk))
  case atStart => exact ⟨ps0, m, aR, cR, _, Nat.le_refl _, rfl, rfl, HSF, rfl, HO, HR, Fr.refl _ _, HSB⟩
  case round =>
    clear HSB HR HO HSF
    obtain ⟨ps, mk, aQ, cQ, qs, hkF, rfl, HQ, HSF, HRS, HO, HRQ, HF, HSB⟩ := hrel
    have HZR : Hid (w.heap.size + 2 ≤ wr.heap.size) := by have := HZ.out; have := HF.out.size; rw [Hid]; omega
    have HBR := mkHid (HBW.out.trans (HF.out.below (B := w.heap.size) (by have := HZ.out; omega) fun k hk => by simp at hk; omega))
    obtain ⟨ac2, cc2, av2, cv2, ar2, cr2, vs2, rs2, hx, hsx⟩ := HSB.out
    have HX := mkHid hx
    have HSX := mkHid hsx
    clear hx hsx HSB
    cases ps with
    | nil =>
      have hq0 : qs = [] := HQ.out
      subst hq0
      have HE : Hid (rowS F0 ps0 m = mk) := by
        rw [Hid, HRS.out]
        cases gk <;> rfl
      have HK3 := mkHid ((HF.out.block (w.heap.size + 1) (by have := HZ.out; omega) (by simp)).trans HK1.out)
      obtain ⟨l0, l1, l2, l3⟩ := st_cells HX.out
      obtain ⟨k0, k1, k2, k3⟩ := st_cells HK3.out
      obtain ⟨f0, f1, f2, f3⟩ := st_free HK3.out
      go_wp2_with fail
      refine bodyPost_ret (v := .agg #[.slice ac2 mk.code.length cc2, .int .i64 mk.next, .slice av2 vs2.length cv2, .slice ar2 rs2.length cr2]) (by simp [results, Try.results68, go_sem, *]) rfl ?_
      rw [HE.out]
      have HFE := mkHid ((Fr.refl us2 wr).four H02.out.2 (.slice ac2 mk.code.length cc2) (.int .i64 mk.next) (.slice av2 vs2.length cv2) (.slice ar2 rs2.length cr2))
      refine ⟨ac2, cc2, av2, cv2, ar2, cr2, vs2, rs2, rfl, ?_, ?_⟩
      · exact (HSX.out.on HFE.out).sub HM2.out
      · exact below_four HBR.out (g := w.heap.size + 1) (by omega) (.slice ac2 mk.code.length cc2) (.int .i64 mk.next) (.slice av2 vs2.length cv2) (.slice ar2 rs2.length cr2)
    | cons p ps =>
      have hq0 : qs = plOf p :: ps.map plOf := HQ.out
      obtain ⟨ts, hts⟩ : ∃ ts, ps.map plOf = ts := ⟨_, rfl⟩
      rw [hts] at hq0
      subst hq0
      have HTS := mkHid hts
      have hfl := flat_pos p.1
      have hsf : sumF (p :: ps) = p.1.flat.length + sumF ps := by simp [sumF]
      obtain ⟨kk, rfl⟩ : ∃ kk, gk = kk + 1 := ⟨gk - 1, by have := HSF.out; omega⟩
      obtain ⟨ho1, ho2, ho3, ho4⟩ := HO.out p List.mem_cons_self
      obtain ⟨_, hg2, _⟩ := getS_len p mk (ok_kinds _ ho1)
      have hsum : sumF (ps ++ (getS p mk).2) ≤ kk := by rw [sumF_app]; have := HSF.out; omega
      have HSF1 := mkHid hsum
      have HRS1 : Hid (rowS F0 ps0 m = rowS kk (ps ++ (getS p mk).2) (getS p mk).1) := HRS.out
      have hgl : (getS p mk).1.code.length ≤ 10000 := by
        have h1 := rowS_mono kk (ps ++ (getS p mk).2) (getS p mk).1
        have h2 := HFL.out
        rw [HRS1.out] at h2
        omega
      have hml : mk.code.length ≤ 10000 := by
        obtain ⟨ch, e, _⟩ := getS_q p mk
        rw [e, List.length_append] at hgl
        omega
      have hpl := sumF_len (p :: ps)
      have htl : ts.length ≤ 6000 := by
        rw [← hts, List.length_map]
        rw [List.length_cons] at hpl
        have := HSF.out
        omega
      have HGL := mkHid hgl
      obtain ⟨gb, off, a3, c3, rfl, e0, e1, hr3, _, _⟩ := pl_head HRQ.out
      have he0 := (veil_cell e0).2
      have he1 := (veil_cell e1).2
      have hrv : (plOf p).r = p.2 := rfl
      have htv : (plOf p).t = p.1.flat := rfl
      rw [htv] at he0 hr3
      rw [hrv] at he1
      obtain ⟨b3, o3, rfl, hb3, hat3⟩ := hr3.cases.resolve_left (fun e => by rw [e] at hfl; simp at hfl)
      have hcv := cel_at hat3 (Below.refl _ _) hfl
      have hce : p.1.flat[0] = p.1.hd := by simp only [flat_cons, List.getElem_cons_zero]
      rw [hce] at hcv
      obtain ⟨hc0, hc1, hc2, hcf⟩ := hcv
      rw [Nat.zero_mul, Nat.add_zero] at hc0 hc1 hc2
      have c0 := (veil_cell hc0).2
      have c1 := (veil_cell hc1).2
      have c2 := (veil_cell hc2).2
      have hf1 := hcf.n1
      have hf2 := hcf.n2
      have hfs := hcf.s
      have HR3 := mkHid hr3
      have hle3 := hr3.le
      have hmx3 := hr3.max
      obtain ⟨m3, hm3⟩ : ∃ m3, p.1.flat.length = m3 + 1 := ⟨p.1.flat.length - 1, by omega⟩
      have HM3 := mkHid hm3
      rw [hm3] at he0 hle3
      have hqle := HRQ.out.le
      have hqmx := HRQ.out.max
      rw [List.length_cons] at hqle
      have HOK := mkHid ho1
      have huk : kindOk p.1.hd := by
        have h := ok_kinds p.1 ho1
        cases hp : p.1 with
        | mk c az => rw [hp] at h; exact h.1
      clear e0 e1 hrv htv hr3 hat3 hc0 hc1 hc2 hcf hce hm3 hb3 hts hsum hsf hg2 hgl hpl hfl ho1
      by_cases hce1 : cQ = 1
      · have HTL : Hid (Row (veil us2 wr) (some ⟨gb, off, none⟩) (cQ - 1) ts) := by
          have h0 : ts = [] := List.eq_nil_of_length_eq_zero (by omega)
          subst h0
          have e9 : cQ - 1 = 0 := by omega
          rw [Hid, e9]
          exact pl_none
        have hce2 : (cQ = 1) = True := eq_true hce1
        clear hce1
        obtain ⟨WA, hWA⟩ : ∃ X, wr.alloc (.cells #[.slice (some ⟨b3, o3, none⟩) (m3 + 1) c3, .int .i64 p.2] 102) = X := ⟨_, rfl⟩
        obtain ⟨WB, hWB⟩ : ∃ X, WA.alloc (.cells #[.int .i64 p.1.hd.k, .string p.1.hd.s, .int .i64 p.1.hd.n] 79) = X := ⟨_, rfl⟩
        have hba : Below wr.heap.size wr WA := by rw [← hWA]; exact (Below.refl _ _).new _
        have hsA : WA.heap.size = wr.heap.size + 1 := by rw [← hWA]; simp
        have hbb : Below WA.heap.size WA WB := by rw [← hWB]; exact (Below.refl _ _).new _
        have hbw := hba.then hbb
        have d0 := keep c0 hba
        have d1 := keep c1 hba
        have d2 := keep c2 hba
        have hA0 : WA.heap[wr.heap.size]? = some (.cells #[.slice (some ⟨b3, o3, none⟩) (m3 + 1) c3, .int .i64 p.2] 102 (0, 0)) := by rw [← hWA]; exact heap_alloc_new _ _
        have HA0 := mkHid ((hbb.block wr.heap.size (by omega)).trans hA0)
        have hA1 : WB.heap[wr.heap.size + 1]? = some (.cells #[.int .i64 p.1.hd.k, .string p.1.hd.s, .int .i64 p.1.hd.n] 79 (0, 0)) := by rw [← hWB, ← hsA]; exact heap_alloc_new _ _
        have t0 : WB.cell? ⟨wr.heap.size, 0, none⟩ = some (.slice (some ⟨b3, o3, none⟩) (m3 + 1) c3) := by rw [cell_of_row WB _ 0 _ _ _ HA0.out]; rfl
        have t1 : WB.cell? ⟨wr.heap.size, 1, none⟩ = some (.int .i64 p.2) := by rw [cell_of_row WB _ 1 _ _ _ HA0.out]; rfl
        have u0 : WB.cell? ⟨wr.heap.size + 1, 0, none⟩ = some (.int .i64 p.1.hd.k) := by rw [cell_of_row WB _ 0 _ _ _ hA1]; rfl
        have u1 : WB.cell? ⟨wr.heap.size + 1, 1, none⟩ = some (.string p.1.hd.s) := by rw [cell_of_row WB _ 1 _ _ _ hA1]; rfl
        have u2 : WB.cell? ⟨wr.heap.size + 1, 2, none⟩ = some (.int .i64 p.1.hd.n) := by rw [cell_of_row WB _ 2 _ _ _ hA1]; rfl
        have hta : WA.cell? ⟨wr.heap.size, 0, none⟩ = some (.slice (some ⟨b3, o3, none⟩) (m3 + 1) c3) := by rw [cell_of_row WA _ 0 _ _ _ hA0]; rfl
        have HXB := mkHid ((hbw.block w.heap.size (by have := HZR.out; omega)).trans HX.out)
        have HSB2 := mkHid (HSX.out.on (Fr.of hbw))
        have HTLB := mkHid (HTL.out.keeps (veil_toR (us := us2) (Fr.of hbw) fun k hk => .inl hk))
        have HR3B := mkHid (HR3.out.keeps (veil_toR (us := us2) (Fr.of hbw) fun k hk => .inl hk))
        have HFB := mkHid (HF.out.trans (Fr.of hbw))
        have HZB : Hid (w.heap.size + 2 ≤ WB.heap.size) := by have := HZR.out; have := hbw.size; rw [Hid]; omega
        have HLB : Hid (wr.heap.size < WB.heap.size ∧ wr.heap.size ≠ w.heap.size) := by have := HZR.out; have := hbb.size; rw [Hid]; omega
        obtain ⟨k0, k1, k2, k3⟩ := st_cells HXB.out
        clear hba hbb hbw hA0 hA1 HX HSX HTL HR3 HF HZR HRQ
        rcases huk with h1 | h2 | h3
        · have hgs : getS p mk = (mk.var p.1.hd.n 1 2 p.2, []) := by unfold getS; rw [if_pos h1]
          obtain ⟨M, R, F, hM⟩ : ∃ M R F, regM mk p.1.hd.n = (M, R, F) := ⟨_, _, _, rfl⟩
          have hvr := var_reg mk p.1.hd.n 1 2 p.2
          rw [hM] at hvr
          have HG1 : Hid ((getS p mk).1 = M.lay ⟨if F then 1 else 2, R, p.2, ⟨#[]⟩, 0, false⟩) := by rw [Hid, hgs]; exact hvr
          have HG2 : Hid ((getS p mk).2 = []) := by rw [Hid, hgs]
          have hMc : M.code.length = mk.code.length := by have := regM_code mk p.1.hd.n; rw [hM] at this; rw [this]
          have HM := mkHid hM
          have hMl : M.code.length ≤ 10000 := by omega
          have hn0 := HSB2.out.b.n0
          have d1k : (p.1.hd.k == 1) = true := by simp [h1]
          clear hgs hvr hM h1 hMc
          go_wp2_with fail
          first | rw [hWA] | skip
          first | rw [hWB] | skip
          clear hWA hWB hsA
          refine (register_sy us2 _ ac2 cc2 av2 cv2 ar2 cr2 mk vs2 rs2 p.1.hd.n M R F HM.out hf1 hf2 (HU2.out _ HZB.out) HSB2.out hml).mono ?_
          rintro r y1 ⟨av4, cv4, ar4, cr4, vs4, rs4, rfl, hRb, hs4, hb4⟩
          obtain ⟨YA, hYA⟩ : ∃ X, y1.alloc (.cells #[.slice ac2 M.code.length cc2, .int .i64 M.next, .slice av4 vs4.length cv4, .slice ar4 rs4.length cr4] 104) = X := ⟨_, rfl⟩
          have hby : Below y1.heap.size y1 YA := by rw [← hYA]; exact (Below.refl _ _).new _
          have hbz := hb4.then hby
          have hY7 : YA.heap[y1.heap.size]? = some (.cells #[.slice ac2 M.code.length cc2, .int .i64 M.next, .slice av4 vs4.length cv4, .slice ar4 rs4.length cr4] 104 (0, 0)) := by rw [← hYA]; exact heap_alloc_new _ _
          have HXY := mkHid ((hbz.block w.heap.size (by have := HZB.out; omega)).trans HXB.out)
          have HAY := mkHid ((hbz.block wr.heap.size HLB.out.1).trans HA0.out)
          have HSY := mkHid (hs4.on (Fr.of hby))
          have HTY := mkHid (HTLB.out.keeps (veil_toR (us := us2) (Fr.of hbz) fun k hk => .inl hk))
          have HFY := mkHid (HFB.out.trans (Fr.of hbz))
          have HZY : Hid (w.heap.size + 2 ≤ YA.heap.size) := by have := HZB.out; have := hbz.size; rw [Hid]; omega
          obtain ⟨l0, l1, l2, l3⟩ := st_cells hY7
          clear k0 k1 k2 k3
          obtain ⟨k0, k1, k2, k3⟩ := st_cells HXY.out
          obtain ⟨f0, f1, f2, f3⟩ := st_free HXY.out
          have HX5 := mkHid (st_all HXY.out (.slice ac2 M.code.length cc2) (.int .i64 M.next) (.slice av4 vs4.length cv4) (.slice ar4 rs4.length cr4))
          have HF5 := mkHid ((Fr.refl [w.heap.size] YA).four (g := w.heap.size) (by simp) (.slice ac2 M.code.length cc2) (.int .i64 M.next) (.slice av4 vs4.length cv4) (.slice ar4 rs4.length cr4))
          have HS5 := mkHid (HSY.out.on (HSUB.out HF5.out))
          have HZ5 : Hid (w.heap.size + 2 ≤ (((((YA.setCell ⟨w.heap.size, 0, none⟩ (.slice ac2 M.code.length cc2)).setCell ⟨w.heap.size, 1, none⟩ (.int .i64 M.next)).setCell ⟨w.heap.size, 2, none⟩ (.slice av4 vs4.length cv4)).setCell ⟨w.heap.size, 3, none⟩ (.slice ar4 rs4.length cr4))).heap.size) := by have := HF5.out.size; have := HZY.out; rw [Hid]; omega
          have HT5 := mkHid (HTY.out.keeps (veil_toR (us := us2) (HSUB.out HF5.out) fun k hk => .inl hk))
          have HF6 := mkHid (HFY.out.trans HF5.out)
          have hA5 := (HF5.out.block wr.heap.size (by have := hbz.size; have := HLB.out.1; omega) (by simp; exact HLB.out.2)).trans HAY.out
          have t5 : (((((YA.setCell ⟨w.heap.size, 0, none⟩ (.slice ac2 M.code.length cc2)).setCell ⟨w.heap.size, 1, none⟩ (.int .i64 M.next)).setCell ⟨w.heap.size, 2, none⟩ (.slice av4 vs4.length cv4)).setCell ⟨w.heap.size, 3, none⟩ (.slice ar4 rs4.length cr4))).cell? ⟨wr.heap.size, 1, none⟩ = some (.int .i64 p.2) := by rw [cell_of_row _ _ 1 _ _ _ hA5]; rfl
          obtain ⟨p0, p1, p2, p3⟩ := st_cells HX5.out
          clear hs4 hb4 hby hbz hY7 hA5 t0 t1 u0 u1 u2 hta d0 d1 d2 c0 c1 c2
          cases F
          · go_wp2_with fail
            first | rw [hYA] | skip
            clear hYA
            refine (emit_sx 1 us2 _ ac2 cc2 av4 cv4 ar4 cr4 M vs4 rs4 ⟨2, R, p.2, ⟨#[]⟩, 0, false⟩ (fit_w _ _ _ _ (by omega) hRb (by omega) (by omega)) (HU2.out _ HZ5.out) HS5.out hMl).mono ?_
            rintro r z6 ⟨a5, c5, rfl, hs6, hb6⟩
            have HX6 := mkHid ((hb6.block w.heap.size (by have := HZ5.out; omega)).trans HX5.out)
            have HS6 := mkHid hs6
            have HTL6 := mkHid (HT5.out.keeps (veil_toR (us := us2) (Fr.of hb6) fun k hk => .inl hk))
            have HF7 := mkHid (HF6.out.trans (Fr.of hb6))
            clear l0 l1 l2 l3 k0 k1 k2 k3 f0 f1 f2 f3 p0 p1 p2 p3 t5 HX5 HS5 HT5 HF6 HXY HAY HSY HTY HFY HF5 HZ5 HZY hs6 hb6
            obtain ⟨k0, k1, k2, k3⟩ := st_cells HX6.out
            obtain ⟨f0, f1, f2, f3⟩ := st_free HX6.out
            have HSB7 := mkHid (SB.mono (SB.stored HX6.out H02.out.1 HS6.out) (show (1 : Int) - 1 ≤ (0 : Int) by omega))
            have HSB8 : Hid (SB 0 us2 ((((z6.setCell ⟨w.heap.size, 0, none⟩ (.slice a5 (M.lay ⟨2, R, p.2, ⟨#[]⟩, 0, false⟩).code.length c5)).setCell ⟨w.heap.size, 1, none⟩ (.int .i64 (M.lay ⟨2, R, p.2, ⟨#[]⟩, 0, false⟩).next)).setCell ⟨w.heap.size, 2, none⟩ (.slice av4 vs4.length cv4)).setCell ⟨w.heap.size, 3, none⟩ (.slice ar4 rs4.length cr4)) w.heap.size (getS p mk).1) := by rw [Hid, HG1.out]; exact HSB7.out
            have HFF := mkHid ((Fr.refl [w.heap.size] z6).four (g := w.heap.size) (by simp) (.slice a5 (M.lay ⟨2, R, p.2, ⟨#[]⟩, 0, false⟩).code.length c5) (.int .i64 (M.lay ⟨2, R, p.2, ⟨#[]⟩, 0, false⟩).next) (.slice av4 vs4.length cv4) (.slice ar4 rs4.length cr4))
            have HQ8 := mkHid (HTL6.out.keeps (veil_toR (us := us2) (HSUB.out HFF.out) fun k hk => .inl hk))
            have HF8 := mkHid (HF7.out.trans HFF.out)
            have HNX : Hid ((getS p mk).1.next ≤ 900000) := by
              obtain ⟨_, _, _, _, _, _, _, _, _, h9⟩ := HSB8.out
              have := h9.b.n1
              have := HGL.out
              rw [Hid]
              omega
            have HO8 := mkHid (HO.out.step hn0 HNX.out)
            have HQE : Hid (ts = (ps ++ (getS p mk).2).map plOf) := by rw [Hid, HG2.out, List.append_nil, HTS.out]
            go_wp2_with fail
            go_roundg kk
            case rel => exact ⟨_, _, _, _, ts, by omega, rfl, HQE, HSF1, HRS1, HO8, HQ8, HF8, HSB8⟩
            case measure => omega
          · go_wp2_with fail
            first | rw [hYA] | skip
            clear hYA
            refine (emit_sx 1 us2 _ ac2 cc2 av4 cv4 ar4 cr4 M vs4 rs4 ⟨1, R, p.2, ⟨#[]⟩, 0, false⟩ (fit_w _ _ _ _ (by omega) hRb (by omega) (by omega)) (HU2.out _ HZ5.out) HS5.out hMl).mono ?_
            rintro r z6 ⟨a5, c5, rfl, hs6, hb6⟩
            have HX6 := mkHid ((hb6.block w.heap.size (by have := HZ5.out; omega)).trans HX5.out)
            have HS6 := mkHid hs6
            have HTL6 := mkHid (HT5.out.keeps (veil_toR (us := us2) (Fr.of hb6) fun k hk => .inl hk))
            have HF7 := mkHid (HF6.out.trans (Fr.of hb6))
            clear l0 l1 l2 l3 k0 k1 k2 k3 f0 f1 f2 f3 p0 p1 p2 p3 t5 HX5 HS5 HT5 HF6 HXY HAY HSY HTY HFY HF5 HZ5 HZY hs6 hb6
            obtain ⟨k0, k1, k2, k3⟩ := st_cells HX6.out
            obtain ⟨f0, f1, f2, f3⟩ := st_free HX6.out
            have HSB7 := mkHid (SB.mono (SB.stored HX6.out H02.out.1 HS6.out) (show (1 : Int) - 1 ≤ (0 : Int) by omega))
            have HSB8 : Hid (SB 0 us2 ((((z6.setCell ⟨w.heap.size, 0, none⟩ (.slice a5 (M.lay ⟨1, R, p.2, ⟨#[]⟩, 0, false⟩).code.length c5)).setCell ⟨w.heap.size, 1, none⟩ (.int .i64 (M.lay ⟨1, R, p.2, ⟨#[]⟩, 0, false⟩).next)).setCell ⟨w.heap.size, 2, none⟩ (.slice av4 vs4.length cv4)).setCell ⟨w.heap.size, 3, none⟩ (.slice ar4 rs4.length cr4)) w.heap.size (getS p mk).1) := by rw [Hid, HG1.out]; exact HSB7.out
            have HFF := mkHid ((Fr.refl [w.heap.size] z6).four (g := w.heap.size) (by simp) (.slice a5 (M.lay ⟨1, R, p.2, ⟨#[]⟩, 0, false⟩).code.length c5) (.int .i64 (M.lay ⟨1, R, p.2, ⟨#[]⟩, 0, false⟩).next) (.slice av4 vs4.length cv4) (.slice ar4 rs4.length cr4))
            have HQ8 := mkHid (HTL6.out.keeps (veil_toR (us := us2) (HSUB.out HFF.out) fun k hk => .inl hk))
            have HF8 := mkHid (HF7.out.trans HFF.out)
            have HNX : Hid ((getS p mk).1.next ≤ 900000) := by
              obtain ⟨_, _, _, _, _, _, _, _, _, h9⟩ := HSB8.out
              have := h9.b.n1
              have := HGL.out
              rw [Hid]
              omega
            have HO8 := mkHid (HO.out.step hn0 HNX.out)
            have HQE : Hid (ts = (ps ++ (getS p mk).2).map plOf) := by rw [Hid, HG2.out, List.append_nil, HTS.out]
            go_wp2_with fail
            go_roundg kk
            case rel => exact ⟨_, _, _, _, ts, by omega, rfl, HQE, HSF1, HRS1, HO8, HQ8, HF8, HSB8⟩
            case measure => omega
        · have hgs : getS p mk = (mk.lay ⟨3, 0, p.2, ⟨#[]⟩, p.1.hd.n, false⟩, []) := by unfold getS; rw [if_neg (by omega), if_pos h2]
          have HG1 : Hid ((getS p mk).1 = mk.lay ⟨3, 0, p.2, ⟨#[]⟩, p.1.hd.n, false⟩) := by rw [Hid, hgs]
          have HG2 : Hid ((getS p mk).2 = []) := by rw [Hid, hgs]
          have hn0 := HSB2.out.b.n0
          have d1k : (p.1.hd.k == 1) = false := by simp [h2]
          have d2k : (p.1.hd.k == 2) = true := by simp [h2]
          clear hgs h2
          go_wp2_with fail
          first | rw [hWA] | skip
          first | rw [hWB] | skip
          clear hWA hWB hsA
          refine (emit_sx 0 us2 _ ac2 cc2 av2 cv2 ar2 cr2 mk vs2 rs2 ⟨3, 0, p.2, ⟨#[]⟩, p.1.hd.n, false⟩ (fit_w _ _ _ _ (by omega) (by omega) (by omega) ⟨hf1, hf2⟩) (HU2.out _ HZB.out) HSB2.out hml).mono ?_
          rintro r z6 ⟨a5, c5, rfl, hs6, hb6⟩
          have HX6 := mkHid ((hb6.block w.heap.size (by have := HZB.out; omega)).trans HXB.out)
          have HA6 := mkHid ((hb6.block wr.heap.size HLB.out.1).trans HA0.out)
          have HS6 := mkHid hs6
          have HTL6 := mkHid (HTLB.out.keeps (veil_toR (us := us2) (Fr.of hb6) fun k hk => .inl hk))
          have HR36 := mkHid (HR3B.out.keeps (veil_toR (us := us2) (Fr.of hb6) fun k hk => .inl hk))
          have HF7 := mkHid (HFB.out.trans (Fr.of hb6))
          have HZ6 : Hid (w.heap.size + 2 ≤ z6.heap.size) := by have := HZB.out; have := hb6.size; rw [Hid]; omega
          have HL6 : Hid (wr.heap.size < z6.heap.size) := by have := HLB.out.1; have := hb6.size; rw [Hid]; omega
          clear k0 k1 k2 k3 t0 t1 u0 u1 u2 hta d0 d1 d2 c0 c1 c2 hs6 hb6 HXB HSB2 HTLB HR3B HFB HZB HA0
          obtain ⟨k0, k1, k2, k3⟩ := st_cells HX6.out
          obtain ⟨f0, f1, f2, f3⟩ := st_free HX6.out
          have HSB7 := mkHid (SB.mono (SB.stored HX6.out H02.out.1 HS6.out) (show (0 : Int) - 1 ≤ (0 : Int) by omega))
          have HSB8 : Hid (SB 0 us2 ((((z6.setCell ⟨w.heap.size, 0, none⟩ (.slice a5 (mk.lay ⟨3, 0, p.2, ⟨#[]⟩, p.1.hd.n, false⟩).code.length c5)).setCell ⟨w.heap.size, 1, none⟩ (.int .i64 (mk.lay ⟨3, 0, p.2, ⟨#[]⟩, p.1.hd.n, false⟩).next)).setCell ⟨w.heap.size, 2, none⟩ (.slice av2 vs2.length cv2)).setCell ⟨w.heap.size, 3, none⟩ (.slice ar2 rs2.length cr2)) w.heap.size (getS p mk).1) := by rw [Hid, HG1.out]; exact HSB7.out
          have HFF := mkHid ((Fr.refl [w.heap.size] z6).four (g := w.heap.size) (by simp) (.slice a5 (mk.lay ⟨3, 0, p.2, ⟨#[]⟩, p.1.hd.n, false⟩).code.length c5) (.int .i64 (mk.lay ⟨3, 0, p.2, ⟨#[]⟩, p.1.hd.n, false⟩).next) (.slice av2 vs2.length cv2) (.slice ar2 rs2.length cr2))
          have HQ8 := mkHid (HTL6.out.keeps (veil_toR (us := us2) (HSUB.out HFF.out) fun k hk => .inl hk))
          have HF8 := mkHid (HF7.out.trans HFF.out)
          have HNX : Hid ((getS p mk).1.next ≤ 900000) := by
            obtain ⟨_, _, _, _, _, _, _, _, _, h9⟩ := HSB8.out
            have := h9.b.n1
            have := HGL.out
            rw [Hid]
            omega
          have HO8 := mkHid (HO.out.step hn0 HNX.out)
          have HQE : Hid (ts = (ps ++ (getS p mk).2).map plOf) := by rw [Hid, HG2.out, List.append_nil, HTS.out]
          go_wp2_with fail
          go_roundg kk
          case rel => exact ⟨_, _, _, _, ts, by omega, rfl, HQE, HSF1, HRS1, HO8, HQ8, HF8, HSB8⟩
          case measure => omega
        · have hgs : getS p mk = unifyS p.1.args (mk.lay ⟨4, 0, p.2, p.1.hd.s, p.1.hd.n, false⟩) := by unfold getS; rw [if_neg (by omega), if_neg (by omega), if_pos h3]
          have hn0 := HSB2.out.b.n0
          have d1k : (p.1.hd.k == 1) = false := by simp [h3]
          have d2k : (p.1.hd.k == 2) = false := by simp [h3]
          have HK3 := mkHid h3
          have HGS := mkHid hgs
          clear hgs h3
          go_wp2_with fail
          first | rw [hWA] | skip
          first | rw [hWB] | skip
          clear hWA hWB hsA
          refine (emit_sx 0 us2 _ ac2 cc2 av2 cv2 ar2 cr2 mk vs2 rs2 ⟨4, 0, p.2, p.1.hd.s, p.1.hd.n, false⟩ (fit_s _ _ _ _ _ (by omega) (by omega) (by omega) hfs ⟨hf1, hf2⟩) (HU2.out _ HZB.out) HSB2.out hml).mono ?_
          rintro r z6 ⟨a5, c5, rfl, hs6, hb6⟩
          have HX6 := mkHid ((hb6.block w.heap.size (by have := HZB.out; omega)).trans HXB.out)
          have HA6 := mkHid ((hb6.block wr.heap.size HLB.out.1).trans HA0.out)
          have HS6 := mkHid hs6
          have HTL6 := mkHid (HTLB.out.keeps (veil_toR (us := us2) (Fr.of hb6) fun k hk => .inl hk))
          have HR36 := mkHid (HR3B.out.keeps (veil_toR (us := us2) (Fr.of hb6) fun k hk => .inl hk))
          have HF7 := mkHid (HFB.out.trans (Fr.of hb6))
          have HZ6 : Hid (w.heap.size + 2 ≤ z6.heap.size) := by have := HZB.out; have := hb6.size; rw [Hid]; omega
          have HL6 : Hid (wr.heap.size < z6.heap.size) := by have := HLB.out.1; have := hb6.size; rw [Hid]; omega
          clear k0 k1 k2 k3 t0 t1 u0 u1 u2 hta d0 d1 d2 c0 c1 c2 hs6 hb6 HXB HSB2 HTLB HR3B HFB HZB HA0
          obtain ⟨k0, k1, k2, k3⟩ := st_cells HX6.out
          obtain ⟨f0, f1, f2, f3⟩ := st_free HX6.out
          have HX7 := mkHid (st_all HX6.out (.slice a5 (mk.lay ⟨4, 0, p.2, p.1.hd.s, p.1.hd.n, false⟩).code.length c5) (.int .i64 (mk.lay ⟨4, 0, p.2, p.1.hd.s, p.1.hd.n, false⟩).next) (.slice av2 vs2.length cv2) (.slice ar2 rs2.length cr2))
          have HFF := mkHid ((Fr.refl [w.heap.size] z6).four (g := w.heap.size) (by simp) (.slice a5 (mk.lay ⟨4, 0, p.2, p.1.hd.s, p.1.hd.n, false⟩).code.length c5) (.int .i64 (mk.lay ⟨4, 0, p.2, p.1.hd.s, p.1.hd.n, false⟩).next) (.slice av2 vs2.length cv2) (.slice ar2 rs2.length cr2))
          have HS7 := mkHid ((HS6.out.on (HSUB.out HFF.out)).mono (show (0 : Int) - 1 ≤ 0 by omega))
          have HT7 := mkHid (HTL6.out.keeps (veil_toR (us := us2) (HSUB.out HFF.out) fun k hk => .inl hk))
          have HR37 := mkHid (HR36.out.keeps (veil_toR (us := us2) (HSUB.out HFF.out) fun k hk => .inl hk))
          have HF8 := mkHid (HF7.out.trans HFF.out)
          have HZ7 : Hid (w.heap.size + 2 ≤ (((((z6.setCell ⟨w.heap.size, 0, none⟩ (.slice a5 (mk.lay ⟨4, 0, p.2, p.1.hd.s, p.1.hd.n, false⟩).code.length c5)).setCell ⟨w.heap.size, 1, none⟩ (.int .i64 (mk.lay ⟨4, 0, p.2, p.1.hd.s, p.1.hd.n, false⟩).next)).setCell ⟨w.heap.size, 2, none⟩ (.slice av2 vs2.length cv2)).setCell ⟨w.heap.size, 3, none⟩ (.slice ar2 rs2.length cr2))).heap.size) := by have := HZ6.out; have := HFF.out.size; rw [Hid]; omega
          have hA7 := (HFF.out.block wr.heap.size HL6.out (by simp; exact HLB.out.2)).trans HA6.out
          have t7 : (((((z6.setCell ⟨w.heap.size, 0, none⟩ (.slice a5 (mk.lay ⟨4, 0, p.2, p.1.hd.s, p.1.hd.n, false⟩).code.length c5)).setCell ⟨w.heap.size, 1, none⟩ (.int .i64 (mk.lay ⟨4, 0, p.2, p.1.hd.s, p.1.hd.n, false⟩).next)).setCell ⟨w.heap.size, 2, none⟩ (.slice av2 vs2.length cv2)).setCell ⟨w.heap.size, 3, none⟩ (.slice ar2 rs2.length cr2))).cell? ⟨wr.heap.size, 0, none⟩ = some (.slice (some ⟨b3, o3, none⟩) (m3 + 1) c3) := by rw [cell_of_row _ _ 0 _ _ _ hA7]; rfl
          obtain ⟨p0, p1, p2, p3⟩ := st_cells HX7.out
          have hul : (unifyS p.1.args (mk.lay ⟨4, 0, p.2, p.1.hd.s, p.1.hd.n, false⟩)).1.code.length ≤ 10000 := by rw [← HGS.out]; exact HGL.out
          clear hA7
          go_wp2_with fail
          generalize ((((z6.setCell ⟨w.heap.size, 0, none⟩ (.slice a5 (mk.lay ⟨4, 0, p.2, p.1.hd.s, p.1.hd.n, false⟩).code.length c5)).setCell ⟨w.heap.size, 1, none⟩ (.int .i64 (mk.lay ⟨4, 0, p.2, p.1.hd.s, p.1.hd.n, false⟩).next)).setCell ⟨w.heap.size, 2, none⟩ (.slice av2 vs2.length cv2)).setCell ⟨w.heap.size, 3, none⟩ (.slice ar2 rs2.length cr2)) = z7 at *
          have HT1 := mkHid (unis_any us2 z7 a5 c5 av2 cv2 ar2 cr2 (mk.lay ⟨4, 0, p.2, p.1.hd.s, p.1.hd.n, false⟩) vs2 rs2 HS7.out.st HS7.out.b _ _ ts (some ⟨b3, o3, none⟩) c3 p.1 (HU2.out z7 HZ7.out) HT7.out HR37.out HOK.out HK3.out ho2 hul (by omega))
          rw [HM3.out] at HT1
          refine HT1.out.mono ?_
          clear HT1
          rintro r z8 ⟨a8, c8, av8, cv8, ar8, cr8, vs8, rs8, aN, cN, rfl, hs8, hrN, hb8⟩
          have HX8 := mkHid ((hb8.block w.heap.size (by have := HZ7.out; omega)).trans HX7.out)
          have HS8 := mkHid hs8
          have HRN := mkHid hrN
          have HF9 := mkHid (HF8.out.trans (Fr.of hb8))
          clear k0 k1 k2 k3 f0 f1 f2 f3 p0 p1 p2 p3 t7 HX6 HS6 HTL6 HR36 HF7 HZ6 HL6 HA6 HX7 HS7 HT7 HR37 HF8 HZ7 HFF hs8 hrN hb8
          obtain ⟨k0, k1, k2, k3⟩ := st_cells HX8.out
          obtain ⟨f0, f1, f2, f3⟩ := st_free HX8.out
          have HSB7 := mkHid (SB.stored HX8.out H02.out.1 HS8.out)
          have HSB8 : Hid (SB 0 us2 ((((z8.setCell ⟨w.heap.size, 0, none⟩ (.slice a8 (unifyS p.1.args (mk.lay ⟨4, 0, p.2, p.1.hd.s, p.1.hd.n, false⟩)).1.code.length c8)).setCell ⟨w.heap.size, 1, none⟩ (.int .i64 (unifyS p.1.args (mk.lay ⟨4, 0, p.2, p.1.hd.s, p.1.hd.n, false⟩)).1.next)).setCell ⟨w.heap.size, 2, none⟩ (.slice av8 vs8.length cv8)).setCell ⟨w.heap.size, 3, none⟩ (.slice ar8 rs8.length cr8)) w.heap.size (getS p mk).1) := by rw [Hid, HGS.out]; exact HSB7.out
          have HFG := mkHid ((Fr.refl [w.heap.size] z8).four (g := w.heap.size) (by simp) (.slice a8 (unifyS p.1.args (mk.lay ⟨4, 0, p.2, p.1.hd.s, p.1.hd.n, false⟩)).1.code.length c8) (.int .i64 (unifyS p.1.args (mk.lay ⟨4, 0, p.2, p.1.hd.s, p.1.hd.n, false⟩)).1.next) (.slice av8 vs8.length cv8) (.slice ar8 rs8.length cr8))
          have HQ8 := mkHid (HRN.out.keeps (veil_toR (us := us2) (HSUB.out HFG.out) fun k hk => .inl hk))
          have HF10 := mkHid (HF9.out.trans HFG.out)
          have HNX : Hid ((getS p mk).1.next ≤ 900000) := by
            obtain ⟨_, _, _, _, _, _, _, _, _, h9⟩ := HSB8.out
            have := h9.b.n1
            have := HGL.out
            rw [Hid]
            omega
          have HO8 := mkHid (HO.out.step hn0 HNX.out)
          obtain ⟨ns, hns⟩ : ∃ ns, ts ++ (unifyS p.1.args (mk.lay ⟨4, 0, p.2, p.1.hd.s, p.1.hd.n, false⟩)).2.map plOf = ns := ⟨_, rfl⟩
          have HQE : Hid (ns = (ps ++ (getS p mk).2).map plOf) := by rw [Hid, ← hns, HGS.out, List.map_append, HTS.out]
          rw [hns] at HQ8 ⊢
          clear hns HRN
          go_wp2_with fail
          go_roundg kk
          case rel => exact ⟨_, _, _, _, ns, by omega, rfl, HQE, HSF1, HRS1, HO8, HQ8, HF10, HSB8⟩
          case measure => omega
      · have HTL := mkHid (pl_tail HRQ.out)
        obtain ⟨WA, hWA⟩ : ∃ X, wr.alloc (.cells #[.slice (some ⟨b3, o3, none⟩) (m3 + 1) c3, .int .i64 p.2] 102) = X := ⟨_, rfl⟩
        obtain ⟨WB, hWB⟩ : ∃ X, WA.alloc (.cells #[.int .i64 p.1.hd.k, .string p.1.hd.s, .int .i64 p.1.hd.n] 79) = X := ⟨_, rfl⟩
        have hba : Below wr.heap.size wr WA := by rw [← hWA]; exact (Below.refl _ _).new _
        have hsA : WA.heap.size = wr.heap.size + 1 := by rw [← hWA]; simp
        have hbb : Below WA.heap.size WA WB := by rw [← hWB]; exact (Below.refl _ _).new _
        have hbw := hba.then hbb
        have d0 := keep c0 hba
        have d1 := keep c1 hba
        have d2 := keep c2 hba
        have hA0 : WA.heap[wr.heap.size]? = some (.cells #[.slice (some ⟨b3, o3, none⟩) (m3 + 1) c3, .int .i64 p.2] 102 (0, 0)) := by rw [← hWA]; exact heap_alloc_new _ _
        have HA0 := mkHid ((hbb.block wr.heap.size (by omega)).trans hA0)
        have hA1 : WB.heap[wr.heap.size + 1]? = some (.cells #[.int .i64 p.1.hd.k, .string p.1.hd.s, .int .i64 p.1.hd.n] 79 (0, 0)) := by rw [← hWB, ← hsA]; exact heap_alloc_new _ _
        have t0 : WB.cell? ⟨wr.heap.size, 0, none⟩ = some (.slice (some ⟨b3, o3, none⟩) (m3 + 1) c3) := by rw [cell_of_row WB _ 0 _ _ _ HA0.out]; rfl
        have t1 : WB.cell? ⟨wr.heap.size, 1, none⟩ = some (.int .i64 p.2) := by rw [cell_of_row WB _ 1 _ _ _ HA0.out]; rfl
        have u0 : WB.cell? ⟨wr.heap.size + 1, 0, none⟩ = some (.int .i64 p.1.hd.k) := by rw [cell_of_row WB _ 0 _ _ _ hA1]; rfl
        have u1 : WB.cell? ⟨wr.heap.size + 1, 1, none⟩ = some (.string p.1.hd.s) := by rw [cell_of_row WB _ 1 _ _ _ hA1]; rfl
        have u2 : WB.cell? ⟨wr.heap.size + 1, 2, none⟩ = some (.int .i64 p.1.hd.n) := by rw [cell_of_row WB _ 2 _ _ _ hA1]; rfl
        have hta : WA.cell? ⟨wr.heap.size, 0, none⟩ = some (.slice (some ⟨b3, o3, none⟩) (m3 + 1) c3) := by rw [cell_of_row WA _ 0 _ _ _ hA0]; rfl
        have HXB := mkHid ((hbw.block w.heap.size (by have := HZR.out; omega)).trans HX.out)
        have HSB2 := mkHid (HSX.out.on (Fr.of hbw))
        have HTLB := mkHid (HTL.out.keeps (veil_toR (us := us2) (Fr.of hbw) fun k hk => .inl hk))
        have HR3B := mkHid (HR3.out.keeps (veil_toR (us := us2) (Fr.of hbw) fun k hk => .inl hk))
        have HFB := mkHid (HF.out.trans (Fr.of hbw))
        have HZB : Hid (w.heap.size + 2 ≤ WB.heap.size) := by have := HZR.out; have := hbw.size; rw [Hid]; omega
        have HLB : Hid (wr.heap.size < WB.heap.size ∧ wr.heap.size ≠ w.heap.size) := by have := HZR.out; have := hbb.size; rw [Hid]; omega
        obtain ⟨k0, k1, k2, k3⟩ := st_cells HXB.out
        clear hba hbb hbw hA0 hA1 HX HSX HTL HR3 HF HZR HRQ
        rcases huk with h1 | h2 | h3
        · have hgs : getS p mk = (mk.var p.1.hd.n 1 2 p.2, []) := by unfold getS; rw [if_pos h1]
          obtain ⟨M, R, F, hM⟩ : ∃ M R F, regM mk p.1.hd.n = (M, R, F) := ⟨_, _, _, rfl⟩
          have hvr := var_reg mk p.1.hd.n 1 2 p.2
          rw [hM] at hvr
          have HG1 : Hid ((getS p mk).1 = M.lay ⟨if F then 1 else 2, R, p.2, ⟨#[]⟩, 0, false⟩) := by rw [Hid, hgs]; exact hvr
          have HG2 : Hid ((getS p mk).2 = []) := by rw [Hid, hgs]
          have hMc : M.code.length = mk.code.length := by have := regM_code mk p.1.hd.n; rw [hM] at this; rw [this]
          have HM := mkHid hM
          have hMl : M.code.length ≤ 10000 := by omega
          have hn0 := HSB2.out.b.n0
          have d1k : (p.1.hd.k == 1) = true := by simp [h1]
          clear hgs hvr hM h1 hMc
          go_wp2_with fail
          first | rw [hWA] | skip
          first | rw [hWB] | skip
          clear hWA hWB hsA
          refine (register_sy us2 _ ac2 cc2 av2 cv2 ar2 cr2 mk vs2 rs2 p.1.hd.n M R F HM.out hf1 hf2 (HU2.out _ HZB.out) HSB2.out hml).mono ?_
          rintro r y1 ⟨av4, cv4, ar4, cr4, vs4, rs4, rfl, hRb, hs4, hb4⟩
          obtain ⟨YA, hYA⟩ : ∃ X, y1.alloc (.cells #[.slice ac2 M.code.length cc2, .int .i64 M.next, .slice av4 vs4.length cv4, .slice ar4 rs4.length cr4] 104) = X := ⟨_, rfl⟩
          have hby : Below y1.heap.size y1 YA := by rw [← hYA]; exact (Below.refl _ _).new _
          have hbz := hb4.then hby
          have hY7 : YA.heap[y1.heap.size]? = some (.cells #[.slice ac2 M.code.length cc2, .int .i64 M.next, .slice av4 vs4.length cv4, .slice ar4 rs4.length cr4] 104 (0, 0)) := by rw [← hYA]; exact heap_alloc_new _ _
          have HXY := mkHid ((hbz.block w.heap.size (by have := HZB.out; omega)).trans HXB.out)
          have HAY := mkHid ((hbz.block wr.heap.size HLB.out.1).trans HA0.out)
          have HSY := mkHid (hs4.on (Fr.of hby))
          have HTY := mkHid (HTLB.out.keeps (veil_toR (us := us2) (Fr.of hbz) fun k hk => .inl hk))
          have HFY := mkHid (HFB.out.trans (Fr.of hbz))
          have HZY : Hid (w.heap.size + 2 ≤ YA.heap.size) := by have := HZB.out; have := hbz.size; rw [Hid]; omega
          obtain ⟨l0, l1, l2, l3⟩ := st_cells hY7
          clear k0 k1 k2 k3
          obtain ⟨k0, k1, k2, k3⟩ := st_cells HXY.out
          obtain ⟨f0, f1, f2, f3⟩ := st_free HXY.out
          have HX5 := mkHid (st_all HXY.out (.slice ac2 M.code.length cc2) (.int .i64 M.next) (.slice av4 vs4.length cv4) (.slice ar4 rs4.length cr4))
          have HF5 := mkHid ((Fr.refl [w.heap.size] YA).four (g := w.heap.size) (by simp) (.slice ac2 M.code.length cc2) (.int .i64 M.next) (.slice av4 vs4.length cv4) (.slice ar4 rs4.length cr4))
          have HS5 := mkHid (HSY.out.on (HSUB.out HF5.out))
          have HZ5 : Hid (w.heap.size + 2 ≤ (((((YA.setCell ⟨w.heap.size, 0, none⟩ (.slice ac2 M.code.length cc2)).setCell ⟨w.heap.size, 1, none⟩ (.int .i64 M.next)).setCell ⟨w.heap.size, 2, none⟩ (.slice av4 vs4.length cv4)).setCell ⟨w.heap.size, 3, none⟩ (.slice ar4 rs4.length cr4))).heap.size) := by have := HF5.out.size; have := HZY.out; rw [Hid]; omega
          have HT5 := mkHid (HTY.out.keeps (veil_toR (us := us2) (HSUB.out HF5.out) fun k hk => .inl hk))
          have HF6 := mkHid (HFY.out.trans HF5.out)
          have hA5 := (HF5.out.block wr.heap.size (by have := hbz.size; have := HLB.out.1; omega) (by simp; exact HLB.out.2)).trans HAY.out
          have t5 : (((((YA.setCell ⟨w.heap.size, 0, none⟩ (.slice ac2 M.code.length cc2)).setCell ⟨w.heap.size, 1, none⟩ (.int .i64 M.next)).setCell ⟨w.heap.size, 2, none⟩ (.slice av4 vs4.length cv4)).setCell ⟨w.heap.size, 3, none⟩ (.slice ar4 rs4.length cr4))).cell? ⟨wr.heap.size, 1, none⟩ = some (.int .i64 p.2) := by rw [cell_of_row _ _ 1 _ _ _ hA5]; rfl
          obtain ⟨p0, p1, p2, p3⟩ := st_cells HX5.out
          clear hs4 hb4 hby hbz hY7 hA5 t0 t1 u0 u1 u2 hta d0 d1 d2 c0 c1 c2
          cases F
          · go_wp2_with fail
            first | rw [hYA] | skip
            clear hYA
            refine (emit_sx 1 us2 _ ac2 cc2 av4 cv4 ar4 cr4 M vs4 rs4 ⟨2, R, p.2, ⟨#[]⟩, 0, false⟩ (fit_w _ _ _ _ (by omega) hRb (by omega) (by omega)) (HU2.out _ HZ5.out) HS5.out hMl).mono ?_
            rintro r z6 ⟨a5, c5, rfl, hs6, hb6⟩
            have HX6 := mkHid ((hb6.block w.heap.size (by have := HZ5.out; omega)).trans HX5.out)
            have HS6 := mkHid hs6
            have HTL6 := mkHid (HT5.out.keeps (veil_toR (us := us2) (Fr.of hb6) fun k hk => .inl hk))
            have HF7 := mkHid (HF6.out.trans (Fr.of hb6))
            clear l0 l1 l2 l3 k0 k1 k2 k3 f0 f1 f2 f3 p0 p1 p2 p3 t5 HX5 HS5 HT5 HF6 HXY HAY HSY HTY HFY HF5 HZ5 HZY hs6 hb6
            obtain ⟨k0, k1, k2, k3⟩ := st_cells HX6.out
            obtain ⟨f0, f1, f2, f3⟩ := st_free HX6.out
            have HSB7 := mkHid (SB.mono (SB.stored HX6.out H02.out.1 HS6.out) (show (1 : Int) - 1 ≤ (0 : Int) by omega))
            have HSB8 : Hid (SB 0 us2 ((((z6.setCell ⟨w.heap.size, 0, none⟩ (.slice a5 (M.lay ⟨2, R, p.2, ⟨#[]⟩, 0, false⟩).code.length c5)).setCell ⟨w.heap.size, 1, none⟩ (.int .i64 (M.lay ⟨2, R, p.2, ⟨#[]⟩, 0, false⟩).next)).setCell ⟨w.heap.size, 2, none⟩ (.slice av4 vs4.length cv4)).setCell ⟨w.heap.size, 3, none⟩ (.slice ar4 rs4.length cr4)) w.heap.size (getS p mk).1) := by rw [Hid, HG1.out]; exact HSB7.out
            have HFF := mkHid ((Fr.refl [w.heap.size] z6).four (g := w.heap.size) (by simp) (.slice a5 (M.lay ⟨2, R, p.2, ⟨#[]⟩, 0, false⟩).code.length c5) (.int .i64 (M.lay ⟨2, R, p.2, ⟨#[]⟩, 0, false⟩).next) (.slice av4 vs4.length cv4) (.slice ar4 rs4.length cr4))
            have HQ8 := mkHid (HTL6.out.keeps (veil_toR (us := us2) (HSUB.out HFF.out) fun k hk => .inl hk))
            have HF8 := mkHid (HF7.out.trans HFF.out)
            have HNX : Hid ((getS p mk).1.next ≤ 900000) := by
              obtain ⟨_, _, _, _, _, _, _, _, _, h9⟩ := HSB8.out
              have := h9.b.n1
              have := HGL.out
              rw [Hid]
              omega
            have HO8 := mkHid (HO.out.step hn0 HNX.out)
            have HQE : Hid (ts = (ps ++ (getS p mk).2).map plOf) := by rw [Hid, HG2.out, List.append_nil, HTS.out]
            go_wp2_with fail
            go_roundg kk
            case rel => exact ⟨_, _, _, _, ts, by omega, rfl, HQE, HSF1, HRS1, HO8, HQ8, HF8, HSB8⟩
            case measure => omega
          · go_wp2_with fail
            first | rw [hYA] | skip
            clear hYA
            refine (emit_sx 1 us2 _ ac2 cc2 av4 cv4 ar4 cr4 M vs4 rs4 ⟨1, R, p.2, ⟨#[]⟩, 0, false⟩ (fit_w _ _ _ _ (by omega) hRb (by omega) (by omega)) (HU2.out _ HZ5.out) HS5.out hMl).mono ?_
            rintro r z6 ⟨a5, c5, rfl, hs6, hb6⟩
            have HX6 := mkHid ((hb6.block w.heap.size (by have := HZ5.out; omega)).trans HX5.out)
            have HS6 := mkHid hs6
            have HTL6 := mkHid (HT5.out.keeps (veil_toR (us := us2) (Fr.of hb6) fun k hk => .inl hk))
            have HF7 := mkHid (HF6.out.trans (Fr.of hb6))
            clear l0 l1 l2 l3 k0 k1 k2 k3 f0 f1 f2 f3 p0 p1 p2 p3 t5 HX5 HS5 HT5 HF6 HXY HAY HSY HTY HFY HF5 HZ5 HZY hs6 hb6
            obtain ⟨k0, k1, k2, k3⟩ := st_cells HX6.out
            obtain ⟨f0, f1, f2, f3⟩ := st_free HX6.out
            have HSB7 := mkHid (SB.mono (SB.stored HX6.out H02.out.1 HS6.out) (show (1 : Int) - 1 ≤ (0 : Int) by omega))
            have HSB8 : Hid (SB 0 us2 ((((z6.setCell ⟨w.heap.size, 0, none⟩ (.slice a5 (M.lay ⟨1, R, p.2, ⟨#[]⟩, 0, false⟩).code.length c5)).setCell ⟨w.heap.size, 1, none⟩ (.int .i64 (M.lay ⟨1, R, p.2, ⟨#[]⟩, 0, false⟩).next)).setCell ⟨w.heap.size, 2, none⟩ (.slice av4 vs4.length cv4)).setCell ⟨w.heap.size, 3, none⟩ (.slice ar4 rs4.length cr4)) w.heap.size (getS p mk).1) := by rw [Hid, HG1.out]; exact HSB7.out
            have HFF := mkHid ((Fr.refl [w.heap.size] z6).four (g := w.heap.size) (by simp) (.slice a5 (M.lay ⟨1, R, p.2, ⟨#[]⟩, 0, false⟩).code.length c5) (.int .i64 (M.lay ⟨1, R, p.2, ⟨#[]⟩, 0, false⟩).next) (.slice av4 vs4.length cv4) (.slice ar4 rs4.length cr4))
            have HQ8 := mkHid (HTL6.out.keeps (veil_toR (us := us2) (HSUB.out HFF.out) fun k hk => .inl hk))
            have HF8 := mkHid (HF7.out.trans HFF.out)
            have HNX : Hid ((getS p mk).1.next ≤ 900000) := by
              obtain ⟨_, _, _, _, _, _, _, _, _, h9⟩ := HSB8.out
              have := h9.b.n1
              have := HGL.out
              rw [Hid]
              omega
            have HO8 := mkHid (HO.out.step hn0 HNX.out)
            have HQE : Hid (ts = (ps ++ (getS p mk).2).map plOf) := by rw [Hid, HG2.out, List.append_nil, HTS.out]
            go_wp2_with fail
            go_roundg kk
            case rel => exact ⟨_, _, _, _, ts, by omega, rfl, HQE, HSF1, HRS1, HO8, HQ8, HF8, HSB8⟩
            case measure => omega
        · have hgs : getS p mk = (mk.lay ⟨3, 0, p.2, ⟨#[]⟩, p.1.hd.n, false⟩, []) := by unfold getS; rw [if_neg (by omega), if_pos h2]
          have HG1 : Hid ((getS p mk).1 = mk.lay ⟨3, 0, p.2, ⟨#[]⟩, p.1.hd.n, false⟩) := by rw [Hid, hgs]
          have HG2 : Hid ((getS p mk).2 = []) := by rw [Hid, hgs]
          have hn0 := HSB2.out.b.n0
          have d1k : (p.1.hd.k == 1) = false := by simp [h2]
          have d2k : (p.1.hd.k == 2) = true := by simp [h2]
          clear hgs h2
          go_wp2_with fail
          first | rw [hWA] | skip
          first | rw [hWB] | skip
          clear hWA hWB hsA
          refine (emit_sx 0 us2 _ ac2 cc2 av2 cv2 ar2 cr2 mk vs2 rs2 ⟨3, 0, p.2, ⟨#[]⟩, p.1.hd.n, false⟩ (fit_w _ _ _ _ (by omega) (by omega) (by omega) ⟨hf1, hf2⟩) (HU2.out _ HZB.out) HSB2.out hml).mono ?_
          rintro r z6 ⟨a5, c5, rfl, hs6, hb6⟩
          have HX6 := mkHid ((hb6.block w.heap.size (by have := HZB.out; omega)).trans HXB.out)
          have HA6 := mkHid ((hb6.block wr.heap.size HLB.out.1).trans HA0.out)
          have HS6 := mkHid hs6
          have HTL6 := mkHid (HTLB.out.keeps (veil_toR (us := us2) (Fr.of hb6) fun k hk => .inl hk))
          have HR36 := mkHid (HR3B.out.keeps (veil_toR (us := us2) (Fr.of hb6) fun k hk => .inl hk))
          have HF7 := mkHid (HFB.out.trans (Fr.of hb6))
          have HZ6 : Hid (w.heap.size + 2 ≤ z6.heap.size) := by have := HZB.out; have := hb6.size; rw [Hid]; omega
          have HL6 : Hid (wr.heap.size < z6.heap.size) := by have := HLB.out.1; have := hb6.size; rw [Hid]; omega
          clear k0 k1 k2 k3 t0 t1 u0 u1 u2 hta d0 d1 d2 c0 c1 c2 hs6 hb6 HXB HSB2 HTLB HR3B HFB HZB HA0
          obtain ⟨k0, k1, k2, k3⟩ := st_cells HX6.out
          obtain ⟨f0, f1, f2, f3⟩ := st_free HX6.out
          have HSB7 := mkHid (SB.mono (SB.stored HX6.out H02.out.1 HS6.out) (show (0 : Int) - 1 ≤ (0 : Int) by omega))
          have HSB8 : Hid (SB 0 us2 ((((z6.setCell ⟨w.heap.size, 0, none⟩ (.slice a5 (mk.lay ⟨3, 0, p.2, ⟨#[]⟩, p.1.hd.n, false⟩).code.length c5)).setCell ⟨w.heap.size, 1, none⟩ (.int .i64 (mk.lay ⟨3, 0, p.2, ⟨#[]⟩, p.1.hd.n, false⟩).next)).setCell ⟨w.heap.size, 2, none⟩ (.slice av2 vs2.length cv2)).setCell ⟨w.heap.size, 3, none⟩ (.slice ar2 rs2.length cr2)) w.heap.size (getS p mk).1) := by rw [Hid, HG1.out]; exact HSB7.out
          have HFF := mkHid ((Fr.refl [w.heap.size] z6).four (g := w.heap.size) (by simp) (.slice a5 (mk.lay ⟨3, 0, p.2, ⟨#[]⟩, p.1.hd.n, false⟩).code.length c5) (.int .i64 (mk.lay ⟨3, 0, p.2, ⟨#[]⟩, p.1.hd.n, false⟩).next) (.slice av2 vs2.length cv2) (.slice ar2 rs2.length cr2))
          have HQ8 := mkHid (HTL6.out.keeps (veil_toR (us := us2) (HSUB.out HFF.out) fun k hk => .inl hk))
          have HF8 := mkHid (HF7.out.trans HFF.out)
          have HNX : Hid ((getS p mk).1.next ≤ 900000) := by
            obtain ⟨_, _, _, _, _, _, _, _, _, h9⟩ := HSB8.out
            have := h9.b.n1
            have := HGL.out
            rw [Hid]
            omega
          have HO8 := mkHid (HO.out.step hn0 HNX.out)
          have HQE : Hid (ts = (ps ++ (getS p mk).2).map plOf) := by rw [Hid, HG2.out, List.append_nil, HTS.out]
          go_wp2_with fail
          go_roundg kk
          case rel => exact ⟨_, _, _, _, ts, by omega, rfl, HQE, HSF1, HRS1, HO8, HQ8, HF8, HSB8⟩
          case measure => omega
        · have hgs : getS p mk = unifyS p.1.args (mk.lay ⟨4, 0, p.2, p.1.hd.s, p.1.hd.n, false⟩) := by unfold getS; rw [if_neg (by omega), if_neg (by omega), if_pos h3]
          have hn0 := HSB2.out.b.n0
          have d1k : (p.1.hd.k == 1) = false := by simp [h3]
          have d2k : (p.1.hd.k == 2) = false := by simp [h3]
          have HK3 := mkHid h3
          have HGS := mkHid hgs
          clear hgs h3
          go_wp2_with fail
          first | rw [hWA] | skip
          first | rw [hWB] | skip
          clear hWA hWB hsA
          refine (emit_sx 0 us2 _ ac2 cc2 av2 cv2 ar2 cr2 mk vs2 rs2 ⟨4, 0, p.2, p.1.hd.s, p.1.hd.n, false⟩ (fit_s _ _ _ _ _ (by omega) (by omega) (by omega) hfs ⟨hf1, hf2⟩) (HU2.out _ HZB.out) HSB2.out hml).mono ?_
          rintro r z6 ⟨a5, c5, rfl, hs6, hb6⟩
          have HX6 := mkHid ((hb6.block w.heap.size (by have := HZB.out; omega)).trans HXB.out)
          have HA6 := mkHid ((hb6.block wr.heap.size HLB.out.1).trans HA0.out)
          have HS6 := mkHid hs6
          have HTL6 := mkHid (HTLB.out.keeps (veil_toR (us := us2) (Fr.of hb6) fun k hk => .inl hk))
          have HR36 := mkHid (HR3B.out.keeps (veil_toR (us := us2) (Fr.of hb6) fun k hk => .inl hk))
          have HF7 := mkHid (HFB.out.trans (Fr.of hb6))
          have HZ6 : Hid (w.heap.size + 2 ≤ z6.heap.size) := by have := HZB.out; have := hb6.size; rw [Hid]; omega
          have HL6 : Hid (wr.heap.size < z6.heap.size) := by have := HLB.out.1; have := hb6.size; rw [Hid]; omega
          clear k0 k1 k2 k3 t0 t1 u0 u1 u2 hta d0 d1 d2 c0 c1 c2 hs6 hb6 HXB HSB2 HTLB HR3B HFB HZB HA0
          obtain ⟨k0, k1, k2, k3⟩ := st_cells HX6.out
          obtain ⟨f0, f1, f2, f3⟩ := st_free HX6.out
          have HX7 := mkHid (st_all HX6.out (.slice a5 (mk.lay ⟨4, 0, p.2, p.1.hd.s, p.1.hd.n, false⟩).code.length c5) (.int .i64 (mk.lay ⟨4, 0, p.2, p.1.hd.s, p.1.hd.n, false⟩).next) (.slice av2 vs2.length cv2) (.slice ar2 rs2.length cr2))
          have HFF := mkHid ((Fr.refl [w.heap.size] z6).four (g := w.heap.size) (by simp) (.slice a5 (mk.lay ⟨4, 0, p.2, p.1.hd.s, p.1.hd.n, false⟩).code.length c5) (.int .i64 (mk.lay ⟨4, 0, p.2, p.1.hd.s, p.1.hd.n, false⟩).next) (.slice av2 vs2.length cv2) (.slice ar2 rs2.length cr2))
          have HS7 := mkHid ((HS6.out.on (HSUB.out HFF.out)).mono (show (0 : Int) - 1 ≤ 0 by omega))
          have HT7 := mkHid (HTL6.out.keeps (veil_toR (us := us2) (HSUB.out HFF.out) fun k hk => .inl hk))
          have HR37 := mkHid (HR36.out.keeps (veil_toR (us := us2) (HSUB.out HFF.out) fun k hk => .inl hk))
          have HF8 := mkHid (HF7.out.trans HFF.out)
          have HZ7 : Hid (w.heap.size + 2 ≤ (((((z6.setCell ⟨w.heap.size, 0, none⟩ (.slice a5 (mk.lay ⟨4, 0, p.2, p.1.hd.s, p.1.hd.n, false⟩).code.length c5)).setCell ⟨w.heap.size, 1, none⟩ (.int .i64 (mk.lay ⟨4, 0, p.2, p.1.hd.s, p.1.hd.n, false⟩).next)).setCell ⟨w.heap.size, 2, none⟩ (.slice av2 vs2.length cv2)).setCell ⟨w.heap.size, 3, none⟩ (.slice ar2 rs2.length cr2))).heap.size) := by have := HZ6.out; have := HFF.out.size; rw [Hid]; omega
          have hA7 := (HFF.out.block wr.heap.size HL6.out (by simp; exact HLB.out.2)).trans HA6.out
          have t7 : (((((z6.setCell ⟨w.heap.size, 0, none⟩ (.slice a5 (mk.lay ⟨4, 0, p.2, p.1.hd.s, p.1.hd.n, false⟩).code.length c5)).setCell ⟨w.heap.size, 1, none⟩ (.int .i64 (mk.lay ⟨4, 0, p.2, p.1.hd.s, p.1.hd.n, false⟩).next)).setCell ⟨w.heap.size, 2, none⟩ (.slice av2 vs2.length cv2)).setCell ⟨w.heap.size, 3, none⟩ (.slice ar2 rs2.length cr2))).cell? ⟨wr.heap.size, 0, none⟩ = some (.slice (some ⟨b3, o3, none⟩) (m3 + 1) c3) := by rw [cell_of_row _ _ 0 _ _ _ hA7]; rfl
          obtain ⟨p0, p1, p2, p3⟩ := st_cells HX7.out
          have hul : (unifyS p.1.args (mk.lay ⟨4, 0, p.2, p.1.hd.s, p.1.hd.n, false⟩)).1.code.length ≤ 10000 := by rw [← HGS.out]; exact HGL.out
          clear hA7
          go_wp2_with fail
          generalize ((((z6.setCell ⟨w.heap.size, 0, none⟩ (.slice a5 (mk.lay ⟨4, 0, p.2, p.1.hd.s, p.1.hd.n, false⟩).code.length c5)).setCell ⟨w.heap.size, 1, none⟩ (.int .i64 (mk.lay ⟨4, 0, p.2, p.1.hd.s, p.1.hd.n, false⟩).next)).setCell ⟨w.heap.size, 2, none⟩ (.slice av2 vs2.length cv2)).setCell ⟨w.heap.size, 3, none⟩ (.slice ar2 rs2.length cr2)) = z7 at *
          have HT1 := mkHid (unis_any us2 z7 a5 c5 av2 cv2 ar2 cr2 (mk.lay ⟨4, 0, p.2, p.1.hd.s, p.1.hd.n, false⟩) vs2 rs2 HS7.out.st HS7.out.b _ _ ts (some ⟨b3, o3, none⟩) c3 p.1 (HU2.out z7 HZ7.out) HT7.out HR37.out HOK.out HK3.out ho2 hul (by omega))
          rw [HM3.out] at HT1
          refine HT1.out.mono ?_
          clear HT1
          rintro r z8 ⟨a8, c8, av8, cv8, ar8, cr8, vs8, rs8, aN, cN, rfl, hs8, hrN, hb8⟩
          have HX8 := mkHid ((hb8.block w.heap.size (by have := HZ7.out; omega)).trans HX7.out)
          have HS8 := mkHid hs8
          have HRN := mkHid hrN
          have HF9 := mkHid (HF8.out.trans (Fr.of hb8))
          clear k0 k1 k2 k3 f0 f1 f2 f3 p0 p1 p2 p3 t7 HX6 HS6 HTL6 HR36 HF7 HZ6 HL6 HA6 HX7 HS7 HT7 HR37 HF8 HZ7 HFF hs8 hrN hb8
          obtain ⟨k0, k1, k2, k3⟩ := st_cells HX8.out
          obtain ⟨f0, f1, f2, f3⟩ := st_free HX8.out
          have HSB7 := mkHid (SB.stored HX8.out H02.out.1 HS8.out)
          have HSB8 : Hid (SB 0 us2 ((((z8.setCell ⟨w.heap.size, 0, none⟩ (.slice a8 (unifyS p.1.args (mk.lay ⟨4, 0, p.2, p.1.hd.s, p.1.hd.n, false⟩)).1.code.length c8)).setCell ⟨w.heap.size, 1, none⟩ (.int .i64 (unifyS p.1.args (mk.lay ⟨4, 0, p.2, p.1.hd.s, p.1.hd.n, false⟩)).1.next)).setCell ⟨w.heap.size, 2, none⟩ (.slice av8 vs8.length cv8)).setCell ⟨w.heap.size, 3, none⟩ (.slice ar8 rs8.length cr8)) w.heap.size (getS p mk).1) := by rw [Hid, HGS.out]; exact HSB7.out
          have HFG := mkHid ((Fr.refl [w.heap.size] z8).four (g := w.heap.size) (by simp) (.slice a8 (unifyS p.1.args (mk.lay ⟨4, 0, p.2, p.1.hd.s, p.1.hd.n, false⟩)).1.code.length c8) (.int .i64 (unifyS p.1.args (mk.lay ⟨4, 0, p.2, p.1.hd.s, p.1.hd.n, false⟩)).1.next) (.slice av8 vs8.length cv8) (.slice ar8 rs8.length cr8))
          have HQ8 := mkHid (HRN.out.keeps (veil_toR (us := us2) (HSUB.out HFG.out) fun k hk => .inl hk))
          have HF10 := mkHid (HF9.out.trans HFG.out)
          have HNX : Hid ((getS p mk).1.next ≤ 900000) := by
            obtain ⟨_, _, _, _, _, _, _, _, _, h9⟩ := HSB8.out
            have := h9.b.n1
            have := HGL.out
            rw [Hid]
            omega
          have HO8 := mkHid (HO.out.step hn0 HNX.out)
          obtain ⟨ns, hns⟩ : ∃ ns, ts ++ (unifyS p.1.args (mk.lay ⟨4, 0, p.2, p.1.hd.s, p.1.hd.n, false⟩)).2.map plOf = ns := ⟨_, rfl⟩
          have HQE : Hid (ns = (ps ++ (getS p mk).2).map plOf) := by rw [Hid, ← hns, HGS.out, List.map_append, HTS.out]
          rw [hns] at HQ8 ⊢
          clear hns HRN
          go_wp2_with fail
          go_roundg kk
          case rel => exact ⟨_, _, _, _, ns, by omega, rfl, HQE, HSF1, HRS1, HO8, HQ8, HF10, HSB8⟩
          case measure => omega
end Go.Proofs.Ytmmnfkggfnokjaa
