import Derived.Test.YtmmnfkggfnokjaaZt10
set_option linter.unusedVariables false
namespace Go.Proofs.Ytmmnfkggfnokjaa
open Go.RowKit
/-! ### build -/
theorem SB.to {j : Int} {us us' : List Nat} {W W' : World} {B : Nat} {m : MkS} (h : SB j us W B m) (hf : Fr us W W') (hB : W'.heap[B]? = W.heap[B]?) (hk : ∀ k ∈ us', k ∈ us ∨ W.heap.size ≤ k) : SB j us' W' B m :=
  let ⟨ac, cc, av, cv, ar, cr, vs, rs, h1, h2⟩ := h
  ⟨ac, cc, av, cv, ar, cr, vs, rs, hB.trans h1, h2.to hf hk⟩
/-- build, at terms of up to N cells -/
def BuildAt (N : Nat) : Prop := ∀ (us : List Nat) (w : World) (ac : Option Addr) (cc : Nat) (av : Option Addr) (cv : Nat) (ar : Option Addr) (cr : Nat) (m : MkS) (vs rs : List Int) (at0 : Option Addr) (ct : Nat) (t : Tm),
  (∀ k ∈ us, k < w.heap.size) → SX 0 us w ac cc av cv ar cr m vs rs → m.fit → Row (veil us w) at0 ct t.flat → t.ok → t.hd.k = 3 → t.flat.length ≤ 200 → t.flat.length ≤ N → (structS t m).1.code.length ≤ 10000 →
  Calls Try.prog 69 #[.agg #[.slice ac m.code.length cc, .int .i64 m.next, .slice av vs.length cv, .slice ar rs.length cr], .slice at0 t.flat.length ct] w fun e w' => ∃ ac' cc' av' cv' ar' cr' vs' rs', e = .returned (.tuple #[.agg #[.slice ac' (structS t m).1.code.length cc', .int .i64 (structS t m).1.next, .slice av' (List.length vs') cv', .slice ar' (List.length rs') cr'], .int .i64 (structS t m).2]) ∧ SX 0 us w' ac' cc' av' cv' ar' cr' (structS t m).1 vs' rs' ∧ Below w.heap.size w w'
theorem inner_rel {ts : List Tm} {m : MkS} {k : Nat} {qs : List Int} {r q : Int} (hl : qs.length = k) (hk : k < ts.length) (h : ∀ j (hj : j < ts.length) (hq : j < qs.length), ts[j].hd.k = 3 → (innerS (ts.take k) m).2[j]? = some qs[j]) (hn : (innerS (ts.take (k + 1)) m).2 = (innerS (ts.take k) m).2 ++ [r]) (hr : ts[k].hd.k = 3 → r = q) : ∀ j (hj : j < ts.length) (hq : j < (qs ++ [q]).length), ts[j].hd.k = 3 → (innerS (ts.take (k + 1)) m).2[j]? = some (qs ++ [q])[j] := by
  intro j hj hq h3
  have hil : (innerS (ts.take k) m).2.length = k := by rw [innerS_regs, List.length_take]; omega
  rw [hn]
  rcases Nat.lt_or_ge j k with hjk | hjk
  · rw [List.getElem?_append_left (by omega), List.getElem_append_left (by omega)]
    exact h j hj (by omega) h3
  · rw [List.length_append, List.length_singleton] at hq
    obtain rfl : j = k := by omega
    rw [List.getElem?_append_right (by omega), hil, List.getElem_append_right (by omega)]
    simp [hr h3]
theorem innerS_mono (ts : List Tm) (m : MkS) : m.code.length ≤ (innerS ts m).1.code.length := by
  obtain ⟨ch, e, _⟩ := innerS_q ts m
  rw [e, List.length_append]
  omega
theorem setsS_mono (ts : List Tm) (rs : List Int) (m : MkS) : m.code.length ≤ (setsS ts rs m).code.length := by
  obtain ⟨ch, e, _⟩ := setsS_q ts rs m
  rw [e, List.length_append]
  omega
theorem innerS_upto (ts : List Tm) (k : Nat) (m : MkS) : (innerS (ts.take k) m).1.code.length ≤ (innerS ts m).1.code.length := by
  have h := innerS_append (ts.take k) (ts.drop k) m
  rw [List.take_append_drop] at h
  rw [h]
  exact innerS_mono _ _
theorem setsS_upto : ∀ (ts : List Tm) (rs : List Int) (k : Nat) (m : MkS), (setsS (ts.take k) (rs.take k) m).code.length ≤ (setsS ts rs m).code.length
  | [], rs, k, m => by simp [setsS]
  | t :: ts, [], k, m => by simp only [List.take_nil]; unfold setsS; split <;> simp_all
  | t :: ts, r :: rs, 0, m => setsS_mono _ _ _
  | t :: ts, r :: rs, k + 1, m => by
    rw [List.take_succ_cons, List.take_succ_cons]
    unfold setsS
    exact setsS_upto ts rs k _
theorem KindsL.takeK : ∀ {ts : List Tm} (k : Nat), KindsL ts → KindsL (ts.take k)
  | [], k, h => by simp [KindsL]
  | t :: ts, 0, h => by simp [KindsL]
  | t :: ts, k + 1, h => ⟨h.1, KindsL.takeK k h.2⟩
theorem structS_inner (t : Tm) (m : MkS) : (innerS t.args m).1.code.length ≤ (structS t m).1.code.length := by
  cases t with
  | mk c ts =>
    unfold structS
    have h := setsS_mono ts (innerS ts m).2 ((innerS ts m).1.fresh.lay ⟨8, 0, (innerS ts m).1.next, c.s, c.n, false⟩)
    rw [lay_len] at h
    show (innerS ts m).1.code.length ≤ (setsS ts (innerS ts m).2 ((innerS ts m).1.fresh.lay ⟨8, 0, (innerS ts m).1.next, c.s, c.n, false⟩)).code.length
    have e : (innerS ts m).1.fresh.code.length = (innerS ts m).1.code.length := rfl
    omega
set_option maxRecDepth 100000 in
set_option maxHeartbeats 25600000 in
theorem build_step (N : Nat) (ih : BuildAt N) : BuildAt (N + 1) := by
  intro us w ac cc av cv ar cr m vs rs at0 ct t hu hst hfit hT ht h3 h200 hN hl
  have IH := mkHid ih
  clear ih
  obtain ⟨W, hW⟩ : ∃ W, (w.alloc (.cells #[.slice ac m.code.length cc, .int .i64 m.next, .slice av vs.length cv, .slice ar rs.length cr] 104)).alloc (.cells #[.slice none 0 0, .int .i64 0, .slice none 0 0, .slice none 0 0] 104) = W := ⟨_, rfl⟩
  have hb0 : Below w.heap.size w W := by rw [← hW]; exact ((Below.refl _ _).new _).new _
  have hs1 : (w.alloc (.cells #[.slice ac m.code.length cc, .int .i64 m.next, .slice av vs.length cv, .slice ar rs.length cr] 104)).heap.size = w.heap.size + 1 := by simp
  have hk0 : W.heap[w.heap.size]? = some (.cells #[.slice ac m.code.length cc, .int .i64 m.next, .slice av vs.length cv, .slice ar rs.length cr] 104 (0, 0)) := by
    rw [← hW]
    exact (heap_alloc_old _ _ (by simp)).trans (heap_alloc_new _ _)
  have HK1 : Hid (W.heap[w.heap.size + 1]? = some (.cells #[.slice none 0 0, .int .i64 0, .slice none 0 0, .slice none 0 0] 104 (0, 0))) := by
    rw [Hid, ← hW, ← hs1]
    exact heap_alloc_new _ _
  have HZ : Hid (W.heap.size = w.heap.size + 2) := by rw [Hid, ← hW]; simp
  obtain ⟨us2, hus2⟩ : ∃ us2, [w.heap.size, w.heap.size + 1] ++ us = us2 := ⟨_, rfl⟩
  have HU2 : Hid (∀ X : World, w.heap.size + 2 ≤ X.heap.size → ∀ k ∈ us2, k < X.heap.size) := by
    rw [Hid, ← hus2]
    intro X hX k hk
    rcases List.mem_append.1 hk with h | h
    · simp at h; omega
    · have := hu k h; omega
  have HIN : Hid (∀ k ∈ us2, k ∈ us ∨ w.heap.size ≤ k) := by
    rw [Hid, ← hus2]
    intro k hk
    rcases List.mem_append.1 hk with h | h
    · simp at h; right; omega
    · exact .inl h
  have HM2 : Hid (∀ k ∈ us, k ∈ us2) := by
    rw [Hid, ← hus2]
    exact fun k hk => List.mem_append_right _ hk
  have H02 : Hid (w.heap.size ∈ us2 ∧ w.heap.size + 1 ∈ us2) := by rw [Hid, ← hus2]; exact ⟨by simp, by simp⟩
  have hst2 := hst.st.to (Fr.of hb0) HIN.out
  have HSB : Hid (SB 0 us2 W w.heap.size m) := ⟨ac, cc, av, cv, ar, cr, vs, rs, hk0, hst2, hst.b⟩
  have HT := mkHid (hT.keeps (veil_toR (Fr.of hb0) HIN.out))
  have HB := mkHid hb0
  have HOK := mkHid ht
  have HH3 := mkHid h3
  have HFI := mkHid hfit
  have HCL := mkHid hl
  have HNN := mkHid hN
  have hP : partsL t.flat = t.args.map Tm.flat := parts_flat ht
  have HKI := mkHid (ok_kinds t ht)
  have hpos := flat_pos t
  have htk : (t.flat[0]'hpos).k = 3 := by simp only [flat_cons, List.getElem_cons_zero]; exact h3
  have HPT := mkHid (refparts_own at0 ct W t.flat (HT.out.keeps (veil_keeps us2 W)) (right_flat ht h200) hpos htk)
  rw [hP] at HPT
  have hna : t.args.length ≤ 200 := by
    have h6 := h200
    have key : ∀ ts : List Tm, ts.length ≤ (flats ts).length := by
      intro ts
      induction ts with
      | nil => simp [flats]
      | cons t ts ih =>
        have := flat_pos t
        simp only [flats, List.length_cons, List.length_append]
        omega
    have := key t.args
    rw [flat_cons, List.length_cons] at h6
    omega
  clear hst hfit ht h3 hl hN hb0 hs1 hus2 hst2 hk0 hT hpos htk hP hu
  go_enter Try.func69, Try.ntmps69
  go_wp2_with fail
  first | rw [hW] | skip
  clear hW
  refine HPT.out.mono ?_
  rintro e w1 ⟨vl, ws, rfl, hown, hsl, hb1⟩
  rw [List.length_map] at hown
  have hwl := hown.1
  rw [Nat.mul_one] at hwl
  obtain ⟨al, cl, rfl, hlc, hlm, hlat⟩ := own_at hown
  have HSL := mkHid hsl
  have HLA := mkHid hlat
  have hfr : Fr us2 W w1 := Fr.of hb1
  have HSB1 := mkHid (SB.on HSB.out hfr (hb1.block w.heap.size (by have := HZ.out; omega)))
  have HT1 := mkHid (HT.out.keeps (veil_toR hfr fun k hk => .inl hk))
  have HK2 := mkHid ((hb1.block (w.heap.size + 1) (by have := HZ.out; omega)).trans HK1.out)
  have HB1 := mkHid (HB.out.then hb1)
  have HZ1 : Hid (w.heap.size + 2 ≤ w1.heap.size) := by have := HZ.out; have := hb1.size; rw [Hid]; omega
  have HWL := mkHid hwl
  clear hown hsl hlat hfr hb1 HSB HT HK1 HB HPT hwl
  go_wp2_with fail
  have HAC : Hid (AccInv w1.heap.size 3 ([] : List Int) (.slice (some ⟨w1.heap.size, 0, none⟩) 0 0) (w1.alloc (.cells #[] 3))) := AccInv.made w1 (Nat.le_refl _) rfl
  have hbn : Below w1.heap.size w1 (w1.alloc (.cells #[] 3)) := (Below.refl _ _).new _
  have HSB2 : Hid (SB 0 ([w1.heap.size] ++ us2) (w1.alloc (.cells #[] 3)) w.heap.size m) := SB.to HSB1.out (Fr.of hbn) (hbn.block w.heap.size (by have := HZ1.out; omega)) fun k hk => by
    rcases List.mem_append.1 hk with h | h
    · simp at h; right; omega
    · exact .inl h
  have H69 : Hid (Fr [w.heap.size] w1 (w1.alloc (.cells #[] 3))) := Fr.of hbn
  clear hbn HSB1
  go_loopw [7, 8] (fun atv i wr => ∃ (k : Nat) (qs : List Int), k ≤ t.args.length ∧ i = .int .i64 k ∧ qs.length = k ∧ Hid (AccInv w1.heap.size 3 qs atv wr) ∧ Hid (∀ j (hj : j < t.args.length) (hq : j < qs.length), t.args[j].hd.k = 3 → (innerS (t.args.take k) m).2[j]? = some qs[j]) ∧ Hid (Fr [w.heap.size] w1 wr) ∧ Hid (SB 0 (atv.ownBlock.toList ++ us2) wr w.heap.size (innerS (t.args.take k) m).1)) (fun _ i wr => t.args.length - (intOf i).toNat)
  case atStart => exact ⟨0, [], Nat.zero_le _, rfl, rfl, HAC, fun j hj hq => by simp at hq, H69, by rw [Hid]; simpa [innerS, Value.ownBlock] using HSB2.out⟩
  case round =>
    clear HAC HSB2 H69
    obtain ⟨k, qs, hk, rfl, hqk, HA, HQ, HF, HSB⟩ := hrel
    have HQK := mkHid hqk
    have hq200 : qs.length ≤ k := by omega
    clear hqk
    obtain ⟨aU, cU, eU, hrU⟩ := HA.out.row
    subst eU
    have hrU1 := hrU.max
    have hrU2 := hrU.le
    have hown : ∀ b, (Value.slice aU qs.length cU).ownBlock = some b → w1.heap.size ≤ b ∧ b < wr.heap.size := HA.out.lt
    obtain ⟨us3, hus3⟩ : ∃ us3, (Value.slice aU qs.length cU).ownBlock.toList ++ us2 = us3 := ⟨_, rfl⟩
    rw [hus3] at HSB
    have hsz := HF.out.size
    have HIN3 : Hid (∀ k ∈ us3, k ∈ us2 ∨ w1.heap.size ≤ k) := by
      rw [Hid, ← hus3]
      intro k hk
      rcases List.mem_append.1 hk with h | h
      · right; exact (hown k (by simpa using h)).1
      · exact .inl h
    have HU3 : Hid (∀ X : World, wr.heap.size ≤ X.heap.size → ∀ k ∈ us3, k < X.heap.size) := by
      rw [Hid, ← hus3]
      intro X hX k hk
      rcases List.mem_append.1 hk with h | h
      · have := (hown k (by simpa using h)).2; omega
      · have := HU2.out X (by have := HZ1.out; omega) k h; omega
    have H03 : Hid (w.heap.size ∈ us3) := by rw [Hid, ← hus3]; exact List.mem_append_right _ H02.out.1
    have HUS := mkHid hus3
    have HTR := mkHid (HT1.out.keeps (veil_toR (us := us2) (HF.out.sub fun k hk => by simp at hk; subst hk; exact H02.out.1) HIN3.out))
    obtain ⟨mk, hmk⟩ : ∃ mk, (innerS (t.args.take k) m).1 = mk := ⟨_, rfl⟩
    have HMK := mkHid hmk
    rw [hmk] at HSB
    have hks : KindsL t.args := by have := HKI.out; cases t; exact this.2.2
    have HKS := mkHid hks
    have HMF : Hid mk.fit := by rw [Hid, ← hmk]; exact (innerS_lays (t.args.take k) m (KindsL.takeK k hks) HFI.out).1.1
    have hml : mk.code.length ≤ 10000 := by
      have h1 := innerS_upto t.args k m
      have h2 := structS_inner t m
      have h3 := HCL.out
      rw [← hmk]
      omega
    have HZR : Hid (w1.heap.size ≤ wr.heap.size) := hsz
    obtain ⟨ac2, cc2, av2, cv2, ar2, cr2, vs2, rs2, hx, hsx⟩ := HSB.out
    have HX := mkHid hx
    have HSX := mkHid hsx
    clear hx hsx HSB hus3 hown hmk hks hsz hrU
    by_cases hlt : k < t.args.length
    · have hltw : k < ws.length := by have := HWL.out; omega
      obtain ⟨gl, rfl, hglB, hgls, hglc⟩ := HLA.out k hltw
      have hglB2 : w.heap.size + 2 ≤ gl := by have := HZ.out; omega
      obtain ⟨u, hue⟩ : ∃ u, t.args[k] = u := ⟨_, rfl⟩
      have hum : u ∈ t.args := by rw [← hue]; exact List.getElem_mem hlt
      obtain ⟨a3, c3, hwk, hr3⟩ := (HSL.out (veil us3 wr) HTR.out).row k ws[k] u.flat (List.getElem?_eq_getElem hltw) (by rw [List.getElem?_map, List.getElem?_eq_getElem hlt, hue]; rfl)
      rw [hwk] at hglc
      have hgl2 : wr.cell? ⟨gl, k, none⟩ = some (.slice a3 u.flat.length c3) := (World.cell?_of_block (w := w1) (a := ⟨gl, k, none⟩) (HF.out.block gl hgls (by simp; omega))).trans hglc
      have hpu := flat_pos u
      obtain ⟨b3, o3, rfl, hb3, hat3⟩ := hr3.cases.resolve_left (fun e => by rw [e] at hpu; simp at hpu)
      have hcv := cel_at hat3 (Below.refl _ _) hpu
      have hce : u.flat[0] = u.hd := by simp only [flat_cons, List.getElem_cons_zero]
      rw [hce] at hcv
      obtain ⟨hc0, hc1, hc2, hcf⟩ := hcv
      rw [Nat.zero_mul, Nat.add_zero] at hc0
      have c0 := (veil_cell hc0).2
      have HR3 := mkHid hr3
      have hle3 := hr3.le
      have hmx3 := hr3.max
      obtain ⟨m3, hm3⟩ : ∃ m3, u.flat.length = m3 + 1 := ⟨u.flat.length - 1, by omega⟩
      have HM3 := mkHid hm3
      rw [hm3] at hgl2 hle3
      have hnx := innerS_next hlt m
      rw [hue, HMK.out] at hnx
      clear hwk hglc hr3 hat3 hc0 hc1 hc2 hcf hce hltw hm3 hb3 hpu
      by_cases h3' : u.hd.k = 3
      · rw [if_pos h3'] at hnx
        obtain ⟨M, R, hM⟩ : ∃ M R, structS u mk = (M, R) := ⟨_, _, rfl⟩
        rw [hM] at hnx
        have hok : u.ok := oks_mem ((ok_iff t).1 HOK.out).2.2 u hum
        have hsh := mem_short hum
        have hlay := structS_lays u mk (ok_kinds u hok) HMF.out
        have hMl : M.code.length ≤ 10000 := by
          have h1 : M.code.length ≤ (innerS t.args m).1.code.length := by
            have h := innerS_upto t.args (k + 1) m
            rw [hnx] at h
            exact h
          have h2 := structS_inner t m
          have h3 := HCL.out
          omega
        have HNX := mkHid hnx
        have HIH := fun (y : World) (hy : wr.heap.size ≤ y.heap.size) (hsx : SX 0 us3 y ac2 cc2 av2 cv2 ar2 cr2 mk vs2 rs2) (hr : Row (veil us3 y) (some ⟨b3, o3, none⟩) c3 u.flat) => IH.out us3 y ac2 cc2 av2 cv2 ar2 cr2 mk vs2 rs2 (some ⟨b3, o3, none⟩) c3 u (HU3.out y hy) hsx HMF.out hr hok h3' (by omega) (by have := HNN.out; omega) (by rw [hM]; exact hMl)
        rw [hM] at HIH hlay
        rw [HM3.out] at HIH
        have HIC := mkHid HIH
        have hR1 := hlay.2.1
        have hR2 := hlay.2.2
        clear HIH hlay hnx hM hok hsh
        go_wp2_with fail
        refine wp_region_noPanic ?_
        obtain ⟨y0, hv0⟩ : ∃ X, wr.drew = X := ⟨_, rfl⟩
        have hbd : Below wr.heap.size wr y0 := by rw [← hv0]; exact (Below.refl _ _).drew
        have HXY := mkHid ((hbd.block w.heap.size (by have := HZ1.out; have := HZR.out; omega)).trans HX.out)
        have HSY := mkHid (HSX.out.on (Fr.of hbd))
        have HRY := mkHid (HR3.out.keeps (veil_toR (us := us3) (Fr.of hbd) fun k hk => .inl hk))
        have HFY := mkHid (HF.out.trans (Fr.of hbd))
        have HAY := mkHid (HA.out.below hbd)
        have HYS : Hid (wr.heap.size ≤ y0.heap.size) := hbd.size
        have d0 := mkHid (keep hgl2 hbd)
        have hgly : gl < y0.heap.size := cell_lt d0.out
        have HS : Hid (∀ X, Fr [w.heap.size] y0 X → (fun X : World => X.cell? ⟨gl, k, none⟩ = some (.slice (some ⟨b3, o3, none⟩) (m3 + 1) c3) ∧ X.cell? ⟨gl, k, none⟩ = some (.slice (some ⟨b3, o3, none⟩) (m3 + 1) c3)) X) := fun X h => by
          have h5 := (World.cell?_of_block (w := y0) (a := ⟨gl, k, none⟩) (h.block gl hgly (by simp; omega))).trans d0.out
          exact ⟨h5, h5⟩
        refine wp_region_held_drew (S := fun X : World => X.cell? ⟨gl, k, none⟩ = some (.slice (some ⟨b3, o3, none⟩) (m3 + 1) c3) ∧ X.cell? ⟨gl, k, none⟩ = some (.slice (some ⟨b3, o3, none⟩) (m3 + 1) c3)) (by kernel_rfl) (by rw [hv0]; exact HS.out _ (Fr.refl _ _)) (fun hSd => ?_)
        rw [hv0] at hSd ⊢
        have HB0 : Hid (Fr [w.heap.size] y0 y0) := Fr.refl _ _
        clear hv0 hbd c0 hgl2 HX HSX HR3 HF HA HTR
        refine wpAnyH_take (i := 1) (oi := _) (v := ?_) rfl (by kernel_rfl) (by kernel_rfl) (by kernel_rfl) (fun _ _ _ h => h) (Or.inl ⟨by rfl, ?_⟩) (by assumption) ?_
        rotate_left
        · (intro w' hSw; obtain ⟨z0, z1⟩ := hSw; go_simp; try with_reducible rfl)
        (try simp only [List.getElem_toArray, List.getElem_cons_succ, List.getElem_cons_zero, Act.put, List.setIfInBounds_toArray, List.set_cons_zero, List.set_cons_succ])
        refine wpAnyH_take (i := 2) (oi := _) (v := ?_) rfl (by kernel_rfl) (by kernel_rfl) (by kernel_rfl) (fun _ _ _ h => h) (Or.inl ⟨by rfl, ?_⟩) (by assumption) ?_
        rotate_left
        · (intro w' hSw; obtain ⟨z0, z1⟩ := hSw; go_simp; try with_reducible rfl)
        (try simp only [List.getElem_toArray, List.getElem_cons_succ, List.getElem_cons_zero, Act.put, List.setIfInBounds_toArray, List.set_cons_zero, List.set_cons_succ])
        refine wpAnyH_take (i := 3) (oi := _) (v := ?_) rfl (by kernel_rfl) (by kernel_rfl) (by kernel_rfl) (fun _ _ _ h => h) (Or.inl ⟨by rfl, ?_⟩) (by assumption) ?_
        rotate_left
        · (intro w' hSw; obtain ⟨z0, z1⟩ := hSw; go_simp; try with_reducible rfl)
        (try simp only [List.getElem_toArray, List.getElem_cons_succ, List.getElem_cons_zero, Act.put, List.setIfInBounds_toArray, List.set_cons_zero, List.set_cons_succ])
        refine wpAnyH_take (i := 4) (oi := _) (v := ?_) rfl (by kernel_rfl) (by kernel_rfl) (by kernel_rfl) (fun _ _ _ h => h) (Or.inl ⟨by rfl, ?_⟩) (by assumption) ?_
        rotate_left
        · (intro w' hSw; obtain ⟨z0, z1⟩ := hSw; go_simp; try with_reducible rfl)
        (try simp only [List.getElem_toArray, List.getElem_cons_succ, List.getElem_cons_zero, Act.put, List.setIfInBounds_toArray, List.set_cons_zero, List.set_cons_succ])
        refine wpAnyH_ready (rs := [0]) (by kernel_rfl) (by simp) ?_
        refine AllReadyH.cons (o := _) rfl (fun K hK => ?_) AllReadyH.nil
        obtain ⟨k0, k1, k2, k3⟩ := st_cells HXY.out
        go_simp
        clear k0 k1 k2 k3
        try dsimp only
        refine hK.out _ _ (HS.out _ HB0.out) (fun _ => ?_)
        clear hK K
        (try simp only [List.getElem_toArray, List.getElem_cons_succ, List.getElem_cons_zero, Act.put, List.setIfInBounds_toArray, List.set_cons_zero, List.set_cons_succ])
        refine wpAnyH_ready (rs := [5]) (by kernel_rfl) (by simp) ?_
        refine AllReadyH.cons (o := _) rfl (fun K hK => ?_) AllReadyH.nil
        go_simp
        refine (HIC.out y0 HYS.out HSY.out HRY.out).mono ?_
        rintro r z6 ⟨ac5, cc5, av5, cv5, ar5, cr5, vs5, rs5, rfl, hs6, hb6⟩
        have HX6 := mkHid ((hb6.block w.heap.size (by have := HZ1.out; have := HZR.out; have := HYS.out; omega)).trans HXY.out)
        have HS6 := mkHid hs6
        have HA6 := mkHid (HAY.out.below hb6)
        have HF7 := mkHid (HFY.out.trans (Fr.of hb6))
        have HB6 : Hid (Fr [w.heap.size] y0 z6) := Fr.of hb6
        have HZ6 : Hid (w1.heap.size ≤ z6.heap.size) := by have := HZR.out; have := HYS.out; have := hb6.size; rw [Hid]; omega
        clear hs6 hb6 HXY HSY HRY HFY HAY
        try dsimp only
        refine hK.out _ _ (HS.out _ HB6.out) (fun _ => ?_)
        clear hK K
        (try simp only [List.getElem_toArray, List.getElem_cons_succ, List.getElem_cons_zero, Act.put, List.setIfInBounds_toArray, List.set_cons_zero, List.set_cons_succ])
        refine wpAnyH_take (i := 6) (oi := _) (v := ?_) rfl (by kernel_rfl) (by kernel_rfl) (by kernel_rfl) (fun _ _ _ h => h) (Or.inl ⟨by rfl, ?_⟩) (by assumption) ?_
        rotate_left
        · (intro w' hSw; obtain ⟨z0, z1⟩ := hSw; go_simp; try with_reducible rfl)
        (try simp only [List.getElem_toArray, List.getElem_cons_succ, List.getElem_cons_zero, Act.put, List.setIfInBounds_toArray, List.set_cons_zero, List.set_cons_succ])
        refine wpAnyH_take (i := 7) (oi := _) (v := ?_) rfl (by kernel_rfl) (by kernel_rfl) (by kernel_rfl) (fun _ _ _ h => h) (Or.inl ⟨by rfl, ?_⟩) (by assumption) ?_
        rotate_left
        · (intro w' hSw; obtain ⟨z0, z1⟩ := hSw; go_simp; try with_reducible rfl)
        (try simp only [List.getElem_toArray, List.getElem_cons_succ, List.getElem_cons_zero, Act.put, List.setIfInBounds_toArray, List.set_cons_zero, List.set_cons_succ])
        refine wpAnyH_take (i := 8) (oi := _) (v := ?_) rfl (by kernel_rfl) (by kernel_rfl) (by kernel_rfl) (fun _ _ _ h => h) (Or.inl ⟨by rfl, ?_⟩) (by assumption) ?_
        rotate_left
        · (intro w' hSw; obtain ⟨z0, z1⟩ := hSw; go_simp; try with_reducible rfl)
        (try simp only [List.getElem_toArray, List.getElem_cons_succ, List.getElem_cons_zero, Act.put, List.setIfInBounds_toArray, List.set_cons_zero, List.set_cons_succ])
        refine wpAnyH_ready (rs := [9]) (by kernel_rfl) (by simp) ?_
        refine AllReadyH.cons (o := _) rfl (fun K hK => ?_) AllReadyH.nil
        obtain ⟨k0, k1, k2, k3⟩ := st_cells HX6.out
        obtain ⟨f0, f1, f2, f3⟩ := st_free HX6.out
        have HSB7 := mkHid (SB.stored HX6.out H03.out HS6.out)
        have HFF := mkHid ((Fr.refl [w.heap.size] z6).four (g := w.heap.size) (by simp) (.slice ac5 M.code.length cc5) (.int .i64 M.next) (.slice av5 vs5.length cv5) (.slice ar5 rs5.length cr5))
        have HA7 : Hid (AccInv w1.heap.size 3 qs (.slice aU qs.length cU) (((((z6.setCell ⟨w.heap.size, 0, none⟩ (.slice ac5 M.code.length cc5)).setCell ⟨w.heap.size, 1, none⟩ (.int .i64 M.next)).setCell ⟨w.heap.size, 2, none⟩ (.slice av5 vs5.length cv5)).setCell ⟨w.heap.size, 3, none⟩ (.slice ar5 rs5.length cr5)))) := HA6.out.blockN (fun h => h) fun b e => HFF.out.block b (HA6.out.lt b e).2 (by have := (HA6.out.lt b e).1; have := HZ1.out; simp; omega)
        have HF8 := mkHid (HF7.out.trans HFF.out)
        have HB8 := mkHid (HB6.out.trans HFF.out)
        have HZ7 : Hid (w1.heap.size ≤ ((((((z6.setCell ⟨w.heap.size, 0, none⟩ (.slice ac5 M.code.length cc5)).setCell ⟨w.heap.size, 1, none⟩ (.int .i64 M.next)).setCell ⟨w.heap.size, 2, none⟩ (.slice av5 vs5.length cv5)).setCell ⟨w.heap.size, 3, none⟩ (.slice ar5 rs5.length cr5)))).heap.size) := by have := HZ6.out; have := HFF.out.size; rw [Hid]; omega
        go_simp
        clear k0 k1 k2 k3 f0 f1 f2 f3
        try dsimp only
        refine hK.out _ _ (HS.out _ HB8.out) (fun _ => ?_)
        clear hK K
        (try simp only [List.getElem_toArray, List.getElem_cons_succ, List.getElem_cons_zero, Act.put, List.setIfInBounds_toArray, List.set_cons_zero, List.set_cons_succ])
        refine wpAnyH_take (i := 10) (oi := _) (v := ?_) rfl (by kernel_rfl) (by kernel_rfl) (by kernel_rfl) (fun _ _ _ h => h) (Or.inl ⟨by rfl, ?_⟩) (by assumption) ?_
        rotate_left
        · (intro w' hSw; obtain ⟨z0, z1⟩ := hSw; go_simp; try with_reducible rfl)
        (try simp only [List.getElem_toArray, List.getElem_cons_succ, List.getElem_cons_zero, Act.put, List.setIfInBounds_toArray, List.set_cons_zero, List.set_cons_succ])
        refine wpAnyH_done (by kernel_rfl) (NoPanic.normal ?_) _
        clear HS hSd HX6 HS6 HA6 HF7 HB6 HFF HB8 HB0 d0 HZ6
        generalize (((((z6.setCell ⟨w.heap.size, 0, none⟩ (.slice ac5 M.code.length cc5)).setCell ⟨w.heap.size, 1, none⟩ (.int .i64 M.next)).setCell ⟨w.heap.size, 2, none⟩ (.slice av5 vs5.length cv5)).setCell ⟨w.heap.size, 3, none⟩ (.slice ar5 rs5.length cr5))) = z7 at *
        have HNX1 : Hid ((innerS (t.args.take (k + 1)) m).1 = M) := by rw [Hid, HNX.out]
        have HQ9 := mkHid (inner_rel (q := R) HQK.out hlt HQ.out (show (innerS (t.args.take (k + 1)) m).2 = _ from by rw [HNX.out]) fun _ => rfl)
        have hR3 : R ≤ 30000 := by
          obtain ⟨_, _, _, _, _, _, _, _, _, h9⟩ := HSB7.out
          have := h9.b.n1
          omega
        go_wp2_with (at_builtin; go_loud (refine wpList_accN (α := Int) rfl _ _ 41 rfl w1.heap.size 3 8 _ Try.underlying41 Try.infoInt rfl (by decide) _ qs HA7.out (by rfl) _ #[.int .i64 R] R ⟨rfl, by omega, by omega⟩ (by rfl) (by omega) HZ7.out ?_); intro v' w5 ha5 hg5 hw5)
        have HA9 := mkHid ha5
        have hlt7 := HA7.out.lt
        have HF9 : Hid (Fr [w.heap.size] w1 w5) := ⟨hg5.os.trans HF8.out.os, hg5.tape.trans HF8.out.tape, hg5.output.trans HF8.out.output, by have := hg5.size; have := HZ7.out; simp at *; omega, fun b hb hn => (hg5.block b (by simp; have := HZ7.out; omega) (fun e => by have := (hlt7 b e.symm).1; omega)).trans ((heap_alloc_old _ _ (by have := HZ7.out; omega)).trans (HF8.out.block b hb hn))⟩
        have HSB9 : Hid (SB 0 (v'.ownBlock.toList ++ us2) w5 w.heap.size (innerS (t.args.take (k + 1)) m).1) := by
          rw [Hid, HNX1.out]
          refine SB.to HSB7.out (W' := w5) ((Fr.of ((Below.refl _ _).new _)).trans ((grown_frN hg5).sub fun b hb => ?_)) ?_ fun b hb => ?_
          · rw [← HUS.out]; exact List.mem_append_left _ hb
          · exact (hg5.block w.heap.size (by simp; have := HZ7.out; have := HZ1.out; omega) (fun e => by have := (hlt7 _ e.symm).1; have := HZ1.out; omega)).trans (heap_alloc_old _ _ (by have := HZ7.out; have := HZ1.out; omega))
          · rcases List.mem_append.1 hb with h | h
            · rcases hw5 with e | e
              · rw [e] at h; left; rw [← HUS.out]; exact List.mem_append_left _ h
              · rw [e] at h; simp at h; right; omega
            · left; rw [← HUS.out]; exact List.mem_append_right _ h
        clear ha5 hg5 hw5 hlt7
        go_wp2_with fail
        go_round
        case rel => exact ⟨k + 1, qs ++ [R], by omega, by go_num, by rw [List.length_append, List.length_singleton]; have := HQK.out; omega, HA9, HQ9, HF9, HSB9⟩
        case measure => simp [intOf]; omega
      · rw [if_neg h3'] at hnx
        have d3k : (u.hd.k == 3) = false := by simp [h3']
        have HNX1 : Hid ((innerS (t.args.take (k + 1)) m).1 = mk) := by rw [Hid, hnx]
        have HQ9 := mkHid (inner_rel (q := -1) HQK.out hlt HQ.out (show (innerS (t.args.take (k + 1)) m).2 = _ from by rw [hnx]) fun e => absurd (by rw [← hue]; exact e) h3')
        have HSB7 : Hid (SB 0 us3 wr w.heap.size mk) := ⟨ac2, cc2, av2, cv2, ar2, cr2, vs2, rs2, HX.out, HSX.out⟩
        have HA7 := HA
        have HF8 := HF
        have HZ7 := HZR
        clear hnx h3'
        go_wp2_with (at_builtin; go_loud (refine wpList_accN (α := Int) rfl _ _ 41 rfl w1.heap.size 3 8 _ Try.underlying41 Try.infoInt rfl (by decide) _ qs HA7.out (by rfl) _ #[.int .i64 (-1)] (-1) ⟨rfl, by omega, by omega⟩ (by rfl) (by omega) HZ7.out ?_); intro v' w5 ha5 hg5 hw5)
        have HA9 := mkHid ha5
        have hlt7 := HA7.out.lt
        have HF9 : Hid (Fr [w.heap.size] w1 w5) := ⟨hg5.os.trans HF8.out.os, hg5.tape.trans HF8.out.tape, hg5.output.trans HF8.out.output, by have := hg5.size; have := HZ7.out; simp at *; omega, fun b hb hn => (hg5.block b (by simp; have := HZ7.out; omega) (fun e => by have := (hlt7 b e.symm).1; omega)).trans ((heap_alloc_old _ _ (by have := HZ7.out; omega)).trans (HF8.out.block b hb hn))⟩
        have HSB9 : Hid (SB 0 (v'.ownBlock.toList ++ us2) w5 w.heap.size (innerS (t.args.take (k + 1)) m).1) := by
          rw [Hid, HNX1.out]
          refine SB.to HSB7.out (W' := w5) ((Fr.of ((Below.refl _ _).new _)).trans ((grown_frN hg5).sub fun b hb => ?_)) ?_ fun b hb => ?_
          · rw [← HUS.out]; exact List.mem_append_left _ hb
          · exact (hg5.block w.heap.size (by simp; have := HZ7.out; have := HZ1.out; omega) (fun e => by have := (hlt7 _ e.symm).1; have := HZ1.out; omega)).trans (heap_alloc_old _ _ (by have := HZ7.out; have := HZ1.out; omega))
          · rcases List.mem_append.1 hb with h | h
            · rcases hw5 with e | e
              · rw [e] at h; left; rw [← HUS.out]; exact List.mem_append_left _ h
              · rw [e] at h; simp at h; right; omega
            · left; rw [← HUS.out]; exact List.mem_append_right _ h
        clear ha5 hg5 hw5 hlt7
        go_wp2_with fail
        go_round
        case rel => exact ⟨k + 1, qs ++ [(-1)], by omega, by go_num, by rw [List.length_append, List.length_singleton]; have := HQK.out; omega, HA9, HQ9, HF9, HSB9⟩
        case measure => simp [intOf]; omega
    · have hke : k = t.args.length := by omega
      have hmke : mk = (innerS t.args m).1 := by rw [← HMK.out, List.take_of_length_le (by omega)]
      have HME := mkHid hmke
      obtain ⟨gs, hgs⟩ : ∃ gs, (innerS t.args m).2 = gs := ⟨_, rfl⟩
      have hgl9 : gs.length = t.args.length := by rw [← hgs]; exact innerS_regs _ _
      have HGS := mkHid hgs
      have HGL := mkHid hgl9
      have HQR : Hid (∀ j (hj : j < t.args.length) (hq : j < qs.length), t.args[j].hd.k = 3 → gs[j]? = some qs[j]) := by
        intro j hj hq h3
        have h := HQ.out j hj hq h3
        rw [List.take_of_length_le (by omega), hgs] at h
        exact h
      have hpt := flat_pos t
      obtain ⟨b4, o4, rfl, hb4, hat4⟩ := HTR.out.cases.resolve_left (fun e => by rw [e] at hpt; simp at hpt)
      have hcv := cel_at hat4 (Below.refl _ _) hpt
      have hce : t.flat[0] = t.hd := by simp only [flat_cons, List.getElem_cons_zero]
      rw [hce] at hcv
      obtain ⟨_, hc1, hc2, hcf⟩ := hcv
      rw [Nat.zero_mul, Nat.add_zero] at hc1 hc2
      obtain ⟨hb4u, e1⟩ := veil_cell hc1
      have e2 := (veil_cell hc2).2
      have hb4n : b4 ≠ w.heap.size := fun e => hb4u (by rw [e]; exact H03.out)
      have hts1 := hcf.s
      have hts2 := hcf.n1
      have hts3 := hcf.n2
      have hn0 := HSX.out.b.n0
      have hn1 := HSX.out.b.n1
      have hnl : mk.next ≤ 20010 := by omega
      have hle4 := HTR.out.le
      have hmx4 := HTR.out.max
      obtain ⟨m4, hm4⟩ : ∃ m4, t.flat.length = m4 + 1 := ⟨t.flat.length - 1, by omega⟩
      clear hn1 hmke hgs hgl9 hat4 hc1 hc2 hcf hce HQ hpt hb4u hb4
      obtain ⟨k0, k1, k2, k3⟩ := st_cells HX.out
      obtain ⟨f0, f1, f2, f3⟩ := st_free HX.out
      have hfs := (Fr.refl [w.heap.size] wr).set (g := w.heap.size) (k := 1) (by simp) (.int .i64 (mk.next + 1))
      have hfs3 : Fr us3 wr (wr.setCell ⟨w.heap.size, 1, none⟩ (.int .i64 (mk.next + 1))) := hfs.sub fun k hk => by simp at hk; subst hk; exact H03.out
      have HX8 := mkHid (st1_set HX.out (.int .i64 (mk.next + 1)))
      have HS8 : Hid (SX 1 us3 (wr.setCell ⟨w.heap.size, 1, none⟩ (.int .i64 (mk.next + 1))) ac2 cc2 av2 cv2 ar2 cr2 mk.fresh vs2 rs2) := ⟨⟨HSX.out.st.c.keeps hfs3.keeps, HSX.out.st.v.keeps hfs3.keeps, HSX.out.st.r.keeps hfs3.keeps⟩, HSX.out.b.fresh⟩
      have HA8 : Hid (AccInv w1.heap.size 3 qs (.slice aU qs.length cU) (wr.setCell ⟨w.heap.size, 1, none⟩ (.int .i64 (mk.next + 1)))) := HA.out.blockN (fun h => h) fun b e => hfs.block b (HA.out.lt b e).2 (by have := (HA.out.lt b e).1; have := HZ1.out; simp; omega)
      have HF8 := mkHid (HF.out.trans hfs)
      have hsz8 : (wr.setCell ⟨w.heap.size, 1, none⟩ (.int .i64 (mk.next + 1))).heap.size = wr.heap.size := by simp
      have HZ8 : Hid (w1.heap.size ≤ (wr.setCell ⟨w.heap.size, 1, none⟩ (.int .i64 (mk.next + 1))).heap.size ∧ wr.heap.size ≤ (wr.setCell ⟨w.heap.size, 1, none⟩ (.int .i64 (mk.next + 1))).heap.size) := by have := HZR.out; rw [Hid, hsz8]; omega
      have q1 : (wr.setCell ⟨w.heap.size, 1, none⟩ (.int .i64 (mk.next + 1))).cell? ⟨b4, o4 + 1, none⟩ = some (.string t.hd.s) := (World.cell?_of_block (w := wr) (a := ⟨b4, o4 + 1, none⟩) (hfs.block b4 (cell_lt e1) (by simp; exact hb4n))).trans e1
      have q2 : (wr.setCell ⟨w.heap.size, 1, none⟩ (.int .i64 (mk.next + 1))).cell? ⟨b4, o4 + 2, none⟩ = some (.int .i64 t.hd.n) := (World.cell?_of_block (w := wr) (a := ⟨b4, o4 + 2, none⟩) (hfs.block b4 (cell_lt e1) (by simp; exact hb4n))).trans e2
      clear hfs hfs3 hsz8 e1 e2
      rw [hm4] at hle4
      have HM4 := mkHid hm4
      go_wp2_with fail
      generalize wr.setCell ⟨w.heap.size, 1, none⟩ (.int .i64 (mk.next + 1)) = w8 at *
      clear k0 k1 k2 k3 f0 f1 f2 f3 HX HSX HA HF HTR
      refine wp_region_noPanic ?_
      obtain ⟨y0, hv0⟩ : ∃ X, w8.drew = X := ⟨_, rfl⟩
      have hbd : Below w8.heap.size w8 y0 := by rw [← hv0]; exact (Below.refl _ _).drew
      have HXY := mkHid ((hbd.block w.heap.size (by have := HZ1.out; have := HZ8.out; omega)).trans HX8.out)
      have HSY := mkHid (HS8.out.on (Fr.of hbd))
      have HFY := mkHid (HF8.out.trans (Fr.of hbd))
      have HAY := mkHid (HA8.out.below hbd)
      have HYS : Hid (wr.heap.size ≤ y0.heap.size) := by have := HZ8.out; have := hbd.size; rw [Hid]; omega
      have d1 := mkHid (keep q1 hbd)
      have d2 := mkHid (keep q2 hbd)
      have hb4y : b4 < y0.heap.size := cell_lt d1.out
      have HS : Hid (∀ X, Fr [w.heap.size] y0 X → (fun X : World => X.cell? ⟨b4, o4 + 1, none⟩ = some (.string t.hd.s) ∧ X.cell? ⟨b4, o4 + 2, none⟩ = some (.int .i64 t.hd.n)) X) := fun X h =>
        ⟨(World.cell?_of_block (w := y0) (a := ⟨b4, o4 + 1, none⟩) (h.block b4 hb4y (by simp; exact hb4n))).trans d1.out, (World.cell?_of_block (w := y0) (a := ⟨b4, o4 + 2, none⟩) (h.block b4 hb4y (by simp; exact hb4n))).trans d2.out⟩
      refine wp_region_held_drew (S := fun X : World => X.cell? ⟨b4, o4 + 1, none⟩ = some (.string t.hd.s) ∧ X.cell? ⟨b4, o4 + 2, none⟩ = some (.int .i64 t.hd.n)) (by kernel_rfl) (by rw [hv0]; exact HS.out _ (Fr.refl _ _)) (fun hSd => ?_)
      rw [hv0] at hSd ⊢
      have HB0 : Hid (Fr [w.heap.size] y0 y0) := Fr.refl _ _
      clear hv0 hbd q1 q2 HX8 HS8 HF8 HA8 HZ8
      refine wpAnyH_take (i := 1) (oi := _) (v := ?_) rfl (by kernel_rfl) (by kernel_rfl) (by kernel_rfl) (fun _ _ _ h => h) (Or.inl ⟨by rfl, ?_⟩) (by assumption) ?_
      rotate_left
      · (intro w' hSw; obtain ⟨z0, z1⟩ := hSw; go_simp; try with_reducible rfl)
      (try simp only [List.getElem_toArray, List.getElem_cons_succ, List.getElem_cons_zero, Act.put, List.setIfInBounds_toArray, List.set_cons_zero, List.set_cons_succ])
      refine wpAnyH_take (i := 2) (oi := _) (v := ?_) rfl (by kernel_rfl) (by kernel_rfl) (by kernel_rfl) (fun _ _ _ h => h) (Or.inl ⟨by rfl, ?_⟩) (by assumption) ?_
      rotate_left
      · (intro w' hSw; obtain ⟨z0, z1⟩ := hSw; go_simp; try with_reducible rfl)
      (try simp only [List.getElem_toArray, List.getElem_cons_succ, List.getElem_cons_zero, Act.put, List.setIfInBounds_toArray, List.set_cons_zero, List.set_cons_succ])
      refine wpAnyH_take (i := 3) (oi := _) (v := ?_) rfl (by kernel_rfl) (by kernel_rfl) (by kernel_rfl) (fun _ _ _ h => h) (Or.inl ⟨by rfl, ?_⟩) (by assumption) ?_
      rotate_left
      · (intro w' hSw; obtain ⟨z0, z1⟩ := hSw; go_simp; try with_reducible rfl)
      (try simp only [List.getElem_toArray, List.getElem_cons_succ, List.getElem_cons_zero, Act.put, List.setIfInBounds_toArray, List.set_cons_zero, List.set_cons_succ])
      refine wpAnyH_take (i := 4) (oi := _) (v := ?_) rfl (by kernel_rfl) (by kernel_rfl) (by kernel_rfl) (fun _ _ _ h => h) (Or.inl ⟨by rfl, ?_⟩) (by assumption) ?_
      rotate_left
      · (intro w' hSw; obtain ⟨z0, z1⟩ := hSw; go_simp; try with_reducible rfl)
      (try simp only [List.getElem_toArray, List.getElem_cons_succ, List.getElem_cons_zero, Act.put, List.setIfInBounds_toArray, List.set_cons_zero, List.set_cons_succ])
      refine wpAnyH_take (i := 5) (oi := _) (v := ?_) rfl (by kernel_rfl) (by kernel_rfl) (by kernel_rfl) (fun _ _ _ h => h) (Or.inl ⟨by rfl, ?_⟩) (by assumption) ?_
      rotate_left
      · (intro w' hSw; obtain ⟨z0, z1⟩ := hSw; go_simp; try with_reducible rfl)
      (try simp only [List.getElem_toArray, List.getElem_cons_succ, List.getElem_cons_zero, Act.put, List.setIfInBounds_toArray, List.set_cons_zero, List.set_cons_succ])
      refine wpAnyH_take (i := 6) (oi := _) (v := ?_) rfl (by kernel_rfl) (by kernel_rfl) (by kernel_rfl) (fun _ _ _ h => h) (Or.inl ⟨by rfl, ?_⟩) (by assumption) ?_
      rotate_left
      · (intro w' hSw; obtain ⟨z0, z1⟩ := hSw; go_simp; try with_reducible rfl)
      (try simp only [List.getElem_toArray, List.getElem_cons_succ, List.getElem_cons_zero, Act.put, List.setIfInBounds_toArray, List.set_cons_zero, List.set_cons_succ])
      refine wpAnyH_take (i := 7) (oi := _) (v := ?_) rfl (by kernel_rfl) (by kernel_rfl) (by kernel_rfl) (fun _ _ _ h => h) (Or.inl ⟨by rfl, ?_⟩) (by assumption) ?_
      rotate_left
      · (intro w' hSw; obtain ⟨z0, z1⟩ := hSw; go_simp; try with_reducible rfl)
      (try simp only [List.getElem_toArray, List.getElem_cons_succ, List.getElem_cons_zero, Act.put, List.setIfInBounds_toArray, List.set_cons_zero, List.set_cons_succ])
      refine wpAnyH_take (i := 8) (oi := _) (v := ?_) rfl (by kernel_rfl) (by kernel_rfl) (by kernel_rfl) (fun _ _ _ h => h) (Or.inl ⟨by rfl, ?_⟩) (by assumption) ?_
      rotate_left
      · (intro w' hSw; obtain ⟨z0, z1⟩ := hSw; go_simp; try with_reducible rfl)
      (try simp only [List.getElem_toArray, List.getElem_cons_succ, List.getElem_cons_zero, Act.put, List.setIfInBounds_toArray, List.set_cons_zero, List.set_cons_succ])
      refine wpAnyH_take (i := 9) (oi := _) (v := ?_) rfl (by kernel_rfl) (by kernel_rfl) (by kernel_rfl) (fun _ _ _ h => h) (Or.inl ⟨by rfl, ?_⟩) (by assumption) ?_
      rotate_left
      · (intro w' hSw; obtain ⟨z0, z1⟩ := hSw; go_simp; try with_reducible rfl)
      (try simp only [List.getElem_toArray, List.getElem_cons_succ, List.getElem_cons_zero, Act.put, List.setIfInBounds_toArray, List.set_cons_zero, List.set_cons_succ])
      refine wpAnyH_take (i := 10) (oi := _) (v := ?_) rfl (by kernel_rfl) (by kernel_rfl) (by kernel_rfl) (fun _ _ _ h => h) (Or.inl ⟨by rfl, ?_⟩) (by assumption) ?_
      rotate_left
      · (intro w' hSw; obtain ⟨z0, z1⟩ := hSw; go_simp; try with_reducible rfl)
      (try simp only [List.getElem_toArray, List.getElem_cons_succ, List.getElem_cons_zero, Act.put, List.setIfInBounds_toArray, List.set_cons_zero, List.set_cons_succ])
      refine wpAnyH_ready (rs := [0]) (by kernel_rfl) (by simp) ?_
      refine AllReadyH.cons (o := _) rfl (fun K hK => ?_) AllReadyH.nil
      obtain ⟨k0, k1, k2, k3⟩ := st_cells HXY.out
      go_simp
      clear k0 k1 k2 k3
      try dsimp only
      refine hK.out _ _ (HS.out _ HB0.out) (fun _ => ?_)
      clear hK K
      (try simp only [List.getElem_toArray, List.getElem_cons_succ, List.getElem_cons_zero, Act.put, List.setIfInBounds_toArray, List.set_cons_zero, List.set_cons_succ])
      refine wpAnyH_ready (rs := [11]) (by kernel_rfl) (by simp) ?_
      refine AllReadyH.cons (o := _) rfl (fun K hK => ?_) AllReadyH.nil
      go_simp
      refine (emit_sx 1 us3 y0 ac2 cc2 av2 cv2 ar2 cr2 mk.fresh vs2 rs2 ⟨8, 0, mk.next, t.hd.s, t.hd.n, false⟩ (fit_s _ _ _ _ _ (by omega) (by omega) (by omega) hts1 ⟨hts2, hts3⟩) (HU3.out y0 HYS.out) HSY.out hml).mono ?_
      rintro r z6 ⟨a5, c5, rfl, hs6, hb6⟩
      have HX6 := mkHid ((hb6.block w.heap.size (by have := HZ1.out; have := HZR.out; have := HYS.out; omega)).trans HXY.out)
      have HS6 := mkHid hs6
      have HA6 := mkHid (HAY.out.below hb6)
      have HF7 := mkHid (HFY.out.trans (Fr.of hb6))
      have HB6 : Hid (Fr [w.heap.size] y0 z6) := Fr.of hb6
      have HZ6 : Hid (wr.heap.size ≤ z6.heap.size) := by have := HYS.out; have := hb6.size; rw [Hid]; omega
      clear hs6 hb6 HXY HSY HFY HAY
      try dsimp only
      refine hK.out _ _ (HS.out _ HB6.out) (fun _ => ?_)
      clear hK K
      (try simp only [List.getElem_toArray, List.getElem_cons_succ, List.getElem_cons_zero, Act.put, List.setIfInBounds_toArray, List.set_cons_zero, List.set_cons_succ])
      refine wpAnyH_ready (rs := [12]) (by kernel_rfl) (by simp) ?_
      refine AllReadyH.cons (o := _) rfl (fun K hK => ?_) AllReadyH.nil
      obtain ⟨k0, k1, k2, k3⟩ := st_cells HX6.out
      obtain ⟨f0, f1, f2, f3⟩ := st_free HX6.out
      have HSB7 := mkHid (SB.mono (SB.stored HX6.out H03.out HS6.out) (show (1 : Int) - 1 ≤ 0 by omega))
      have HFF := mkHid ((Fr.refl [w.heap.size] z6).four (g := w.heap.size) (by simp) (.slice a5 (mk.fresh.lay ⟨8, 0, mk.next, t.hd.s, t.hd.n, false⟩).code.length c5) (.int .i64 (mk.fresh.lay ⟨8, 0, mk.next, t.hd.s, t.hd.n, false⟩).next) (.slice av2 vs2.length cv2) (.slice ar2 rs2.length cr2))
      have HA7 : Hid (AccInv w1.heap.size 3 qs (.slice aU qs.length cU) (((((z6.setCell ⟨w.heap.size, 0, none⟩ (.slice a5 (mk.fresh.lay ⟨8, 0, mk.next, t.hd.s, t.hd.n, false⟩).code.length c5)).setCell ⟨w.heap.size, 1, none⟩ (.int .i64 (mk.fresh.lay ⟨8, 0, mk.next, t.hd.s, t.hd.n, false⟩).next)).setCell ⟨w.heap.size, 2, none⟩ (.slice av2 vs2.length cv2)).setCell ⟨w.heap.size, 3, none⟩ (.slice ar2 rs2.length cr2)))) := HA6.out.blockN (fun h => h) fun b e => HFF.out.block b (HA6.out.lt b e).2 (by have := (HA6.out.lt b e).1; have := HZ1.out; simp; omega)
      have HF8 := mkHid (HF7.out.trans HFF.out)
      have HB8 := mkHid (HB6.out.trans HFF.out)
      have HZ7 : Hid (wr.heap.size ≤ ((((((z6.setCell ⟨w.heap.size, 0, none⟩ (.slice a5 (mk.fresh.lay ⟨8, 0, mk.next, t.hd.s, t.hd.n, false⟩).code.length c5)).setCell ⟨w.heap.size, 1, none⟩ (.int .i64 (mk.fresh.lay ⟨8, 0, mk.next, t.hd.s, t.hd.n, false⟩).next)).setCell ⟨w.heap.size, 2, none⟩ (.slice av2 vs2.length cv2)).setCell ⟨w.heap.size, 3, none⟩ (.slice ar2 rs2.length cr2)))).heap.size) := by have := HZ6.out; have := HFF.out.size; rw [Hid]; omega
      go_simp
      clear k0 k1 k2 k3 f0 f1 f2 f3
      try dsimp only
      refine hK.out _ _ (HS.out _ HB8.out) (fun _ => ?_)
      clear hK K
      (try simp only [List.getElem_toArray, List.getElem_cons_succ, List.getElem_cons_zero, Act.put, List.setIfInBounds_toArray, List.set_cons_zero, List.set_cons_succ])
      refine wpAnyH_done (by kernel_rfl) (NoPanic.normal ?_) _
      clear HS hSd HX6 HS6 HA6 HF7 HB6 HFF HB8 HB0 d1 d2 HZ6
      generalize (((((z6.setCell ⟨w.heap.size, 0, none⟩ (.slice a5 (mk.fresh.lay ⟨8, 0, mk.next, t.hd.s, t.hd.n, false⟩).code.length c5)).setCell ⟨w.heap.size, 1, none⟩ (.int .i64 (mk.fresh.lay ⟨8, 0, mk.next, t.hd.s, t.hd.n, false⟩).next)).setCell ⟨w.heap.size, 2, none⟩ (.slice av2 vs2.length cv2)).setCell ⟨w.heap.size, 3, none⟩ (.slice ar2 rs2.length cr2))) = w9 at *
      have hw9 : w.heap.size + 2 ≤ w9.heap.size := by have := HZ7.out; have := HZR.out; have := HZ1.out; omega
      have HU9 : Hid (∀ X : World, w9.heap.size ≤ X.heap.size → ∀ k ∈ us3, k < X.heap.size) := fun X hX => HU3.out X (by have := HZ7.out; omega)
      go_wp2_with fail
      obtain ⟨m2, hm2⟩ : ∃ m2, mk.fresh.lay ⟨8, 0, mk.next, t.hd.s, t.hd.n, false⟩ = m2 := ⟨_, rfl⟩
      rw [hm2] at HSB7
      have hst : structS t m = (setsS t.args gs m2, mk.next) := by
        rw [← hm2, HME.out, ← HGS.out]
        cases t with
        | mk c ts => rfl
      have HST := mkHid hst
      have HCL2 : Hid ((setsS t.args gs m2).code.length ≤ 10000) := by have h := HCL.out; rw [hst] at h; exact h
      have HF19 := HF8
      have HFZ : Hid (Fr [w.heap.size] w9 w9) := Fr.refl _ _
      obtain ⟨a9, c9, e9, hr9⟩ := HA7.out.row
      injection e9 with e91 e92 e93
      subst e91
      subst e93
      have HR9 := mkHid hr9
      have HOB : Hid (∀ b, (Value.slice aU qs.length cU).ownBlock = some b → w1.heap.size ≤ b ∧ b < w9.heap.size) := HA7.out.lt
      clear hm2 hst HF8 e92 hr9 HA7
      go_loopw [11] (fun i wr => ∃ k : Nat, k ≤ t.args.length ∧ i = .int .i64 k ∧ Hid (Fr [w.heap.size] w9 wr) ∧ Hid (SB 0 us3 wr w.heap.size (setsS (t.args.take k) (gs.take k) m2))) (fun i wr => t.args.length - (intOf i).toNat)
      case atStart => exact ⟨0, Nat.zero_le _, rfl, HFZ, by rw [Hid]; simpa [setsS] using HSB7.out⟩
      case round =>
        clear HSB7 HFZ
        obtain ⟨k, hk, rfl, HF, HSB⟩ := hrel
        have HZR : Hid (w9.heap.size ≤ wr.heap.size) := HF.out.size
        have HF1 := mkHid (HF19.out.trans HF.out)
        have HTR := mkHid (HT1.out.keeps (veil_toR (us := us2) (HF1.out.sub fun k hk => by simp at hk; subst hk; exact H02.out.1) HIN3.out))
        obtain ⟨mj, hmj⟩ : ∃ mj, setsS (t.args.take k) (gs.take k) m2 = mj := ⟨_, rfl⟩
        have HMJ := mkHid hmj
        rw [hmj] at HSB
        have hml : mj.code.length ≤ 10000 := by
          have h1 := setsS_upto t.args gs k m2
          have h2 := HCL2.out
          rw [← hmj]
          omega
        obtain ⟨ac2, cc2, av2, cv2, ar2, cr2, vs2, rs2, hx, hsx⟩ := HSB.out
        have HX := mkHid hx
        have HSX := mkHid hsx
        clear hx hsx HSB hmj
        by_cases hlt : k < t.args.length
        · have hltw : k < ws.length := by have := HWL.out; omega
          obtain ⟨gl, hal, hglB, hgls, hglc⟩ := HLA.out k hltw
          have hglB2 : w.heap.size + 2 ≤ gl := by have := HZ.out; omega
          subst hal
          obtain ⟨u, hue⟩ : ∃ u, t.args[k] = u := ⟨_, rfl⟩
          have hum : u ∈ t.args := by rw [← hue]; exact List.getElem_mem hlt
          obtain ⟨a3, c3, hwk, hr3⟩ := (HSL.out (veil us3 wr) HTR.out).row k ws[k] u.flat (List.getElem?_eq_getElem hltw) (by rw [List.getElem?_map, List.getElem?_eq_getElem hlt, hue]; rfl)
          rw [hwk] at hglc
          have hgl2 : wr.cell? ⟨gl, k, none⟩ = some (.slice a3 u.flat.length c3) := (World.cell?_of_block (w := w1) (a := ⟨gl, k, none⟩) (HF1.out.block gl hgls (by simp; omega))).trans hglc
          have huk : kindOk u.hd := KindsL.mem HKS.out u hum
          have hpu := flat_pos u
          obtain ⟨b3, o3, rfl, hb3, hat3⟩ := hr3.cases.resolve_left (fun e => by rw [e] at hpu; simp at hpu)
          have hcv := cel_at hat3 (Below.refl _ _) hpu
          have hce : u.flat[0] = u.hd := by simp only [flat_cons, List.getElem_cons_zero]
          rw [hce] at hcv
          obtain ⟨hc0, hc1, hc2, hcf⟩ := hcv
          rw [Nat.zero_mul, Nat.add_zero] at hc0 hc1 hc2
          obtain ⟨hb3u, c0⟩ := veil_cell hc0
          have c2 := (veil_cell hc2).2
          have hb3n : b3 ≠ w.heap.size := fun e => hb3u (by rw [e]; exact H03.out)
          have hf1 := hcf.n1
          have hf2 := hcf.n2
          have hle3 := hr3.le
          have hmx3 := hr3.max
          obtain ⟨m3, hm3⟩ : ∃ m3, u.flat.length = m3 + 1 := ⟨u.flat.length - 1, by omega⟩
          rw [hm3] at hgl2 hle3
          have hkg : k < gs.length := by have := HGL.out; omega
          have hnx := setsS_next hlt hkg m2
          rw [hue, HMJ.out] at hnx
          clear hwk hglc hr3 hat3 hc0 hc1 hc2 hcf hce hltw hm3 hb3 hpu hum
          rcases huk with h1 | h2 | h3'
          · rw [h1] at c0
            have hvr := var_reg mj u.hd.n 9 10 0
            obtain ⟨M, R, F, hM⟩ : ∃ M R F, regM mj u.hd.n = (M, R, F) := ⟨_, _, _, rfl⟩
            rw [hM] at hvr
            have HN1 : Hid (setsS (t.args.take (k + 1)) (gs.take (k + 1)) m2 = M.lay ⟨if F then 9 else 10, R, 0, ⟨#[]⟩, 0, false⟩) := by rw [Hid, hnx]; unfold setS; rw [if_pos h1]; exact hvr
            have hMc : M.code.length = mj.code.length := by have := regM_code mj u.hd.n; rw [hM] at this; rw [this]
            have HM := mkHid hM
            have hMl : M.code.length ≤ 10000 := by omega
            clear hnx hvr hM h1 hMc
            go_wp2_with fail
            refine wp_region_noPanic ?_
            obtain ⟨y0, hv0⟩ : ∃ X, wr.drew = X := ⟨_, rfl⟩
            have hbd : Below wr.heap.size wr y0 := by rw [← hv0]; exact (Below.refl _ _).drew
            have HXY := mkHid ((hbd.block w.heap.size (by have := HZR.out; omega)).trans HX.out)
            have HSY := mkHid (HSX.out.on (Fr.of hbd))
            have HFY := mkHid (HF.out.trans (Fr.of hbd))
            have HZY : Hid (w9.heap.size ≤ y0.heap.size) := by have := HZR.out; have := hbd.size; rw [Hid]; omega
            have d0 := mkHid (keep hgl2 hbd)
            have d1 := mkHid (keep c2 hbd)
            have HS : Hid (∀ X, Below y0.heap.size y0 X → (fun X : World => (X.cell? ⟨w.heap.size, 0, none⟩ = some (.slice ac2 mj.code.length cc2) ∧ X.cell? ⟨w.heap.size, 1, none⟩ = some (.int .i64 mj.next) ∧ X.cell? ⟨w.heap.size, 2, none⟩ = some (.slice av2 vs2.length cv2) ∧ X.cell? ⟨w.heap.size, 3, none⟩ = some (.slice ar2 rs2.length cr2)) ∧ X.cell? ⟨gl, k, none⟩ = some (.slice (some ⟨b3, o3, none⟩) (m3 + 1) c3) ∧ X.cell? ⟨b3, o3 + 2, none⟩ = some (.int .i64 u.hd.n)) X) := fun X h => by
              obtain ⟨q0, q1, q2, q3⟩ := st_cells HXY.out
              exact ⟨⟨keep q0 h, keep q1 h, keep q2 h, keep q3 h⟩, keep d0.out h, keep d1.out h⟩
            refine wp_region_held_drew (S := fun X : World => (X.cell? ⟨w.heap.size, 0, none⟩ = some (.slice ac2 mj.code.length cc2) ∧ X.cell? ⟨w.heap.size, 1, none⟩ = some (.int .i64 mj.next) ∧ X.cell? ⟨w.heap.size, 2, none⟩ = some (.slice av2 vs2.length cv2) ∧ X.cell? ⟨w.heap.size, 3, none⟩ = some (.slice ar2 rs2.length cr2)) ∧ X.cell? ⟨gl, k, none⟩ = some (.slice (some ⟨b3, o3, none⟩) (m3 + 1) c3) ∧ X.cell? ⟨b3, o3 + 2, none⟩ = some (.int .i64 u.hd.n)) (by kernel_rfl) (by rw [hv0]; exact HS.out _ (Below.refl _ _)) (fun hSd => ?_)
            rw [hv0] at hSd ⊢
            have HB0 := mkHid (Below.refl y0.heap.size y0)
            clear hv0 hbd c0 c2 hgl2 HX HSX HF HZR HTR
            refine wpAnyH_take (i := 0) (oi := _) (v := ?_) rfl (by kernel_rfl) (by kernel_rfl) (by kernel_rfl) (fun _ _ _ h => h) (Or.inl ⟨by rfl, ?_⟩) (by assumption) ?_
            rotate_left
            · (intro w' hSw; obtain ⟨⟨z0, z1, z2, z3⟩, z4, z5⟩ := hSw; go_simp; try with_reducible rfl)
            (try simp only [List.getElem_toArray, List.getElem_cons_succ, List.getElem_cons_zero, Act.put, List.setIfInBounds_toArray, List.set_cons_zero, List.set_cons_succ])
            refine wpAnyH_take (i := 1) (oi := _) (v := ?_) rfl (by kernel_rfl) (by kernel_rfl) (by kernel_rfl) (fun _ _ _ h => h) (Or.inl ⟨by rfl, ?_⟩) (by assumption) ?_
            rotate_left
            · (intro w' hSw; obtain ⟨⟨z0, z1, z2, z3⟩, z4, z5⟩ := hSw; go_simp; try with_reducible rfl)
            (try simp only [List.getElem_toArray, List.getElem_cons_succ, List.getElem_cons_zero, Act.put, List.setIfInBounds_toArray, List.set_cons_zero, List.set_cons_succ])
            refine wpAnyH_take (i := 2) (oi := _) (v := ?_) rfl (by kernel_rfl) (by kernel_rfl) (by kernel_rfl) (fun _ _ _ h => h) (Or.inl ⟨by rfl, ?_⟩) (by assumption) ?_
            rotate_left
            · (intro w' hSw; obtain ⟨⟨z0, z1, z2, z3⟩, z4, z5⟩ := hSw; go_simp; try with_reducible rfl)
            (try simp only [List.getElem_toArray, List.getElem_cons_succ, List.getElem_cons_zero, Act.put, List.setIfInBounds_toArray, List.set_cons_zero, List.set_cons_succ])
            refine wpAnyH_take (i := 3) (oi := _) (v := ?_) rfl (by kernel_rfl) (by kernel_rfl) (by kernel_rfl) (fun _ _ _ h => h) (Or.inl ⟨by rfl, ?_⟩) (by assumption) ?_
            rotate_left
            · (intro w' hSw; obtain ⟨⟨z0, z1, z2, z3⟩, z4, z5⟩ := hSw; go_simp; try with_reducible rfl)
            (try simp only [List.getElem_toArray, List.getElem_cons_succ, List.getElem_cons_zero, Act.put, List.setIfInBounds_toArray, List.set_cons_zero, List.set_cons_succ])
            refine wpAnyH_take (i := 4) (oi := _) (v := ?_) rfl (by kernel_rfl) (by kernel_rfl) (by kernel_rfl) (fun _ _ _ h => h) (Or.inl ⟨by rfl, ?_⟩) (by assumption) ?_
            rotate_left
            · (intro w' hSw; obtain ⟨⟨z0, z1, z2, z3⟩, z4, z5⟩ := hSw; go_simp; try with_reducible rfl)
            (try simp only [List.getElem_toArray, List.getElem_cons_succ, List.getElem_cons_zero, Act.put, List.setIfInBounds_toArray, List.set_cons_zero, List.set_cons_succ])
            refine wpAnyH_take (i := 5) (oi := _) (v := ?_) rfl (by kernel_rfl) (by kernel_rfl) (by kernel_rfl) (fun _ _ _ h => h) (Or.inl ⟨by rfl, ?_⟩) (by assumption) ?_
            rotate_left
            · (intro w' hSw; obtain ⟨⟨z0, z1, z2, z3⟩, z4, z5⟩ := hSw; go_simp; try with_reducible rfl)
            (try simp only [List.getElem_toArray, List.getElem_cons_succ, List.getElem_cons_zero, Act.put, List.setIfInBounds_toArray, List.set_cons_zero, List.set_cons_succ])
            refine wpAnyH_take (i := 6) (oi := _) (v := ?_) rfl (by kernel_rfl) (by kernel_rfl) (by kernel_rfl) (fun _ _ _ h => h) (Or.inl ⟨by rfl, ?_⟩) (by assumption) ?_
            rotate_left
            · (intro w' hSw; obtain ⟨⟨z0, z1, z2, z3⟩, z4, z5⟩ := hSw; go_simp; try with_reducible rfl)
            (try simp only [List.getElem_toArray, List.getElem_cons_succ, List.getElem_cons_zero, Act.put, List.setIfInBounds_toArray, List.set_cons_zero, List.set_cons_succ])
            refine wpAnyH_take (i := 7) (oi := _) (v := ?_) rfl (by kernel_rfl) (by kernel_rfl) (by kernel_rfl) (fun _ _ _ h => h) (Or.inl ⟨by rfl, ?_⟩) (by assumption) ?_
            rotate_left
            · (intro w' hSw; obtain ⟨⟨z0, z1, z2, z3⟩, z4, z5⟩ := hSw; go_simp; try with_reducible rfl)
            (try simp only [List.getElem_toArray, List.getElem_cons_succ, List.getElem_cons_zero, Act.put, List.setIfInBounds_toArray, List.set_cons_zero, List.set_cons_succ])
            refine wpAnyH_ready (rs := [8, 13]) (by kernel_rfl) (by simp) ?_
            refine AllReadyH.cons (o := _) rfl (fun K hK => ?_) ?_
            · go_simp
              refine (register_sy us3 y0 ac2 cc2 av2 cv2 ar2 cr2 mj vs2 rs2 u.hd.n M R F HM.out hf1 hf2 (HU9.out y0 HZY.out) HSY.out hml).mono ?_
              rintro r y1 ⟨av4, cv4, ar4, cr4, vs4, rs4, rfl, hRb, hs4, hb4⟩
              have HBC := mkHid (HB0.out.trans (hb4.mono HB0.out.size))
              have HS1 := mkHid hs4
              clear hs4 hb4
              try dsimp only
              refine hK.out _ _ (HS.out _ HBC.out) (fun _ => ?_)
              clear hK K
              (try simp only [List.getElem_toArray, List.getElem_cons_succ, List.getElem_cons_zero, Act.put, List.setIfInBounds_toArray, List.set_cons_zero, List.set_cons_succ])
              refine wpAnyH_take (i := 9) (oi := _) (v := ?_) rfl (by kernel_rfl) (by kernel_rfl) (by kernel_rfl) (fun _ _ _ h => h) (Or.inl ⟨by rfl, ?_⟩) (by assumption) ?_
              rotate_left
              · (intro w' hSw; obtain ⟨⟨z0, z1, z2, z3⟩, z4, z5⟩ := hSw; go_simp; try with_reducible rfl)
              (try simp only [List.getElem_toArray, List.getElem_cons_succ, List.getElem_cons_zero, Act.put, List.setIfInBounds_toArray, List.set_cons_zero, List.set_cons_succ])
              refine wpAnyH_take (i := 10) (oi := _) (v := ?_) rfl (by kernel_rfl) (by kernel_rfl) (by kernel_rfl) (fun _ _ _ h => h) (Or.inl ⟨by rfl, ?_⟩) (by assumption) ?_
              rotate_left
              · (intro w' hSw; obtain ⟨⟨z0, z1, z2, z3⟩, z4, z5⟩ := hSw; go_simp; try with_reducible rfl)
              (try simp only [List.getElem_toArray, List.getElem_cons_succ, List.getElem_cons_zero, Act.put, List.setIfInBounds_toArray, List.set_cons_zero, List.set_cons_succ])
              refine wpAnyH_take (i := 11) (oi := _) (v := ?_) rfl (by kernel_rfl) (by kernel_rfl) (by kernel_rfl) (fun _ _ _ h => h) (Or.inl ⟨by rfl, ?_⟩) (by assumption) ?_
              rotate_left
              · (intro w' hSw; obtain ⟨⟨z0, z1, z2, z3⟩, z4, z5⟩ := hSw; go_simp; try with_reducible rfl)
              (try simp only [List.getElem_toArray, List.getElem_cons_succ, List.getElem_cons_zero, Act.put, List.setIfInBounds_toArray, List.set_cons_zero, List.set_cons_succ])
              refine wpAnyH_take (i := 12) (oi := _) (v := ?_) rfl (by kernel_rfl) (by kernel_rfl) (by kernel_rfl) (fun _ _ _ h => h) (Or.inl ⟨by rfl, ?_⟩) (by assumption) ?_
              rotate_left
              · (intro w' hSw; obtain ⟨⟨z0, z1, z2, z3⟩, z4, z5⟩ := hSw; go_simp; try with_reducible rfl)
              (try simp only [List.getElem_toArray, List.getElem_cons_succ, List.getElem_cons_zero, Act.put, List.setIfInBounds_toArray, List.set_cons_zero, List.set_cons_succ])
              refine wpAnyH_ready (rs := [13]) (by kernel_rfl) (by simp) ?_
              refine AllReadyH.cons (o := _) rfl (fun K hK => ?_) AllReadyH.nil
              go_simp
              have HBN := mkHid (HBC.out.trans ((Below.refl y1.heap.size y1).new (.cells #[.slice none 0 0, .int .i64 0, .slice none 0 0, .slice none 0 0] 104) |>.mono HBC.out.size))
              have HG : Hid ((y1.alloc (.cells #[.slice none 0 0, .int .i64 0, .slice none 0 0, .slice none 0 0] 104)).heap[y1.heap.size]? = some (.cells #[.slice none 0 0, .int .i64 0, .slice none 0 0, .slice none 0 0] 104 (0, 0))) := heap_alloc_new _ _
              have HGY : Hid (y0.heap.size ≤ y1.heap.size) := HBC.out.size
              have HSN : Hid (SX 1 (y1.heap.size :: us3) (y1.alloc (.cells #[.slice none 0 0, .int .i64 0, .slice none 0 0, .slice none 0 0] 104)) ac2 cc2 av4 cv4 ar4 cr4 M vs4 rs4) := HS1.out.to (Fr.of ((Below.refl _ _).new _)) fun k hk => by
                rcases List.mem_cons.1 hk with rfl | hk
                · right; exact Nat.le_refl _
                · exact .inl hk
              clear HS1 HBC
              try dsimp only
              refine hK.out _ _ (HS.out _ HBN.out) (fun _ => ?_)
              clear hK K
              (try simp only [List.getElem_toArray, List.getElem_cons_succ, List.getElem_cons_zero, Act.put, List.setIfInBounds_toArray, List.set_cons_zero, List.set_cons_succ])
              generalize (y1.alloc (.cells #[.slice none 0 0, .int .i64 0, .slice none 0 0, .slice none 0 0] 104)) = yz at *
              refine wpAnyH_ready (rs := [14]) (by kernel_rfl) (by simp) ?_
              refine AllReadyH.cons (o := _) rfl (fun K hK => ?_) AllReadyH.nil
              obtain ⟨f0, f1, f2, f3⟩ := st_free HG.out
              obtain ⟨k0, k1, k2, k3⟩ := st_cells HG.out
              have HY4 := mkHid (below_four HBN.out (g := y1.heap.size) HGY.out (.slice ac2 M.code.length cc2) (.int .i64 M.next) (.slice av4 vs4.length cv4) (.slice ar4 rs4.length cr4))
              have HX4 := mkHid ((HY4.out.block w.heap.size (by have := HZY.out; omega)).trans HXY.out)
              have HG4 := mkHid (st_all HG.out (.slice ac2 M.code.length cc2) (.int .i64 M.next) (.slice av4 vs4.length cv4) (.slice ar4 rs4.length cr4))
              have HS4 := mkHid (HSN.out.on ((Fr.refl (y1.heap.size :: us3) yz).four (List.mem_cons_self) (.slice ac2 M.code.length cc2) (.int .i64 M.next) (.slice av4 vs4.length cv4) (.slice ar4 rs4.length cr4)))
              go_simp
              try dsimp only
              refine hK.out _ _ (HS.out _ HY4.out) (fun hSz => ?_)
              clear hK K f0 f1 f2 f3 k0 k1 k2 k3
              (try simp only [List.getElem_toArray, List.getElem_cons_succ, List.getElem_cons_zero, Act.put, List.setIfInBounds_toArray, List.set_cons_zero, List.set_cons_succ])
              refine wpAnyH_take (i := 15) (oi := _) (v := ?_) rfl (by kernel_rfl) (by kernel_rfl) (by kernel_rfl) (fun _ _ _ h => h) (Or.inl ⟨by rfl, ?_⟩) (by assumption) ?_
              rotate_left
              · (intro w' hSw; obtain ⟨⟨z0, z1, z2, z3⟩, z4, z5⟩ := hSw; go_simp; try with_reducible rfl)
              (try simp only [List.getElem_toArray, List.getElem_cons_succ, List.getElem_cons_zero, Act.put, List.setIfInBounds_toArray, List.set_cons_zero, List.set_cons_succ])
              refine wpAnyH_take (i := 16) (oi := _) (v := ?_) rfl (by kernel_rfl) (by kernel_rfl) (by kernel_rfl) (fun _ _ _ h => h) (Or.inl ⟨by rfl, ?_⟩) (by assumption) ?_
              rotate_left
              · (intro w' hSw; obtain ⟨⟨z0, z1, z2, z3⟩, z4, z5⟩ := hSw; go_simp; try with_reducible rfl)
              (try simp only [List.getElem_toArray, List.getElem_cons_succ, List.getElem_cons_zero, Act.put, List.setIfInBounds_toArray, List.set_cons_zero, List.set_cons_succ])
              refine wpAnyH_done (by kernel_rfl) (NoPanic.normal ?_) _
              have HF4 := mkHid (HFY.out.trans (Fr.of HY4.out))
              have HGB : Hid (y1.heap.size ≠ w.heap.size) := by have := HGY.out; have := HZY.out; rw [Hid]; omega
              have HZ4 : Hid (w9.heap.size ≤ ((((yz.setCell ⟨y1.heap.size, 0, none⟩ (.slice ac2 M.code.length cc2)).setCell ⟨y1.heap.size, 1, none⟩ (.int .i64 M.next)).setCell ⟨y1.heap.size, 2, none⟩ (.slice av4 vs4.length cv4)).setCell ⟨y1.heap.size, 3, none⟩ (.slice ar4 rs4.length cr4)).heap.size) := by have := HY4.out.size; have := HZY.out; rw [Hid]; omega
              generalize ((((yz.setCell ⟨y1.heap.size, 0, none⟩ (.slice ac2 M.code.length cc2)).setCell ⟨y1.heap.size, 1, none⟩ (.int .i64 M.next)).setCell ⟨y1.heap.size, 2, none⟩ (.slice av4 vs4.length cv4)).setCell ⟨y1.heap.size, 3, none⟩ (.slice ar4 rs4.length cr4)) = zz at *
              generalize y1.heap.size = g10 at *
              clear HG HSN HBN hSz hSd HS HY4 HSY HXY HFY HZY d0 d1 HGY
              obtain ⟨l0, l1, l2, l3⟩ := st_cells HG4.out
              obtain ⟨k0, k1, k2, k3⟩ := st_cells HX4.out
              obtain ⟨f0, f1, f2, f3⟩ := st_free HX4.out
              have HX5 := mkHid (st_all HX4.out (.slice ac2 M.code.length cc2) (.int .i64 M.next) (.slice av4 vs4.length cv4) (.slice ar4 rs4.length cr4))
              have HF5 := mkHid ((Fr.refl [w.heap.size] zz).four (g := w.heap.size) (by simp) (.slice ac2 M.code.length cc2) (.int .i64 M.next) (.slice av4 vs4.length cv4) (.slice ar4 rs4.length cr4))
              have HS5 := mkHid ((HS4.out.on ((Fr.refl (g10 :: us3) zz).four (g := w.heap.size) (List.mem_cons_of_mem _ H03.out) (.slice ac2 M.code.length cc2) (.int .i64 M.next) (.slice av4 vs4.length cv4) (.slice ar4 rs4.length cr4))).sub (us' := us3) fun k hk => List.mem_cons_of_mem _ hk)
              have HZ5 : Hid (w9.heap.size ≤ ((((zz.setCell ⟨w.heap.size, 0, none⟩ (.slice ac2 M.code.length cc2)).setCell ⟨w.heap.size, 1, none⟩ (.int .i64 M.next)).setCell ⟨w.heap.size, 2, none⟩ (.slice av4 vs4.length cv4)).setCell ⟨w.heap.size, 3, none⟩ (.slice ar4 rs4.length cr4)).heap.size) := by have := HF5.out.size; have := HZ4.out; rw [Hid]; omega
              obtain ⟨p0, p1, p2, p3⟩ := st_cells HX5.out
              have HF6 := mkHid (HF4.out.trans HF5.out)
              cases F
              · go_wp2_with fail
                refine (emit_sx 1 us3 _ ac2 cc2 av4 cv4 ar4 cr4 M vs4 rs4 ⟨10, R, 0, ⟨#[]⟩, 0, false⟩ (fit_w _ _ _ _ (by omega) hRb (by omega) (by omega)) (HU9.out _ HZ5.out) HS5.out hMl).mono ?_
                rintro r z6 ⟨a5, c5, rfl, hs6, hb6⟩
                have HX6 := mkHid ((hb6.block w.heap.size (by have := HZ5.out; omega)).trans HX5.out)
                have HS6 := mkHid hs6
                have HF7 := mkHid (HF6.out.trans (Fr.of hb6))
                clear l0 l1 l2 l3 k0 k1 k2 k3 f0 f1 f2 f3 p0 p1 p2 p3 HX5 HS5 HF6 HX4 HS4 HG4 HF4 HF5 HZ5 HZ4 hs6 hb6
                obtain ⟨k0, k1, k2, k3⟩ := st_cells HX6.out
                obtain ⟨f0, f1, f2, f3⟩ := st_free HX6.out
                have HSB7 := mkHid (SB.stored HX6.out H03.out HS6.out)
                have HSB8 : Hid (SB 0 us3 ((((z6.setCell ⟨w.heap.size, 0, none⟩ (.slice a5 (M.lay ⟨10, R, 0, ⟨#[]⟩, 0, false⟩).code.length c5)).setCell ⟨w.heap.size, 1, none⟩ (.int .i64 (M.lay ⟨10, R, 0, ⟨#[]⟩, 0, false⟩).next)).setCell ⟨w.heap.size, 2, none⟩ (.slice av4 vs4.length cv4)).setCell ⟨w.heap.size, 3, none⟩ (.slice ar4 rs4.length cr4)) w.heap.size (setsS (t.args.take (k + 1)) (gs.take (k + 1)) m2)) := by rw [Hid, HN1.out]; exact HSB7.out
                have HFF := mkHid ((Fr.refl [w.heap.size] z6).four (g := w.heap.size) (by simp) (.slice a5 (M.lay ⟨10, R, 0, ⟨#[]⟩, 0, false⟩).code.length c5) (.int .i64 (M.lay ⟨10, R, 0, ⟨#[]⟩, 0, false⟩).next) (.slice av4 vs4.length cv4) (.slice ar4 rs4.length cr4))
                have HF8 := mkHid (HF7.out.trans HFF.out)
                go_wp2_with fail
                go_round
                case rel => exact ⟨k + 1, by omega, by go_num, HF8, HSB8⟩
                case measure => simp [intOf]; omega
              · go_wp2_with fail
                refine (emit_sx 1 us3 _ ac2 cc2 av4 cv4 ar4 cr4 M vs4 rs4 ⟨9, R, 0, ⟨#[]⟩, 0, false⟩ (fit_w _ _ _ _ (by omega) hRb (by omega) (by omega)) (HU9.out _ HZ5.out) HS5.out hMl).mono ?_
                rintro r z6 ⟨a5, c5, rfl, hs6, hb6⟩
                have HX6 := mkHid ((hb6.block w.heap.size (by have := HZ5.out; omega)).trans HX5.out)
                have HS6 := mkHid hs6
                have HF7 := mkHid (HF6.out.trans (Fr.of hb6))
                clear l0 l1 l2 l3 k0 k1 k2 k3 f0 f1 f2 f3 p0 p1 p2 p3 HX5 HS5 HF6 HX4 HS4 HG4 HF4 HF5 HZ5 HZ4 hs6 hb6
                obtain ⟨k0, k1, k2, k3⟩ := st_cells HX6.out
                obtain ⟨f0, f1, f2, f3⟩ := st_free HX6.out
                have HSB7 := mkHid (SB.stored HX6.out H03.out HS6.out)
                have HSB8 : Hid (SB 0 us3 ((((z6.setCell ⟨w.heap.size, 0, none⟩ (.slice a5 (M.lay ⟨9, R, 0, ⟨#[]⟩, 0, false⟩).code.length c5)).setCell ⟨w.heap.size, 1, none⟩ (.int .i64 (M.lay ⟨9, R, 0, ⟨#[]⟩, 0, false⟩).next)).setCell ⟨w.heap.size, 2, none⟩ (.slice av4 vs4.length cv4)).setCell ⟨w.heap.size, 3, none⟩ (.slice ar4 rs4.length cr4)) w.heap.size (setsS (t.args.take (k + 1)) (gs.take (k + 1)) m2)) := by rw [Hid, HN1.out]; exact HSB7.out
                have HFF := mkHid ((Fr.refl [w.heap.size] z6).four (g := w.heap.size) (by simp) (.slice a5 (M.lay ⟨9, R, 0, ⟨#[]⟩, 0, false⟩).code.length c5) (.int .i64 (M.lay ⟨9, R, 0, ⟨#[]⟩, 0, false⟩).next) (.slice av4 vs4.length cv4) (.slice ar4 rs4.length cr4))
                have HF8 := mkHid (HF7.out.trans HFF.out)
                go_wp2_with fail
                go_round
                case rel => exact ⟨k + 1, by omega, by go_num, HF8, HSB8⟩
                case measure => simp [intOf]; omega
            refine AllReadyH.cons (o := _) rfl (fun K hK => ?_) AllReadyH.nil
            go_simp
            have HB1' := mkHid (HB0.out.new (.cells #[.slice none 0 0, .int .i64 0, .slice none 0 0, .slice none 0 0] 104))
            have HG0 : Hid ((y0.alloc (.cells #[.slice none 0 0, .int .i64 0, .slice none 0 0, .slice none 0 0] 104)).heap[y0.heap.size]? = some (.cells #[.slice none 0 0, .int .i64 0, .slice none 0 0, .slice none 0 0] 104 (0, 0))) := heap_alloc_new _ _
            have HSN0 : Hid (SX 0 (y0.heap.size :: us3) (y0.alloc (.cells #[.slice none 0 0, .int .i64 0, .slice none 0 0, .slice none 0 0] 104)) ac2 cc2 av2 cv2 ar2 cr2 mj vs2 rs2) := HSY.out.to (Fr.of ((Below.refl _ _).new _)) fun k hk => by
              rcases List.mem_cons.1 hk with rfl | hk
              · right; exact Nat.le_refl _
              · exact .inl hk
            have HUN : Hid (∀ k ∈ y0.heap.size :: us3, k < (y0.alloc (.cells #[.slice none 0 0, .int .i64 0, .slice none 0 0, .slice none 0 0] 104)).heap.size) := by
              intro k hk
              rw [World.size_alloc]
              rcases List.mem_cons.1 hk with rfl | hk
              · omega
              · have := HU9.out y0 HZY.out k hk; omega
            have hsz : (y0.alloc (.cells #[.slice none 0 0, .int .i64 0, .slice none 0 0, .slice none 0 0] 104)).heap.size = y0.heap.size + 1 := World.size_alloc _ _
            have HSZ := mkHid hsz
            clear hsz
            try dsimp only
            refine hK.out _ _ (HS.out _ HB1'.out) (fun _ => ?_)
            clear hK K
            (try simp only [List.getElem_toArray, List.getElem_cons_succ, List.getElem_cons_zero, Act.put, List.setIfInBounds_toArray, List.set_cons_zero, List.set_cons_succ])
            refine wpAnyH_ready (rs := [8]) (by kernel_rfl) (by simp) ?_
            refine AllReadyH.cons (o := _) rfl (fun K hK => ?_) AllReadyH.nil
            go_simp
            refine (register_sy (y0.heap.size :: us3) (y0.alloc (.cells #[.slice none 0 0, .int .i64 0, .slice none 0 0, .slice none 0 0] 104)) ac2 cc2 av2 cv2 ar2 cr2 mj vs2 rs2 u.hd.n M R F HM.out hf1 hf2 HUN.out HSN0.out hml).mono ?_
            rintro r y1 ⟨av4, cv4, ar4, cr4, vs4, rs4, rfl, hRb, hs4, hb4⟩
            have HBC := mkHid (HB1'.out.trans (hb4.mono HB1'.out.size))
            have HS1 := mkHid hs4
            have HG : Hid (y1.heap[y0.heap.size]? = some (.cells #[.slice none 0 0, .int .i64 0, .slice none 0 0, .slice none 0 0] 104 (0, 0))) := (hb4.block y0.heap.size (by rw [HSZ.out]; omega)).trans HG0.out
            have HGY : Hid (y0.heap.size ≤ y0.heap.size) := Nat.le_refl _
            have HSN := HS1
            have HBN := HBC
            clear HS1 HG0 HSN0 hs4 hb4 HUN HSZ
            try dsimp only
            refine hK.out _ _ (HS.out _ HBC.out) (fun _ => ?_)
            clear hK K
            (try simp only [List.getElem_toArray, List.getElem_cons_succ, List.getElem_cons_zero, Act.put, List.setIfInBounds_toArray, List.set_cons_zero, List.set_cons_succ])
            clear HBC
            refine wpAnyH_take (i := 9) (oi := _) (v := ?_) rfl (by kernel_rfl) (by kernel_rfl) (by kernel_rfl) (fun _ _ _ h => h) (Or.inl ⟨by rfl, ?_⟩) (by assumption) ?_
            rotate_left
            · (intro w' hSw; obtain ⟨⟨z0, z1, z2, z3⟩, z4, z5⟩ := hSw; go_simp; try with_reducible rfl)
            (try simp only [List.getElem_toArray, List.getElem_cons_succ, List.getElem_cons_zero, Act.put, List.setIfInBounds_toArray, List.set_cons_zero, List.set_cons_succ])
            refine wpAnyH_take (i := 10) (oi := _) (v := ?_) rfl (by kernel_rfl) (by kernel_rfl) (by kernel_rfl) (fun _ _ _ h => h) (Or.inl ⟨by rfl, ?_⟩) (by assumption) ?_
            rotate_left
            · (intro w' hSw; obtain ⟨⟨z0, z1, z2, z3⟩, z4, z5⟩ := hSw; go_simp; try with_reducible rfl)
            (try simp only [List.getElem_toArray, List.getElem_cons_succ, List.getElem_cons_zero, Act.put, List.setIfInBounds_toArray, List.set_cons_zero, List.set_cons_succ])
            refine wpAnyH_take (i := 11) (oi := _) (v := ?_) rfl (by kernel_rfl) (by kernel_rfl) (by kernel_rfl) (fun _ _ _ h => h) (Or.inl ⟨by rfl, ?_⟩) (by assumption) ?_
            rotate_left
            · (intro w' hSw; obtain ⟨⟨z0, z1, z2, z3⟩, z4, z5⟩ := hSw; go_simp; try with_reducible rfl)
            (try simp only [List.getElem_toArray, List.getElem_cons_succ, List.getElem_cons_zero, Act.put, List.setIfInBounds_toArray, List.set_cons_zero, List.set_cons_succ])
            refine wpAnyH_take (i := 12) (oi := _) (v := ?_) rfl (by kernel_rfl) (by kernel_rfl) (by kernel_rfl) (fun _ _ _ h => h) (Or.inl ⟨by rfl, ?_⟩) (by assumption) ?_
            rotate_left
            · (intro w' hSw; obtain ⟨⟨z0, z1, z2, z3⟩, z4, z5⟩ := hSw; go_simp; try with_reducible rfl)
            (try simp only [List.getElem_toArray, List.getElem_cons_succ, List.getElem_cons_zero, Act.put, List.setIfInBounds_toArray, List.set_cons_zero, List.set_cons_succ])
            refine wpAnyH_ready (rs := [14]) (by kernel_rfl) (by simp) ?_
            refine AllReadyH.cons (o := _) rfl (fun K hK => ?_) AllReadyH.nil
            obtain ⟨f0, f1, f2, f3⟩ := st_free HG.out
            obtain ⟨k0, k1, k2, k3⟩ := st_cells HG.out
            have HY4 := mkHid (below_four HBN.out (g := y0.heap.size) HGY.out (.slice ac2 M.code.length cc2) (.int .i64 M.next) (.slice av4 vs4.length cv4) (.slice ar4 rs4.length cr4))
            have HX4 := mkHid ((HY4.out.block w.heap.size (by have := HZY.out; omega)).trans HXY.out)
            have HG4 := mkHid (st_all HG.out (.slice ac2 M.code.length cc2) (.int .i64 M.next) (.slice av4 vs4.length cv4) (.slice ar4 rs4.length cr4))
            have HS4 := mkHid (HSN.out.on ((Fr.refl (y0.heap.size :: us3) y1).four (List.mem_cons_self) (.slice ac2 M.code.length cc2) (.int .i64 M.next) (.slice av4 vs4.length cv4) (.slice ar4 rs4.length cr4)))
            go_simp
            try dsimp only
            refine hK.out _ _ (HS.out _ HY4.out) (fun hSz => ?_)
            clear hK K f0 f1 f2 f3 k0 k1 k2 k3
            (try simp only [List.getElem_toArray, List.getElem_cons_succ, List.getElem_cons_zero, Act.put, List.setIfInBounds_toArray, List.set_cons_zero, List.set_cons_succ])
            refine wpAnyH_take (i := 15) (oi := _) (v := ?_) rfl (by kernel_rfl) (by kernel_rfl) (by kernel_rfl) (fun _ _ _ h => h) (Or.inl ⟨by rfl, ?_⟩) (by assumption) ?_
            rotate_left
            · (intro w' hSw; obtain ⟨⟨z0, z1, z2, z3⟩, z4, z5⟩ := hSw; go_simp; try with_reducible rfl)
            (try simp only [List.getElem_toArray, List.getElem_cons_succ, List.getElem_cons_zero, Act.put, List.setIfInBounds_toArray, List.set_cons_zero, List.set_cons_succ])
            refine wpAnyH_take (i := 16) (oi := _) (v := ?_) rfl (by kernel_rfl) (by kernel_rfl) (by kernel_rfl) (fun _ _ _ h => h) (Or.inl ⟨by rfl, ?_⟩) (by assumption) ?_
            rotate_left
            · (intro w' hSw; obtain ⟨⟨z0, z1, z2, z3⟩, z4, z5⟩ := hSw; go_simp; try with_reducible rfl)
            (try simp only [List.getElem_toArray, List.getElem_cons_succ, List.getElem_cons_zero, Act.put, List.setIfInBounds_toArray, List.set_cons_zero, List.set_cons_succ])
            refine wpAnyH_done (by kernel_rfl) (NoPanic.normal ?_) _
            have HF4 := mkHid (HFY.out.trans (Fr.of HY4.out))
            have HGB : Hid (y0.heap.size ≠ w.heap.size) := by have := HGY.out; have := HZY.out; rw [Hid]; omega
            have HZ4 : Hid (w9.heap.size ≤ ((((y1.setCell ⟨y0.heap.size, 0, none⟩ (.slice ac2 M.code.length cc2)).setCell ⟨y0.heap.size, 1, none⟩ (.int .i64 M.next)).setCell ⟨y0.heap.size, 2, none⟩ (.slice av4 vs4.length cv4)).setCell ⟨y0.heap.size, 3, none⟩ (.slice ar4 rs4.length cr4)).heap.size) := by have := HY4.out.size; have := HZY.out; rw [Hid]; omega
            generalize ((((y1.setCell ⟨y0.heap.size, 0, none⟩ (.slice ac2 M.code.length cc2)).setCell ⟨y0.heap.size, 1, none⟩ (.int .i64 M.next)).setCell ⟨y0.heap.size, 2, none⟩ (.slice av4 vs4.length cv4)).setCell ⟨y0.heap.size, 3, none⟩ (.slice ar4 rs4.length cr4)) = zz at *
            generalize y0.heap.size = g10 at *
            clear HG HSN HBN hSz hSd HS HY4 HSY HXY HFY HZY d0 d1 HGY
            obtain ⟨l0, l1, l2, l3⟩ := st_cells HG4.out
            obtain ⟨k0, k1, k2, k3⟩ := st_cells HX4.out
            obtain ⟨f0, f1, f2, f3⟩ := st_free HX4.out
            have HX5 := mkHid (st_all HX4.out (.slice ac2 M.code.length cc2) (.int .i64 M.next) (.slice av4 vs4.length cv4) (.slice ar4 rs4.length cr4))
            have HF5 := mkHid ((Fr.refl [w.heap.size] zz).four (g := w.heap.size) (by simp) (.slice ac2 M.code.length cc2) (.int .i64 M.next) (.slice av4 vs4.length cv4) (.slice ar4 rs4.length cr4))
            have HS5 := mkHid ((HS4.out.on ((Fr.refl (g10 :: us3) zz).four (g := w.heap.size) (List.mem_cons_of_mem _ H03.out) (.slice ac2 M.code.length cc2) (.int .i64 M.next) (.slice av4 vs4.length cv4) (.slice ar4 rs4.length cr4))).sub (us' := us3) fun k hk => List.mem_cons_of_mem _ hk)
            have HZ5 : Hid (w9.heap.size ≤ ((((zz.setCell ⟨w.heap.size, 0, none⟩ (.slice ac2 M.code.length cc2)).setCell ⟨w.heap.size, 1, none⟩ (.int .i64 M.next)).setCell ⟨w.heap.size, 2, none⟩ (.slice av4 vs4.length cv4)).setCell ⟨w.heap.size, 3, none⟩ (.slice ar4 rs4.length cr4)).heap.size) := by have := HF5.out.size; have := HZ4.out; rw [Hid]; omega
            obtain ⟨p0, p1, p2, p3⟩ := st_cells HX5.out
            have HF6 := mkHid (HF4.out.trans HF5.out)
            cases F
            · go_wp2_with fail
              refine (emit_sx 1 us3 _ ac2 cc2 av4 cv4 ar4 cr4 M vs4 rs4 ⟨10, R, 0, ⟨#[]⟩, 0, false⟩ (fit_w _ _ _ _ (by omega) hRb (by omega) (by omega)) (HU9.out _ HZ5.out) HS5.out hMl).mono ?_
              rintro r z6 ⟨a5, c5, rfl, hs6, hb6⟩
              have HX6 := mkHid ((hb6.block w.heap.size (by have := HZ5.out; omega)).trans HX5.out)
              have HS6 := mkHid hs6
              have HF7 := mkHid (HF6.out.trans (Fr.of hb6))
              clear l0 l1 l2 l3 k0 k1 k2 k3 f0 f1 f2 f3 p0 p1 p2 p3 HX5 HS5 HF6 HX4 HS4 HG4 HF4 HF5 HZ5 HZ4 hs6 hb6
              obtain ⟨k0, k1, k2, k3⟩ := st_cells HX6.out
              obtain ⟨f0, f1, f2, f3⟩ := st_free HX6.out
              have HSB7 := mkHid (SB.stored HX6.out H03.out HS6.out)
              have HSB8 : Hid (SB 0 us3 ((((z6.setCell ⟨w.heap.size, 0, none⟩ (.slice a5 (M.lay ⟨10, R, 0, ⟨#[]⟩, 0, false⟩).code.length c5)).setCell ⟨w.heap.size, 1, none⟩ (.int .i64 (M.lay ⟨10, R, 0, ⟨#[]⟩, 0, false⟩).next)).setCell ⟨w.heap.size, 2, none⟩ (.slice av4 vs4.length cv4)).setCell ⟨w.heap.size, 3, none⟩ (.slice ar4 rs4.length cr4)) w.heap.size (setsS (t.args.take (k + 1)) (gs.take (k + 1)) m2)) := by rw [Hid, HN1.out]; exact HSB7.out
              have HFF := mkHid ((Fr.refl [w.heap.size] z6).four (g := w.heap.size) (by simp) (.slice a5 (M.lay ⟨10, R, 0, ⟨#[]⟩, 0, false⟩).code.length c5) (.int .i64 (M.lay ⟨10, R, 0, ⟨#[]⟩, 0, false⟩).next) (.slice av4 vs4.length cv4) (.slice ar4 rs4.length cr4))
              have HF8 := mkHid (HF7.out.trans HFF.out)
              go_wp2_with fail
              go_round
              case rel => exact ⟨k + 1, by omega, by go_num, HF8, HSB8⟩
              case measure => simp [intOf]; omega
            · go_wp2_with fail
              refine (emit_sx 1 us3 _ ac2 cc2 av4 cv4 ar4 cr4 M vs4 rs4 ⟨9, R, 0, ⟨#[]⟩, 0, false⟩ (fit_w _ _ _ _ (by omega) hRb (by omega) (by omega)) (HU9.out _ HZ5.out) HS5.out hMl).mono ?_
              rintro r z6 ⟨a5, c5, rfl, hs6, hb6⟩
              have HX6 := mkHid ((hb6.block w.heap.size (by have := HZ5.out; omega)).trans HX5.out)
              have HS6 := mkHid hs6
              have HF7 := mkHid (HF6.out.trans (Fr.of hb6))
              clear l0 l1 l2 l3 k0 k1 k2 k3 f0 f1 f2 f3 p0 p1 p2 p3 HX5 HS5 HF6 HX4 HS4 HG4 HF4 HF5 HZ5 HZ4 hs6 hb6
              obtain ⟨k0, k1, k2, k3⟩ := st_cells HX6.out
              obtain ⟨f0, f1, f2, f3⟩ := st_free HX6.out
              have HSB7 := mkHid (SB.stored HX6.out H03.out HS6.out)
              have HSB8 : Hid (SB 0 us3 ((((z6.setCell ⟨w.heap.size, 0, none⟩ (.slice a5 (M.lay ⟨9, R, 0, ⟨#[]⟩, 0, false⟩).code.length c5)).setCell ⟨w.heap.size, 1, none⟩ (.int .i64 (M.lay ⟨9, R, 0, ⟨#[]⟩, 0, false⟩).next)).setCell ⟨w.heap.size, 2, none⟩ (.slice av4 vs4.length cv4)).setCell ⟨w.heap.size, 3, none⟩ (.slice ar4 rs4.length cr4)) w.heap.size (setsS (t.args.take (k + 1)) (gs.take (k + 1)) m2)) := by rw [Hid, HN1.out]; exact HSB7.out
              have HFF := mkHid ((Fr.refl [w.heap.size] z6).four (g := w.heap.size) (by simp) (.slice a5 (M.lay ⟨9, R, 0, ⟨#[]⟩, 0, false⟩).code.length c5) (.int .i64 (M.lay ⟨9, R, 0, ⟨#[]⟩, 0, false⟩).next) (.slice av4 vs4.length cv4) (.slice ar4 rs4.length cr4))
              have HF8 := mkHid (HF7.out.trans HFF.out)
              go_wp2_with fail
              go_round
              case rel => exact ⟨k + 1, by omega, by go_num, HF8, HSB8⟩
              case measure => simp [intOf]; omega
          · rw [h2] at c0
            have HN1 : Hid (setsS (t.args.take (k + 1)) (gs.take (k + 1)) m2 = mj.lay ⟨11, 0, 0, ⟨#[]⟩, u.hd.n, false⟩) := by rw [Hid, hnx]; unfold setS; rw [if_neg (by omega), if_pos h2]
            clear hnx h2
            go_wp2_with fail
            refine wp_region_noPanic ?_
            obtain ⟨y0, hv0⟩ : ∃ X, wr.drew = X := ⟨_, rfl⟩
            have hbd : Below wr.heap.size wr y0 := by rw [← hv0]; exact (Below.refl _ _).drew
            have HXY := mkHid ((hbd.block w.heap.size (by have := HZR.out; omega)).trans HX.out)
            have HSY := mkHid (HSX.out.on (Fr.of hbd))
            have HFY := mkHid (HF.out.trans (Fr.of hbd))
            have HZY : Hid (w9.heap.size ≤ y0.heap.size) := by have := HZR.out; have := hbd.size; rw [Hid]; omega
            have d0 := mkHid (keep hgl2 hbd)
            have d1 := mkHid (keep c2 hbd)
            have hb3y : b3 < y0.heap.size := cell_lt d1.out
            have hgly : gl < y0.heap.size := cell_lt d0.out
            have HS : Hid (∀ X, Fr [w.heap.size] y0 X → (fun X : World => X.cell? ⟨gl, k, none⟩ = some (.slice (some ⟨b3, o3, none⟩) (m3 + 1) c3) ∧ X.cell? ⟨b3, o3 + 2, none⟩ = some (.int .i64 u.hd.n)) X) := fun X h =>
              ⟨(World.cell?_of_block (w := y0) (a := ⟨gl, k, none⟩) (h.block gl hgly (by simp; omega))).trans d0.out, (World.cell?_of_block (w := y0) (a := ⟨b3, o3 + 2, none⟩) (h.block b3 hb3y (by simp; exact hb3n))).trans d1.out⟩
            refine wp_region_held_drew (S := fun X : World => X.cell? ⟨gl, k, none⟩ = some (.slice (some ⟨b3, o3, none⟩) (m3 + 1) c3) ∧ X.cell? ⟨b3, o3 + 2, none⟩ = some (.int .i64 u.hd.n)) (by kernel_rfl) (by rw [hv0]; exact HS.out _ (Fr.refl _ _)) (fun hSd => ?_)
            rw [hv0] at hSd ⊢
            have HB0 : Hid (Fr [w.heap.size] y0 y0) := Fr.refl _ _
            clear hv0 hbd c0 c2 hgl2 HX HSX HF HZR HTR
            refine wpAnyH_take (i := 1) (oi := _) (v := ?_) rfl (by kernel_rfl) (by kernel_rfl) (by kernel_rfl) (fun _ _ _ h => h) (Or.inl ⟨by rfl, ?_⟩) (by assumption) ?_
            rotate_left
            · (intro w' hSw; obtain ⟨z4, z5⟩ := hSw; go_simp; try with_reducible rfl)
            (try simp only [List.getElem_toArray, List.getElem_cons_succ, List.getElem_cons_zero, Act.put, List.setIfInBounds_toArray, List.set_cons_zero, List.set_cons_succ])
            refine wpAnyH_take (i := 2) (oi := _) (v := ?_) rfl (by kernel_rfl) (by kernel_rfl) (by kernel_rfl) (fun _ _ _ h => h) (Or.inl ⟨by rfl, ?_⟩) (by assumption) ?_
            rotate_left
            · (intro w' hSw; obtain ⟨z4, z5⟩ := hSw; go_simp; try with_reducible rfl)
            (try simp only [List.getElem_toArray, List.getElem_cons_succ, List.getElem_cons_zero, Act.put, List.setIfInBounds_toArray, List.set_cons_zero, List.set_cons_succ])
            refine wpAnyH_take (i := 3) (oi := _) (v := ?_) rfl (by kernel_rfl) (by kernel_rfl) (by kernel_rfl) (fun _ _ _ h => h) (Or.inl ⟨by rfl, ?_⟩) (by assumption) ?_
            rotate_left
            · (intro w' hSw; obtain ⟨z4, z5⟩ := hSw; go_simp; try with_reducible rfl)
            (try simp only [List.getElem_toArray, List.getElem_cons_succ, List.getElem_cons_zero, Act.put, List.setIfInBounds_toArray, List.set_cons_zero, List.set_cons_succ])
            refine wpAnyH_take (i := 4) (oi := _) (v := ?_) rfl (by kernel_rfl) (by kernel_rfl) (by kernel_rfl) (fun _ _ _ h => h) (Or.inl ⟨by rfl, ?_⟩) (by assumption) ?_
            rotate_left
            · (intro w' hSw; obtain ⟨z4, z5⟩ := hSw; go_simp; try with_reducible rfl)
            (try simp only [List.getElem_toArray, List.getElem_cons_succ, List.getElem_cons_zero, Act.put, List.setIfInBounds_toArray, List.set_cons_zero, List.set_cons_succ])
            refine wpAnyH_take (i := 5) (oi := _) (v := ?_) rfl (by kernel_rfl) (by kernel_rfl) (by kernel_rfl) (fun _ _ _ h => h) (Or.inl ⟨by rfl, ?_⟩) (by assumption) ?_
            rotate_left
            · (intro w' hSw; obtain ⟨z4, z5⟩ := hSw; go_simp; try with_reducible rfl)
            (try simp only [List.getElem_toArray, List.getElem_cons_succ, List.getElem_cons_zero, Act.put, List.setIfInBounds_toArray, List.set_cons_zero, List.set_cons_succ])
            refine wpAnyH_take (i := 6) (oi := _) (v := ?_) rfl (by kernel_rfl) (by kernel_rfl) (by kernel_rfl) (fun _ _ _ h => h) (Or.inl ⟨by rfl, ?_⟩) (by assumption) ?_
            rotate_left
            · (intro w' hSw; obtain ⟨z4, z5⟩ := hSw; go_simp; try with_reducible rfl)
            (try simp only [List.getElem_toArray, List.getElem_cons_succ, List.getElem_cons_zero, Act.put, List.setIfInBounds_toArray, List.set_cons_zero, List.set_cons_succ])
            refine wpAnyH_take (i := 7) (oi := _) (v := ?_) rfl (by kernel_rfl) (by kernel_rfl) (by kernel_rfl) (fun _ _ _ h => h) (Or.inl ⟨by rfl, ?_⟩) (by assumption) ?_
            rotate_left
            · (intro w' hSw; obtain ⟨z4, z5⟩ := hSw; go_simp; try with_reducible rfl)
            (try simp only [List.getElem_toArray, List.getElem_cons_succ, List.getElem_cons_zero, Act.put, List.setIfInBounds_toArray, List.set_cons_zero, List.set_cons_succ])
            refine wpAnyH_take (i := 8) (oi := _) (v := ?_) rfl (by kernel_rfl) (by kernel_rfl) (by kernel_rfl) (fun _ _ _ h => h) (Or.inl ⟨by rfl, ?_⟩) (by assumption) ?_
            rotate_left
            · (intro w' hSw; obtain ⟨z4, z5⟩ := hSw; go_simp; try with_reducible rfl)
            (try simp only [List.getElem_toArray, List.getElem_cons_succ, List.getElem_cons_zero, Act.put, List.setIfInBounds_toArray, List.set_cons_zero, List.set_cons_succ])
            refine wpAnyH_ready (rs := [0]) (by kernel_rfl) (by simp) ?_
            refine AllReadyH.cons (o := _) rfl (fun K hK => ?_) AllReadyH.nil
            obtain ⟨k0, k1, k2, k3⟩ := st_cells HXY.out
            go_simp
            clear k0 k1 k2 k3
            try dsimp only
            refine hK.out _ _ (HS.out _ HB0.out) (fun _ => ?_)
            clear hK K
            (try simp only [List.getElem_toArray, List.getElem_cons_succ, List.getElem_cons_zero, Act.put, List.setIfInBounds_toArray, List.set_cons_zero, List.set_cons_succ])
            refine wpAnyH_ready (rs := [9]) (by kernel_rfl) (by simp) ?_
            refine AllReadyH.cons (o := _) rfl (fun K hK => ?_) AllReadyH.nil
            go_simp
            refine (emit_sx 0 us3 y0 ac2 cc2 av2 cv2 ar2 cr2 mj vs2 rs2 ⟨11, 0, 0, ⟨#[]⟩, u.hd.n, false⟩ (fit_w _ _ _ _ (by omega) (by omega) (by omega) ⟨hf1, hf2⟩) (HU9.out y0 HZY.out) HSY.out hml).mono ?_
            rintro r z6 ⟨a5, c5, rfl, hs6, hb6⟩
            have HX6 := mkHid ((hb6.block w.heap.size (by have := HZY.out; omega)).trans HXY.out)
            have HS6 := mkHid hs6
            have HF7 := mkHid (HFY.out.trans (Fr.of hb6))
            have HB6 : Hid (Fr [w.heap.size] y0 z6) := Fr.of hb6
            clear hs6 hb6 HXY HSY HFY
            try dsimp only
            refine hK.out _ _ (HS.out _ HB6.out) (fun _ => ?_)
            clear hK K
            (try simp only [List.getElem_toArray, List.getElem_cons_succ, List.getElem_cons_zero, Act.put, List.setIfInBounds_toArray, List.set_cons_zero, List.set_cons_succ])
            refine wpAnyH_ready (rs := [10]) (by kernel_rfl) (by simp) ?_
            refine AllReadyH.cons (o := _) rfl (fun K hK => ?_) AllReadyH.nil
            obtain ⟨k0, k1, k2, k3⟩ := st_cells HX6.out
            obtain ⟨f0, f1, f2, f3⟩ := st_free HX6.out
            have HSB7 := mkHid (SB.mono (SB.stored HX6.out H03.out HS6.out) (show (0 : Int) - 1 ≤ 0 by omega))
            have HSB8 : Hid (SB 0 us3 ((((z6.setCell ⟨w.heap.size, 0, none⟩ (.slice a5 (mj.lay ⟨11, 0, 0, ⟨#[]⟩, u.hd.n, false⟩).code.length c5)).setCell ⟨w.heap.size, 1, none⟩ (.int .i64 (mj.lay ⟨11, 0, 0, ⟨#[]⟩, u.hd.n, false⟩).next)).setCell ⟨w.heap.size, 2, none⟩ (.slice av2 vs2.length cv2)).setCell ⟨w.heap.size, 3, none⟩ (.slice ar2 rs2.length cr2)) w.heap.size (setsS (t.args.take (k + 1)) (gs.take (k + 1)) m2)) := by rw [Hid, HN1.out]; exact HSB7.out
            have HFF := mkHid ((Fr.refl [w.heap.size] z6).four (g := w.heap.size) (by simp) (.slice a5 (mj.lay ⟨11, 0, 0, ⟨#[]⟩, u.hd.n, false⟩).code.length c5) (.int .i64 (mj.lay ⟨11, 0, 0, ⟨#[]⟩, u.hd.n, false⟩).next) (.slice av2 vs2.length cv2) (.slice ar2 rs2.length cr2))
            have HF8 := mkHid (HF7.out.trans HFF.out)
            have HB8 := mkHid (HB6.out.trans HFF.out)
            go_simp
            clear k0 k1 k2 k3 f0 f1 f2 f3
            try dsimp only
            refine hK.out _ _ (HS.out _ HB8.out) (fun _ => ?_)
            clear hK K
            (try simp only [List.getElem_toArray, List.getElem_cons_succ, List.getElem_cons_zero, Act.put, List.setIfInBounds_toArray, List.set_cons_zero, List.set_cons_succ])
            refine wpAnyH_done (by kernel_rfl) (NoPanic.normal ?_) _
            clear HS hSd HX6 HS6 HF7 HB6 HSB7 HFF HB8 HB0 d0 d1 HZY
            go_wp2_with fail
            go_round
            case rel => exact ⟨k + 1, by omega, by go_num, HF8, HSB8⟩
            case measure => simp [intOf]; omega
          · rw [h3'] at c0
            have hkq : k < qs.length := by have := HQK.out; omega
            obtain ⟨x, hx0⟩ : ∃ x, qs[k] = x := ⟨_, rfl⟩
            have hgx : gs[k] = x := by
              have h := HQR.out k hlt hkq (by rw [hue]; exact h3')
              rw [List.getElem?_eq_getElem hkg, hx0] at h
              exact Option.some.inj h
            have HN1 : Hid (setsS (t.args.take (k + 1)) (gs.take (k + 1)) m2 = mj.lay ⟨10, x, 0, ⟨#[]⟩, 0, false⟩) := by rw [Hid, hnx, hgx]; unfold setS; rw [if_neg (by omega), if_neg (by omega), if_pos h3']
            obtain ⟨ga, oa, hae, _, hata⟩ := HR9.out.cases.resolve_left (fun e => by rw [e] at hkq; simp at hkq)
            subst hae
            obtain ⟨hcq9, hx1, hx2⟩ := int_at hata (Below.refl _ _) hkq
            rw [hx0] at hcq9 hx1 hx2
            have hgan : ga ≠ w.heap.size := by have := (HOB.out ga rfl).1; have := HZ1.out; omega
            have hcq := (World.cell?_of_block (w := w9) (a := ⟨ga, oa + k, none⟩) (HF.out.block ga (cell_lt hcq9) (by simp; exact hgan))).trans hcq9
            clear hnx h3' hgx hx0 hata hcq9
            go_wp2_with fail
            refine wp_region_noPanic ?_
            obtain ⟨y0, hv0⟩ : ∃ X, wr.drew = X := ⟨_, rfl⟩
            have hbd : Below wr.heap.size wr y0 := by rw [← hv0]; exact (Below.refl _ _).drew
            have HXY := mkHid ((hbd.block w.heap.size (by have := HZR.out; omega)).trans HX.out)
            have HSY := mkHid (HSX.out.on (Fr.of hbd))
            have HFY := mkHid (HF.out.trans (Fr.of hbd))
            have HZY : Hid (w9.heap.size ≤ y0.heap.size) := by have := HZR.out; have := hbd.size; rw [Hid]; omega
            have d0 := mkHid (keep hcq hbd)
            have hgay : ga < y0.heap.size := cell_lt d0.out
            have HS : Hid (∀ X, Fr [w.heap.size] y0 X → (fun X : World => X.cell? ⟨ga, oa + k, none⟩ = some (.int .i64 x) ∧ X.cell? ⟨ga, oa + k, none⟩ = some (.int .i64 x)) X) := fun X h => by
              have h5 := (World.cell?_of_block (w := y0) (a := ⟨ga, oa + k, none⟩) (h.block ga hgay (by simp; exact hgan))).trans d0.out
              exact ⟨h5, h5⟩
            refine wp_region_held_drew (S := fun X : World => X.cell? ⟨ga, oa + k, none⟩ = some (.int .i64 x) ∧ X.cell? ⟨ga, oa + k, none⟩ = some (.int .i64 x)) (by kernel_rfl) (by rw [hv0]; exact HS.out _ (Fr.refl _ _)) (fun hSd => ?_)
            rw [hv0] at hSd ⊢
            have HB0 : Hid (Fr [w.heap.size] y0 y0) := Fr.refl _ _
            clear hv0 hbd c0 c2 hgl2 hcq HX HSX HF HZR HTR
            refine wpAnyH_take (i := 1) (oi := _) (v := ?_) rfl (by kernel_rfl) (by kernel_rfl) (by kernel_rfl) (fun _ _ _ h => h) (Or.inl ⟨by rfl, ?_⟩) (by assumption) ?_
            rotate_left
            · (intro w' hSw; obtain ⟨z0, z1⟩ := hSw; go_simp; try with_reducible rfl)
            (try simp only [List.getElem_toArray, List.getElem_cons_succ, List.getElem_cons_zero, Act.put, List.setIfInBounds_toArray, List.set_cons_zero, List.set_cons_succ])
            refine wpAnyH_take (i := 2) (oi := _) (v := ?_) rfl (by kernel_rfl) (by kernel_rfl) (by kernel_rfl) (fun _ _ _ h => h) (Or.inl ⟨by rfl, ?_⟩) (by assumption) ?_
            rotate_left
            · (intro w' hSw; obtain ⟨z0, z1⟩ := hSw; go_simp; try with_reducible rfl)
            (try simp only [List.getElem_toArray, List.getElem_cons_succ, List.getElem_cons_zero, Act.put, List.setIfInBounds_toArray, List.set_cons_zero, List.set_cons_succ])
            refine wpAnyH_take (i := 3) (oi := _) (v := ?_) rfl (by kernel_rfl) (by kernel_rfl) (by kernel_rfl) (fun _ _ _ h => h) (Or.inl ⟨by rfl, ?_⟩) (by assumption) ?_
            rotate_left
            · (intro w' hSw; obtain ⟨z0, z1⟩ := hSw; go_simp; try with_reducible rfl)
            (try simp only [List.getElem_toArray, List.getElem_cons_succ, List.getElem_cons_zero, Act.put, List.setIfInBounds_toArray, List.set_cons_zero, List.set_cons_succ])
            refine wpAnyH_take (i := 4) (oi := _) (v := ?_) rfl (by kernel_rfl) (by kernel_rfl) (by kernel_rfl) (fun _ _ _ h => h) (Or.inl ⟨by rfl, ?_⟩) (by assumption) ?_
            rotate_left
            · (intro w' hSw; obtain ⟨z0, z1⟩ := hSw; go_simp; try with_reducible rfl)
            (try simp only [List.getElem_toArray, List.getElem_cons_succ, List.getElem_cons_zero, Act.put, List.setIfInBounds_toArray, List.set_cons_zero, List.set_cons_succ])
            refine wpAnyH_take (i := 5) (oi := _) (v := ?_) rfl (by kernel_rfl) (by kernel_rfl) (by kernel_rfl) (fun _ _ _ h => h) (Or.inl ⟨by rfl, ?_⟩) (by assumption) ?_
            rotate_left
            · (intro w' hSw; obtain ⟨z0, z1⟩ := hSw; go_simp; try with_reducible rfl)
            (try simp only [List.getElem_toArray, List.getElem_cons_succ, List.getElem_cons_zero, Act.put, List.setIfInBounds_toArray, List.set_cons_zero, List.set_cons_succ])
            refine wpAnyH_ready (rs := [0]) (by kernel_rfl) (by simp) ?_
            refine AllReadyH.cons (o := _) rfl (fun K hK => ?_) AllReadyH.nil
            obtain ⟨k0, k1, k2, k3⟩ := st_cells HXY.out
            go_simp
            clear k0 k1 k2 k3
            try dsimp only
            refine hK.out _ _ (HS.out _ HB0.out) (fun _ => ?_)
            clear hK K
            (try simp only [List.getElem_toArray, List.getElem_cons_succ, List.getElem_cons_zero, Act.put, List.setIfInBounds_toArray, List.set_cons_zero, List.set_cons_succ])
            refine wpAnyH_ready (rs := [6]) (by kernel_rfl) (by simp) ?_
            refine AllReadyH.cons (o := _) rfl (fun K hK => ?_) AllReadyH.nil
            go_simp
            refine (emit_sx 0 us3 y0 ac2 cc2 av2 cv2 ar2 cr2 mj vs2 rs2 ⟨10, x, 0, ⟨#[]⟩, 0, false⟩ (fit_w _ _ _ _ (by omega) ⟨hx1, hx2⟩ (by omega) (by omega)) (HU9.out y0 HZY.out) HSY.out hml).mono ?_
            rintro r z6 ⟨a5, c5, rfl, hs6, hb6⟩
            have HX6 := mkHid ((hb6.block w.heap.size (by have := HZY.out; omega)).trans HXY.out)
            have HS6 := mkHid hs6
            have HF7 := mkHid (HFY.out.trans (Fr.of hb6))
            have HB6 : Hid (Fr [w.heap.size] y0 z6) := Fr.of hb6
            clear hs6 hb6 HXY HSY HFY
            try dsimp only
            refine hK.out _ _ (HS.out _ HB6.out) (fun _ => ?_)
            clear hK K
            (try simp only [List.getElem_toArray, List.getElem_cons_succ, List.getElem_cons_zero, Act.put, List.setIfInBounds_toArray, List.set_cons_zero, List.set_cons_succ])
            refine wpAnyH_ready (rs := [7]) (by kernel_rfl) (by simp) ?_
            refine AllReadyH.cons (o := _) rfl (fun K hK => ?_) AllReadyH.nil
            obtain ⟨k0, k1, k2, k3⟩ := st_cells HX6.out
            obtain ⟨f0, f1, f2, f3⟩ := st_free HX6.out
            have HSB7 := mkHid (SB.mono (SB.stored HX6.out H03.out HS6.out) (show (0 : Int) - 1 ≤ 0 by omega))
            have HSB8 : Hid (SB 0 us3 (((((z6.setCell ⟨w.heap.size, 0, none⟩ (.slice a5 (mj.lay ⟨10, x, 0, ⟨#[]⟩, 0, false⟩).code.length c5)).setCell ⟨w.heap.size, 1, none⟩ (.int .i64 (mj.lay ⟨10, x, 0, ⟨#[]⟩, 0, false⟩).next)).setCell ⟨w.heap.size, 2, none⟩ (.slice av2 vs2.length cv2)).setCell ⟨w.heap.size, 3, none⟩ (.slice ar2 rs2.length cr2))) w.heap.size (setsS (t.args.take (k + 1)) (gs.take (k + 1)) m2)) := by rw [Hid, HN1.out]; exact HSB7.out
            have HFF := mkHid ((Fr.refl [w.heap.size] z6).four (g := w.heap.size) (by simp) (.slice a5 (mj.lay ⟨10, x, 0, ⟨#[]⟩, 0, false⟩).code.length c5) (.int .i64 (mj.lay ⟨10, x, 0, ⟨#[]⟩, 0, false⟩).next) (.slice av2 vs2.length cv2) (.slice ar2 rs2.length cr2))
            have HF8 := mkHid (HF7.out.trans HFF.out)
            have HB8 := mkHid (HB6.out.trans HFF.out)
            go_simp
            clear k0 k1 k2 k3 f0 f1 f2 f3
            try dsimp only
            refine hK.out _ _ (HS.out _ HB8.out) (fun _ => ?_)
            clear hK K
            (try simp only [List.getElem_toArray, List.getElem_cons_succ, List.getElem_cons_zero, Act.put, List.setIfInBounds_toArray, List.set_cons_zero, List.set_cons_succ])
            refine wpAnyH_done (by kernel_rfl) (NoPanic.normal ?_) _
            clear HS hSd HX6 HS6 HF7 HB6 HSB7 HFF HB8 HB0 d0 HZY
            go_wp2_with fail
            go_round
            case rel => exact ⟨k + 1, by omega, by go_num, HF8, HSB8⟩
            case measure => simp [intOf]; omega
        · have HE : Hid (mj = setsS t.args gs m2) := by rw [Hid, ← HMJ.out, List.take_of_length_le (by omega), List.take_of_length_le (by have := HGL.out; omega)]
          have HK3 := mkHid ((HF1.out.block (w.heap.size + 1) (by have := HZ1.out; omega) (by simp)).trans HK2.out)
          have hsw : w1.heap.size ≤ wr.heap.size := HF1.out.size
          have HBR := mkHid (HB1.out.trans (HF1.out.below (B := w.heap.size) (by have := HZ1.out; omega) fun k hk => by simp at hk; omega))
          obtain ⟨l0, l1, l2, l3⟩ := st_cells HX.out
          obtain ⟨k0, k1, k2, k3⟩ := st_cells HK3.out
          obtain ⟨f0, f1, f2, f3⟩ := st_free HK3.out
          clear hsw
          go_wp2_with fail
          refine bodyPost_ret (v := .tuple #[.agg #[.slice ac2 mj.code.length cc2, .int .i64 mj.next, .slice av2 vs2.length cv2, .slice ar2 rs2.length cr2], .int .i64 mk.next]) (by simp [results, Try.results69, go_sem, *]) rfl ?_
          rw [HST.out, ← HE.out]
          have HFE := mkHid ((Fr.refl us2 wr).four H02.out.2 (.slice ac2 mj.code.length cc2) (.int .i64 mj.next) (.slice av2 vs2.length cv2) (.slice ar2 rs2.length cr2))
          refine ⟨ac2, cc2, av2, cv2, ar2, cr2, vs2, rs2, rfl, ?_, ?_⟩
          · exact ((HSX.out.sub (us' := us2) fun k hk => by rw [← HUS.out]; exact List.mem_append_right _ hk).on HFE.out).sub HM2.out
          · exact below_four HBR.out (g := w.heap.size + 1) (by omega) (.slice ac2 mj.code.length cc2) (.int .i64 mj.next) (.slice av2 vs2.length cv2) (.slice ar2 rs2.length cr2)
end Go.Proofs.Ytmmnfkggfnokjaa
set_option linter.unusedVariables false
namespace Go.Proofs.Ytmmnfkggfnokjaa
open Go.RowKit
/-! ### build, whole -/
theorem build_zero : BuildAt 0 := by
  intro us w ac cc av cv ar cr m vs rs at0 ct t hu hst hfit hT ht h3 h200 hN hl
  have := flat_pos t
  omega
theorem build_all : ∀ N : Nat, BuildAt N
  | 0 => build_zero
  | N + 1 => build_step N (build_all N)
end Go.Proofs.Ytmmnfkggfnokjaa
