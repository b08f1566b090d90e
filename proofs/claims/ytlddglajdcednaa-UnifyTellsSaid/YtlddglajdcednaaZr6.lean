import Derived.Test.YtlddglajdcednaaZr5

namespace Go.Proofs.Ytlddglajdcednaa
open Go.RowKit
attribute [local go_sem] Oper.semAt_some

set_option maxRecDepth 100000 in
set_option maxHeartbeats 16000000 in
theorem measure_step {C u s m : Nat} {l : List Cel} {r : List Nat} {d : Nat → Nat} (hG : Good l) (hl : l.length ≤ 1000) (hj : JoinOk l r []) (f : Nat)
    (ih : ∀ f' : Nat, f = f' + 1 → ∀ (w : World) (U S : List Int) (p : Nat), Cls (veil [u, s] w) C u s m l (endsL l) → RowU w u U → RowU w s S → Roots l.length U (fun k => r.getD k 0) d → MOk l r S → zeroN S ≤ f' → p < l.length →
      Calls Try.prog 37 #[.pointer (some ⟨C, 0, none⟩), .int .i64 p] w (MPost w u s l r d (measureL l r (f' + 1) S p)))
    (w : World) (U S : List Int) (p : Nat) (hC : Cls (veil [u, s] w) C u s m l (endsL l)) (hU : RowU w u U) (hS : RowU w s S) (hR : Roots l.length U (fun k => r.getD k 0) d) (hM : MOk l r S) (hz : zeroN S ≤ f) (hp : p < l.length) :
    Calls Try.prog 37 #[.pointer (some ⟨C, 0, none⟩), .int .i64 p] w (MPost w u s l r d (measureL l r (f + 1) S p)) := by
  have HG := mkHid hG
  have HJ := mkHid hj
  have HU := mkHid hU
  have HS := mkHid hS
  have HR := mkHid hR
  have HC := mkHid hC
  have HM := mkHid hM
  have HIH := mkHid ih
  have hul := hU.lt
  have hsl := hS.lt
  have hus := hC.us
  have hne1 : s ∉ [u] := by simp; exact fun e => hus e.symm
  have HNE := mkHid hne1
  obtain ⟨x1, x2⟩ := hj.top p hp
  obtain ⟨x, hx⟩ : ∃ x, x = r.getD p 0 := ⟨_, rfl⟩
  rw [← hx] at x1 x2
  have HX := mkHid hx
  have HX2 := mkHid x2
  have hSl := hM.len
  have hxS : x < S.length := by rw [hSl]; exact x1
  have hp0 : (0 : Int) ≤ (p : Int) := by omega
  have hx0 : (0 : Int) ≤ (x : Int) := by omega
  have hxl : (x : Int) < (l.length : Int) := by omega
  have hlo := hM.low x
  have hhi := hM.up x1
  have HC1 : Hid (∀ W, Fr [u, s] w W → Cls (veil [u, s] W) C u s m l (endsL l)) := fun W h => HC.out.keeps h.keeps
  obtain ⟨capS, hcs1, hcs2, k4w⟩ := hC.size_at
  have hCus : C ∉ [u, s] := (veil_cell hC.first).1
  have HK4 : Hid (∀ W, Fr [u, s] w W → W.cell? ⟨C, 4, none⟩ = some (.slice (some ⟨s, 0, none⟩) l.length capS)) := fun W h => (World.cell?_of_block (a := ⟨C, 4, none⟩) (h.block C (cell_lt k4w) hCus)).trans k4w
  have hCl := cell_lt k4w
  clear hG hj hU hS hR hC hM ih hx x2 hSl hne1 k4w
  generalize hso : S[x] = so at *
  have hso2 : so = S.getD x 0 := by rw [← hso]; exact getD_row hxS
  rw [← hso2] at hlo hhi
  have HSO := mkHid hso
  have HSO2 := mkHid hso2
  clear hso hso2
  refine (callsIn_wide (n := 9)).1 ?_
  refine callsIn_of_wp_marks Try.func37 rfl trivial ?_ rfl
  simp only [Try.ntmps37, List.size_toArray, List.length_cons, List.length_nil, Nat.reduceAdd, Nat.reduceSub, Array.replicate_succ, Array.replicate_zero, List.push_toArray, List.append_toArray, List.nil_append, List.cons_append]
  refine wpIn_wide.2 ?_
  have HF0 : Hid (Fr [u, s] w ((w.alloc (.cells #[.pointer (some ⟨C, 0, none⟩)] 55)).alloc (.cells #[.bool false] 4))) := ((Fr.refl _ _).alloc _).alloc _
  have HU0 : Hid (RowU ((w.alloc (.cells #[.pointer (some ⟨C, 0, none⟩)] 55)).alloc (.cells #[.bool false] 4)) u U) := (HU.out.alloc _).alloc _
  have HS0 : Hid (RowU ((w.alloc (.cells #[.pointer (some ⟨C, 0, none⟩)] 55)).alloc (.cells #[.bool false] 4)) s S) := (HS.out.alloc _).alloc _
  have HB2 : Hid (Boxed ((w.alloc (.cells #[.pointer (some ⟨C, 0, none⟩)] 55)).alloc (.cells #[.bool false] 4)) w.heap.size 55 (.pointer (some ⟨C, 0, none⟩))) := (Boxed.new w _ _).alloc _
  have HB4 : Hid (Boxed ((w.alloc (.cells #[.pointer (some ⟨C, 0, none⟩)] 55)).alloc (.cells #[.bool false] 4)) (w.heap.size + 1) 4 (.bool false)) := by
    have h1 := Boxed.new (w.alloc (.cells #[.pointer (some ⟨C, 0, none⟩)] 55)) 4 (.bool false)
    rw [World.size_alloc] at h1
    exact h1
  go_wp2_with fail
  with_reducible refine (find_row _ (HC1.out _ HF0.out) HU0.out HR.out (by omega) p hp x HX.out).mono ?_
  rintro e w1 ⟨rfl, U1, hU1, hR1, hF1, hs1⟩
  have hw1s : w.heap.size + 2 ≤ w1.heap.size := by rw [hs1]; simp
  have hb2 : Boxed w1 w.heap.size 55 (.pointer (some ⟨C, 0, none⟩)) := (hF1.block _ HB2.out.lt (by simp; omega)).trans HB2.out
  have hb4 : Boxed w1 (w.heap.size + 1) 4 (.bool false) := (hF1.block _ HB4.out.lt (by simp; omega)).trans HB4.out
  have hS1 := HS0.out.fr hF1 HNE.out
  have hF1' : Fr [u, s] w w1 := HF0.out.trans (hF1.sub (by simp))
  have c2 := hb2.cell
  have c4 := hb4.cell
  have f4 := hb4.frozen
  have l2 := hb2.lt
  have l4 := hb4.lt
  have k4 := HK4.out _ hF1'
  have o1 := hS1.read hxS
  have z1 := hS1.free x
  rw [HSO.out] at o1
  have HU1 := mkHid hU1
  have HR1 := mkHid hR1
  have HF1 := mkHid hF1'
  have HS1 := mkHid hS1
  have HB2' := mkHid hb2
  have HB4' := mkHid hb4
  clear hU1 hR1 hF1 hF1' hs1 hS1 hb2 hb4
  by_cases h0 : so = 0
  · have t1 : (so != 0) = false := by simp [h0]
    have H0 := mkHid h0
    clear h0
    obtain ⟨f', rfl⟩ : ∃ f', f = f' + 1 := by
      have h1 := zero_set hxS (by rw [← HSO2.out]; exact H0.out)
      exact ⟨f - 1, by omega⟩
    have hm0 := HM.out.begin x1 (by rw [← HSO2.out]; exact H0.out)
    have hz0 : zeroN (S.set x (-1)) ≤ f' := by
      have h1 := zero_set hxS (by rw [← HSO2.out]; exact H0.out)
      omega
    have HM0 := mkHid hm0
    have HZ0 := mkHid hz0
    have HL0 : Hid (measureL l r (f' + 1 + 1) S p = match foldM l r (f' + 1) (argsL l x) (some (S.set x (-1), 1)) with | none => none | some (s', n) => some (s'.set x (min n 201))) := by
      rw [Hid]
      conv => lhs; unfold measureL
      simp only [← HX.out, ← HSO2.out, if_pos H0.out]
      rfl
    clear hm0 hz0
    have hs5 : (w1.setCell ⟨s, x, none⟩ (.int .i64 (-1))).heap.size = w1.heap.size := by simp [World.setCell]
    have HS5 := mkHid hs5
    clear hs5
    go_wp2
    have hFR : Fr [u, s] w ((((w1.setCell ⟨s, x, none⟩ (.int .i64 (-1))).alloc (.cells #[.int .i64 1] 3)).alloc (.cells #[.pointer (some ⟨C, 0, none⟩)] 55)).alloc (.cells #[.int .i64 x] 3)) := (((HF1.out.set (by simp) _).alloc _).alloc _).alloc _
    have hUR : RowU ((((w1.setCell ⟨s, x, none⟩ (.int .i64 (-1))).alloc (.cells #[.int .i64 1] 3)).alloc (.cells #[.pointer (some ⟨C, 0, none⟩)] 55)).alloc (.cells #[.int .i64 x] 3)) u U1 := (((HU1.out.setOther (Ne.symm hus) _).alloc _).alloc _).alloc _
    have hSR : RowU ((((w1.setCell ⟨s, x, none⟩ (.int .i64 (-1))).alloc (.cells #[.int .i64 1] 3)).alloc (.cells #[.pointer (some ⟨C, 0, none⟩)] 55)).alloc (.cells #[.int .i64 x] 3)) s (S.set x (-1)) := (((HS1.out.set x _).alloc _).alloc _).alloc _
    have b5R := ((Boxed.new (w1.setCell ⟨s, x, none⟩ (.int .i64 (-1))) 3 (.int .i64 1)).alloc (.cells #[.pointer (some ⟨C, 0, none⟩)] 55)).alloc (.cells #[.int .i64 x] 3)
    have bCR := (Boxed.new ((w1.setCell ⟨s, x, none⟩ (.int .i64 (-1))).alloc (.cells #[.int .i64 1] 3)) 55 (.pointer (some ⟨C, 0, none⟩))).alloc (.cells #[.int .i64 x] 3)
    have bXR := Boxed.new (((w1.setCell ⟨s, x, none⟩ (.int .i64 (-1))).alloc (.cells #[.int .i64 1] 3)).alloc (.cells #[.pointer (some ⟨C, 0, none⟩)] 55)) 3 (.int .i64 x)
    have b2R0 : Boxed (w1.setCell ⟨s, x, none⟩ (.int .i64 (-1))) w.heap.size 55 (.pointer (some ⟨C, 0, none⟩)) := (Below.heap_setCell w1 ⟨s, x, none⟩ _ _ (by simp; omega)).trans HB2'.out
    have b2R : Boxed ((((w1.setCell ⟨s, x, none⟩ (.int .i64 (-1))).alloc (.cells #[.int .i64 1] 3)).alloc (.cells #[.pointer (some ⟨C, 0, none⟩)] 55)).alloc (.cells #[.int .i64 x] 3)) w.heap.size 55 (.pointer (some ⟨C, 0, none⟩)) := ((b2R0.alloc _).alloc _).alloc _
    have b4R0 : Boxed (w1.setCell ⟨s, x, none⟩ (.int .i64 (-1))) (w.heap.size + 1) 4 (.bool false) := (Below.heap_setCell w1 ⟨s, x, none⟩ _ _ (by simp; omega)).trans HB4'.out
    have b4R : Boxed ((((w1.setCell ⟨s, x, none⟩ (.int .i64 (-1))).alloc (.cells #[.int .i64 1] 3)).alloc (.cells #[.pointer (some ⟨C, 0, none⟩)] 55)).alloc (.cells #[.int .i64 x] 3)) (w.heap.size + 1) 4 (.bool false) := ((b4R0.alloc _).alloc _).alloc _
    have hsR : ((((w1.setCell ⟨s, x, none⟩ (.int .i64 (-1))).alloc (.cells #[.int .i64 1] 3)).alloc (.cells #[.pointer (some ⟨C, 0, none⟩)] 55)).alloc (.cells #[.int .i64 x] 3)).heap.size = w1.heap.size + 3 := by simp only [World.size_alloc, HS5.out]
    simp only [World.size_alloc, HS5.out] at b5R bCR bXR
    generalize ((((w1.setCell ⟨s, x, none⟩ (.int .i64 (-1))).alloc (.cells #[.int .i64 1] 3)).alloc (.cells #[.pointer (some ⟨C, 0, none⟩)] 55)).alloc (.cells #[.int .i64 x] 3)) = WR at hFR hUR hSR b5R bCR bXR b2R b4R hsR ⊢
    have hsR1 := Nat.le_of_eq hsR
    have hsR2 := Nat.le_of_eq hsR.symm
    clear hsR b2R0 b4R0
    have hCR : Cls (veil [u, s, w1.heap.size, w.heap.size + 1] WR) C u s m l (endsL l) := HC.out.keeps (veil_more2 hFR (fun k hk => by
      simp only [List.mem_cons, List.not_mem_nil, or_false] at hk ⊢
      omega))
    have hI0 : MI WR u s w1.heap.size l r d f' (S.set x (-1)) [] WR := ⟨_, 1, rfl, by simp, by simp, HM0.out, HZ0.out, ⟨U1, hUR, HR1.out⟩, hSR, b5R, KpN.refl _ _ _⟩
    have hu5 : u < WR.heap.size := by omega
    have hs5' : s < WR.heap.size := by omega
    have h55 : w1.heap.size < WR.heap.size := by omega
    refine (wpIn_wide (n := 9)).1 ?_
    refine range_own (F := Fence.wide) rfl (by omega) (gf := 84) (lb := #[.pointer (some ⟨w1.heap.size + 1 + 1, 0, none⟩), .pointer (some ⟨w1.heap.size + 1, 0, none⟩)]) rfl trivial (enters_of Try.func84 (by kernel_rfl) rfl)
      (parts1_own Fence.wide 8 trivial trivial rfl (by omega) (w1.heap.size + 1 + 1) (w1.heap.size + 1) [u, s, w1.heap.size, w.heap.size + 1] WR hCR HG.out hl x x1 WR (Fr.refl _ _) bXR.cell bCR.cell)
      KpF.trans (fun A o o' _ => ⟨rfl, rfl, rfl, by simp, fun k hk _ => World.putObj_heap_other (by omega), World.putObj_heap_other (by omega), World.putObj_heap_other (by omega)⟩) (fun _ => rfl)
      (I := MI WR u s w1.heap.size l r d f' (S.set x (-1))) (Ix := MX WR u s w1.heap.size (w.heap.size + 1) l r d f' (S.set x (-1)) x) ?hI ?hIx ?h0 ?a1 ?assign ?body ?done ?stop
    case hI => exact MI.own hu5 hs5' h55
    case hIx => exact MX.own hu5 (by omega)
    case h0 => exact hI0
    case assign =>
      intro l2 e W' K hK
      gi_wp2
      exact hK
    case body =>
      rintro l2 pre e W hsz2 ⟨S', nn, m1, m2, m3, m4, m5, mj⟩ ⟨W', hT, _⟩
      have hpl : pre.length ≤ 6 := by
        have h1 := hT.length_le
        have h2 := args_len HG.out x
        simp [valsP] at h1
        omega
      have hFW : Fr [u, s] w W := KpN.fr hFR (⟨mj.kp.os, mj.kp.tape, mj.kp.output, mj.kp.size, fun k hk hn => mj.kp.block k (by omega) (by simp at hn ⊢; omega)⟩ : KpN w.heap.size [u, s] WR W) (Nat.le_refl _)
      have b2W : Boxed W w.heap.size 55 (.pointer (some ⟨C, 0, none⟩)) := (mj.kp.block _ (by omega) (by simp; omega)).trans b2R
      have b4W : Boxed W (w.heap.size + 1) 4 (.bool false) := (mj.kp.block _ (by omega) (by simp; omega)).trans b4R
      have g2 := b2W.cell
      have HT := mkHid hT
      have HMJ := mkHid mj
      have HM1 := mkHid m1
      have HM4 := mkHid m4
      have HFW := mkHid hFW
      have HB2W := mkHid b2W
      have HB4W := mkHid b4W
      obtain ⟨⟨U', hU', hR'⟩, hS', hb5, hkp⟩ := mj
      have hcall := HIH.out f' rfl W U' S' e.1 (HC1.out W hFW) hU' hS' hR' m4 m5 e.2
      have HU' := mkHid hU'
      have HR' := mkHid hR'
      have HCALL := mkHid hcall
      clear hcall hT m1 m4 hFW b2W b4W hU' hS' hR' hb5 hkp
      gi_wp2_with fail
      refine ⟨trivial, (CallsIn.inRound l2 ((callsIn_wide (n := 6)).2 HCALL.out)).mono ?_⟩
      rintro ev W2 ⟨hF2, ⟨U2, hU2, hR2⟩, hm2⟩
      have hsW := HMJ.out.kp.size
      have b2W2 : Boxed W2 w.heap.size 55 (.pointer (some ⟨C, 0, none⟩)) := (hF2.block _ (by omega) (by simp; omega)).trans HB2W.out
      have b4W2 : Boxed W2 (w.heap.size + 1) 4 (.bool false) := (hF2.block _ (by omega) (by simp; omega)).trans HB4W.out
      have b5W2 : Boxed W2 w1.heap.size 3 (.int .i64 nn) := (hF2.block _ (by omega) (by simp; omega)).trans HMJ.out.box
      have q2 := b2W2.cell
      have q4 := b4W2.cell
      have r4 := b4W2.frozen
      have q5 := b5W2.cell
      have r5 := b5W2.frozen
      have hF2s := hF2.size
      have HF2 := mkHid hF2
      have HU2 := mkHid hU2
      have HR2 := mkHid hR2
      have HB4W2 := mkHid b4W2
      have HB5W2 := mkHid b5W2
      clear hF2 hU2 hR2 b2W2 b4W2 b5W2
      cases hm : measureL l r (f' + 1) S' e.1 with
      | none =>
        rw [hm] at hm2
        subst hm2
        have HMN := mkHid hm
        clear hm
        gi_wp2
        have hblk : ∀ k, k < W.heap.size → k ≠ u → k ≠ s → k ≠ w.heap.size + 1 → (W2.setCell ⟨w.heap.size + 1, 0, none⟩ (.bool false)).heap[k]? = W.heap[k]? := fun k hk h1 h2 h3 => (Below.heap_setCell W2 ⟨w.heap.size + 1, 0, none⟩ _ k h3).trans (HF2.out.block k hk (by simp; exact ⟨h1, h2⟩))
        have hsz3 : W.heap.size ≤ (W2.setCell ⟨w.heap.size + 1, 0, none⟩ (.bool false)).heap.size := by simpa [World.setCell] using hF2s
        refine ⟨⟨hblk _ (by omega) (by omega) (by omega) (by omega), hblk _ (by omega) (by omega) (by omega) (by omega)⟩, ⟨HF2.out.os, HF2.out.tape, HF2.out.output, hsz3, fun k hk hn => by
          simp only [List.mem_cons, List.not_mem_nil, or_false] at hn
          exact hblk k (by omega) (by omega) (by omega) (by omega), hblk _ (by omega) (by omega) (by omega) (by omega), hblk _ (by omega) (by omega) (by omega) (by omega)⟩, rfl, ?_, HT.out, HB4W2.out.set _, ⟨U2, HU2.out.setOther (by omega) _, HR2.out⟩, ?_⟩
        · rw [valsP_append, show valsP [e] = [e.1] from rfl, foldM_snoc, HM1.out, Option.bind_some]
          simp only [HMN.out, Option.map_none]
        · exact ((HMJ.out.kp.wide (by simp)).trans ((HF2.out.kpn hsW).wide (by simp))).trans (KpN.set _ (.inl (by simp)) _)
      | some S2 =>
        rw [hm] at hm2
        obtain ⟨rfl, hS2⟩ := hm2
        have HMN := mkHid hm
        clear hm
        obtain ⟨mo1, _⟩ := measure_ok HG.out HJ.out _ _ _ _ e.2 HM4.out HMN.out
        obtain ⟨y, hy⟩ : ∃ y, y = r.getD e.1 0 := ⟨_, rfl⟩
        have y1 := (HJ.out.top e.1 e.2).1
        rw [← hy] at y1
        have hyS : y < S2.length := by rw [mo1.ok.len]; exact y1
        have hv1 := mo1.ok.low y
        have hv2 := mo1.ok.up y1
        have ov := getD_row hyS
        generalize hvv : S2.getD y 0 = vv at hv1 hv2 ov
        have HY := mkHid hy
        have HVV := mkHid hvv
        have HOV := mkHid ov
        have HS2 := mkHid hS2
        have hy0 : (0 : Int) ≤ (y : Int) := by omega
        have hyl : (y : Int) < (l.length : Int) := by omega
        have hf2 : Fr [u, s] w W2 := HFW.out.trans HF2.out
        have kk4 := HK4.out W2 hf2
        have HF3 := mkHid hf2
        clear mo1 ov hvv hy hS2 hf2
        gi_wp2
        have h1n : 1 ≤ 8 - 1 := by omega
        have mixed : Try.prog.follows Departure.mixedOrders = true := by kernel_rfl
        refine Code.wpIn_mono (Q := fun ev A' W' => ev = .normal ∧ ∃ W3 U3, W' = W3.setCell ⟨w1.heap.size, 0, none⟩ (.int .i64 (nn + vv)) ∧ Fr [u] W2 W3 ∧ W3.heap.size = W2.heap.size ∧ RowU W3 u U3 ∧ Roots l.length U3 (fun k => r.getD k 0) d) ?_ ?_
        · rintro ev A' W' ⟨rfl, W3, U3, rfl, hF3, hs3, hU3, hR3⟩
          have hblk : ∀ k, k < W.heap.size → k ≠ u → k ≠ s → k ≠ w1.heap.size → (W3.setCell ⟨w1.heap.size, 0, none⟩ (.int .i64 (nn + vv))).heap[k]? = W.heap[k]? := fun k hk h1 h2 h3 => (Below.heap_setCell W3 ⟨w1.heap.size, 0, none⟩ _ k h3).trans ((hF3.block k (by omega) (by simp; exact h1)).trans (HF2.out.block k hk (by simp; exact ⟨h1, h2⟩)))
          have hsz3 : W.heap.size ≤ (W3.setCell ⟨w1.heap.size, 0, none⟩ (.int .i64 (nn + vv))).heap.size := by rw [show (W3.setCell ⟨w1.heap.size, 0, none⟩ (.int .i64 (nn + vv))).heap.size = W3.heap.size by simp [World.setCell]]; omega
          have hmi := MI.next HG.out HJ.out hus h55 (by omega) (by omega) hs5' HM1.out m2 m3 HM4.out m5 HMJ.out HMN.out HF2.out HS2.out hF3 hU3 hR3
          rw [← HY.out, HVV.out] at hmi
          refine ⟨⟨hblk _ (by omega) (by omega) (by omega) (by omega), hblk _ (by omega) (by omega) (by omega) (by omega)⟩, ⟨hF3.os.trans HF2.out.os, hF3.tape.trans HF2.out.tape, hF3.output.trans HF2.out.output, hsz3, fun k hk hn => by
            simp only [List.mem_cons, List.not_mem_nil, or_false] at hn
            exact hblk k (by omega) (by omega) (by omega) (by omega), hblk _ (by omega) (by omega) (by omega) (by omega), hblk _ (by omega) (by omega) (by omega) (by omega)⟩, hmi⟩
        · have HP : Hid (∀ w3, Fr [u] W2.drew w3 → w3.heap.size = W2.drew.heap.size → w3.cell? ⟨w.heap.size, 0, none⟩ = some (.pointer (some ⟨C, 0, none⟩)) ∧ w3.cell? ⟨w1.heap.size, 0, none⟩ = some (.int .i64 nn) ∧ w3.frozen? ⟨w1.heap.size, 0, none⟩ = false ∧ w3.cell? ⟨C, 4, none⟩ = some (.slice (some ⟨s, 0, none⟩) l.length capS) ∧ w3.cell? ⟨s, y, none⟩ = some (.int .i64 vv) ∧ w1.heap.size < w3.heap.size) := by
            intro w3 hF hsz
            have hl2 : W2.drew.heap.size = W2.heap.size := rfl
            have hsS := HS2.out.lt
            have hb5 : Boxed w3 w1.heap.size 3 (.int .i64 nn) := (hF.block _ (by omega) (by simp; omega)).trans HB5W2.out
            refine ⟨(World.cell?_of_block (a := ⟨w.heap.size, 0, none⟩) (hF.block w.heap.size (by omega) (by simp; omega))).trans q2, hb5.cell, hb5.frozen, HK4.out w3 (HF3.out.drew.trans (hF.sub (by simp))), ?_, by omega⟩
            have h3 : RowU w3 s S2 := (hF.block s (by omega) (by simp; exact fun e => hus e.symm)).trans HS2.out
            rw [h3.read hyS, HOV.out]
          refine wpIn_region_round (fun w' => w'.cell? ⟨w.heap.size, 0, none⟩ = some (.pointer (some ⟨C, 0, none⟩)) ∧ w'.cell? ⟨C, 4, none⟩ = some (.slice (some ⟨s, 0, none⟩) l.length capS) ∧ w'.cell? ⟨s, y, none⟩ = some (.int .i64 vv)) (by kernel_rfl) (fun i o ho c hc => ?_) (fun ⟨_, _, h⟩ => by cases h.1) ?_ (fun hSd => ?_)
          · match i, ho with
            | 0, ho | 1, ho | 2, ho | 3, ho | 4, ho | 5, ho | 6, ho | 7, ho | 8, ho | 9, ho | 10, ho | 11, ho => cases ho; cases hc
            | i + 12, ho => cases ho
          · obtain ⟨p1, p2, p3, p4, p5, p6⟩ := HP.out W2.drew (Fr.refl _ _) rfl
            exact ⟨p1, p4, p5⟩
          refine wpAnyH_take (i := 1) (oi := _) (v := ?_) rfl (by kernel_rfl) (by kernel_rfl) (by kernel_rfl) (fun _ _ _ h => h) (Or.inl ⟨by rfl, ?_⟩) (by assumption) ?_
          rotate_left
          · (intro w' hSw; (try dsimp only at hSw); go_simp; try with_reducible rfl)
          (try simp only [Act.put, List.setIfInBounds_toArray, List.set_cons_zero, List.set_cons_succ])
          refine wpAnyH_take (i := 2) (oi := _) (v := ?_) rfl (by kernel_rfl) (by kernel_rfl) (by kernel_rfl) (fun _ _ _ h => h) (Or.inl ⟨by rfl, ?_⟩) (by assumption) ?_
          rotate_left
          · (intro w' hSw; (try dsimp only at hSw); go_simp; try with_reducible rfl)
          (try simp only [Act.put, List.setIfInBounds_toArray, List.set_cons_zero, List.set_cons_succ])
          refine wpAnyH_take (i := 3) (oi := _) (v := ?_) rfl (by kernel_rfl) (by kernel_rfl) (by kernel_rfl) (fun _ _ _ h => h) (Or.inl ⟨by rfl, ?_⟩) (by assumption) ?_
          rotate_left
          · (intro w' hSw; (try dsimp only at hSw); go_simp; try with_reducible rfl)
          (try simp only [Act.put, List.setIfInBounds_toArray, List.set_cons_zero, List.set_cons_succ])
          refine wpAnyH_take (i := 4) (oi := _) (v := ?_) rfl (by kernel_rfl) (by kernel_rfl) (by kernel_rfl) (fun _ _ _ h => h) (Or.inl ⟨by rfl, ?_⟩) (by assumption) ?_
          rotate_left
          · (intro w' hSw; (try dsimp only at hSw); go_simp; try with_reducible rfl)
          (try simp only [Act.put, List.setIfInBounds_toArray, List.set_cons_zero, List.set_cons_succ])
          refine wpAnyH_take (i := 5) (oi := _) (v := ?_) rfl (by kernel_rfl) (by kernel_rfl) (by kernel_rfl) (fun _ _ _ h => h) (Or.inl ⟨by rfl, ?_⟩) (by assumption) ?_
          rotate_left
          · (intro w' hSw; (try dsimp only at hSw); go_simp; try with_reducible rfl)
          (try simp only [Act.put, List.setIfInBounds_toArray, List.set_cons_zero, List.set_cons_succ])
          refine wpAnyH_take (i := 6) (oi := _) (v := ?_) rfl (by kernel_rfl) (by kernel_rfl) (by kernel_rfl) (fun _ _ _ h => h) (Or.inl ⟨by rfl, ?_⟩) (by assumption) ?_
          rotate_left
          · (intro w' hSw; (try dsimp only at hSw); go_simp; try with_reducible rfl)
          (try simp only [Act.put, List.setIfInBounds_toArray, List.set_cons_zero, List.set_cons_succ])
          have HU2d : Hid (RowU W2.drew u U2) := HU2.out
          have hn1 : (-2000 : Int) ≤ nn := by omega
          have hn2 : nn ≤ (2000 : Int) := by omega
          have hwrap : IntKind.i64.wrap (nn + vv) = nn + vv := by rw [IntKind.wrap_i64]; omega
          have HWR := mkHid hwrap
          clear hwrap
          have g5 : W2.drew.cell? ⟨w1.heap.size, 0, none⟩ = some (.int .i64 nn) := q5
          refine wpAnyH_ready (rs := [0, 7]) (by kernel_rfl) (by simp) ?_
          refine AllReadyH.cons (o := _) rfl (fun K hK => ?_) ?_
          · go_simp
            refine hK.out _ _ hSd (fun _ => ?_)
            clear hK K
            (try simp only [Act.put, List.setIfInBounds_toArray, List.set_cons_zero, List.set_cons_succ])
            refine wpAnyH_ready (rs := [7]) (by kernel_rfl) (by simp) ?_
            refine AllReadyH.cons (o := _) rfl (fun K hK => ?_) AllReadyH.nil
            go_simp
            with_reducible refine (find_row W2.drew (HC1.out _ HF3.out.drew) HU2d.out HR2.out (by omega) e.1 e.2 y HY.out).mono ?_
            rintro ev w3 ⟨rfl, U3, hU3, hR3, hF3, hs3⟩
            obtain ⟨p1, p2, p3, p4, p5, p6⟩ := HP.out w3 hF3 hs3
            have HE := mkHid (And.intro hF3 (And.intro hs3 (And.intro hU3 hR3)))
            clear hF3 hs3 hU3 hR3
            try dsimp only
            refine hK.out _ _ ⟨p1, p4, p5⟩ (fun hS3 => ?_)
            clear hK K hSd
            (try simp only [Act.put, List.setIfInBounds_toArray, List.set_cons_zero, List.set_cons_succ])
            refine wpAnyH_take (i := 8) (oi := _) (v := ?_) rfl (by kernel_rfl) (by kernel_rfl) (by kernel_rfl) (fun _ _ _ h => h) (Or.inl ⟨by rfl, ?_⟩) (by assumption) ?_
            rotate_left
            · (intro w' hSw; (try dsimp only at hSw); go_simp; try with_reducible rfl)
            (try simp only [Act.put, List.setIfInBounds_toArray, List.set_cons_zero, List.set_cons_succ])
            refine wpAnyH_take (i := 9) (oi := _) (v := ?_) rfl (by kernel_rfl) (by kernel_rfl) (by kernel_rfl) (fun _ _ _ h => h) (Or.inl ⟨by rfl, ?_⟩) (by assumption) ?_
            rotate_left
            · (intro w' hSw; (try dsimp only at hSw); go_simp; try with_reducible rfl)
            (try simp only [Act.put, List.setIfInBounds_toArray, List.set_cons_zero, List.set_cons_succ])
            refine wpAnyH_take (i := 10) (oi := _) (v := ?_) rfl (by kernel_rfl) (by kernel_rfl) (by kernel_rfl) (fun _ _ _ h => h) (Or.inl ⟨by rfl, ?_⟩) (by assumption) ?_
            rotate_left
            · (intro w' hSw; (try dsimp only at hSw); go_simp; try with_reducible rfl)
            (try simp only [Act.put, List.setIfInBounds_toArray, List.set_cons_zero, List.set_cons_succ])
            refine wpAnyH_ready (rs := [11]) (by kernel_rfl) (by simp) ?_
            refine AllReadyH.cons (o := _) rfl (fun K hK => ?_) AllReadyH.nil
            go_simp
            refine hK.out _ _ ⟨(World.cell?_setCell_far _ _ _ _ (by show w1.heap.size ≠ w.heap.size; omega)).trans p1, (World.cell?_setCell_far _ _ _ _ (by show w1.heap.size ≠ C; omega)).trans p4, (World.cell?_setCell_far _ _ _ _ (by show w1.heap.size ≠ s; omega)).trans p5⟩ (fun _ => ?_)
            refine wpAnyH_done (by kernel_rfl) ?_ _
            exact ⟨rfl, w3, U3, by rw [HWR.out], (Fr.refl [u] W2).drew.trans HE.out.1, HE.out.2.1, HE.out.2.2.1, HE.out.2.2.2⟩
          · refine AllReadyH.cons (o := _) rfl (fun K hK => ?_) AllReadyH.nil
            go_simp
            with_reducible refine (find_row W2.drew (HC1.out _ HF3.out.drew) HU2d.out HR2.out (by omega) e.1 e.2 y HY.out).mono ?_
            rintro ev w3 ⟨rfl, U3, hU3, hR3, hF3, hs3⟩
            obtain ⟨p1, p2, p3, p4, p5, p6⟩ := HP.out w3 hF3 hs3
            have HE := mkHid (And.intro hF3 (And.intro hs3 (And.intro hU3 hR3)))
            clear hF3 hs3 hU3 hR3
            try dsimp only
            refine hK.out _ _ ⟨p1, p4, p5⟩ (fun hS3 => ?_)
            clear hK K hSd
            (try simp only [Act.put, List.setIfInBounds_toArray, List.set_cons_zero, List.set_cons_succ])
            refine wpAnyH_take (i := 8) (oi := _) (v := ?_) rfl (by kernel_rfl) (by kernel_rfl) (by kernel_rfl) (fun _ _ _ h => h) (Or.inl ⟨by rfl, ?_⟩) (by assumption) ?_
            rotate_left
            · (intro w' hSw; (try dsimp only at hSw); go_simp; try with_reducible rfl)
            (try simp only [Act.put, List.setIfInBounds_toArray, List.set_cons_zero, List.set_cons_succ])
            refine wpAnyH_take (i := 9) (oi := _) (v := ?_) rfl (by kernel_rfl) (by kernel_rfl) (by kernel_rfl) (fun _ _ _ h => h) (Or.inl ⟨by rfl, ?_⟩) (by assumption) ?_
            rotate_left
            · (intro w' hSw; (try dsimp only at hSw); go_simp; try with_reducible rfl)
            (try simp only [Act.put, List.setIfInBounds_toArray, List.set_cons_zero, List.set_cons_succ])
            refine wpAnyH_ready (rs := [0]) (by kernel_rfl) (by simp) ?_
            refine AllReadyH.cons (o := _) rfl (fun K hK => ?_) AllReadyH.nil
            go_simp
            refine hK.out _ _ hS3 (fun _ => ?_)
            clear hK K
            (try simp only [Act.put, List.setIfInBounds_toArray, List.set_cons_zero, List.set_cons_succ])
            refine wpAnyH_take (i := 10) (oi := _) (v := ?_) rfl (by kernel_rfl) (by kernel_rfl) (by kernel_rfl) (fun _ _ _ h => h) (Or.inl ⟨by rfl, ?_⟩) (by assumption) ?_
            rotate_left
            · (intro w' hSw; (try dsimp only at hSw); go_simp; try with_reducible rfl)
            (try simp only [Act.put, List.setIfInBounds_toArray, List.set_cons_zero, List.set_cons_succ])
            refine wpAnyH_ready (rs := [11]) (by kernel_rfl) (by simp) ?_
            refine AllReadyH.cons (o := _) rfl (fun K hK => ?_) AllReadyH.nil
            go_simp
            refine hK.out _ _ ⟨(World.cell?_setCell_far _ _ _ _ (by show w1.heap.size ≠ w.heap.size; omega)).trans p1, (World.cell?_setCell_far _ _ _ _ (by show w1.heap.size ≠ C; omega)).trans p4, (World.cell?_setCell_far _ _ _ _ (by show w1.heap.size ≠ s; omega)).trans p5⟩ (fun _ => ?_)
            refine wpAnyH_done (by kernel_rfl) ?_ _
            exact ⟨rfl, w3, U3, by rw [HWR.out], (Fr.refl [u] W2).drew.trans HE.out.1, HE.out.2.1, HE.out.2.2.1, HE.out.2.2.2⟩
    case done =>
      rintro D zs W hD hS1 ⟨S', nn, m1, m2, m3, m4, m5, mj⟩ hDd
      have hzl : zs.length ≤ 6 := by
        have h2 := args_len HG.out x
        rw [← hS1] at h2
        simpa [valsP] using h2
      have hn1 : (-2000 : Int) ≤ nn := by omega
      have hn2 : nn ≤ (2000 : Int) := by omega
      have hFW : Fr [u, s] w W := KpN.fr hFR (⟨mj.kp.os, mj.kp.tape, mj.kp.output, mj.kp.size, fun k hk hn => mj.kp.block k (by omega) (by simp at hn ⊢; omega)⟩ : KpN w.heap.size [u, s] WR W) (Nat.le_refl _)
      have b2W : Boxed W w.heap.size 55 (.pointer (some ⟨C, 0, none⟩)) := (mj.kp.block _ (by omega) (by simp; omega)).trans b2R
      have b4W : Boxed W (w.heap.size + 1) 4 (.bool false) := (mj.kp.block _ (by omega) (by simp; omega)).trans b4R
      obtain ⟨⟨U', hU', hR'⟩, hS', hb5, hkp⟩ := mj
      have hxS' : x < S'.length := by rw [m4.len]; exact x1
      have g2 := b2W.cell
      have g5 := hb5.cell
      have gk := HK4.out W hFW
      have go := hS'.read hxS'
      have gz := hS'.free x
      have hsW := hkp.size
      have g4 : (W.drew.setCell ⟨s, x, none⟩ (.int .i64 (min nn 201))).cell? ⟨w.heap.size + 1, 0, none⟩ = some (.bool false) := (World.cell?_setCell_far W.drew ⟨s, x, none⟩ ⟨w.heap.size + 1, 0, none⟩ _ (by show s ≠ w.heap.size + 1; omega)).trans b4W.cell
      have g4b : Boxed (W.drew.setCell ⟨s, x, none⟩ (.int .i64 (min nn 201))) (w.heap.size + 1) 4 (.bool false) := (Below.heap_setCell W.drew ⟨s, x, none⟩ _ _ (by show w.heap.size + 1 ≠ s; omega)).trans b4W
      have g4f := g4b.frozen
      have HL : Hid (∀ Wz, Wz = shutAll [D] ((W.drew.setCell ⟨s, x, none⟩ (.int .i64 (min nn 201))).setCell ⟨w.heap.size + 1, 0, none⟩ (.bool true)) → MPost w u s l r d (measureL l r (f' + 1 + 1) S p) (.returned (.bool true)) Wz ∧ Boxed Wz (w.heap.size + 1) 4 (.bool true)) := by
        rintro Wz rfl
        have hsh : ∀ k, k ≠ D → (shutAll [D] ((W.drew.setCell ⟨s, x, none⟩ (.int .i64 (min nn 201))).setCell ⟨w.heap.size + 1, 0, none⟩ (.bool true))).heap[k]? = ((W.drew.setCell ⟨s, x, none⟩ (.int .i64 (min nn 201))).setCell ⟨w.heap.size + 1, 0, none⟩ (.bool true)).heap[k]? := fun k hk => shutAll_heap [D] _ k (by simp; exact hk)
        have hbx := g4b.set (.bool true)
        have hu2 : RowU ((W.drew.setCell ⟨s, x, none⟩ (.int .i64 (min nn 201))).setCell ⟨w.heap.size + 1, 0, none⟩ (.bool true)) u U' := ((hU'.drew.setOther (Ne.symm hus) _).setOther (by omega) _)
        have hs2 : RowU ((W.drew.setCell ⟨s, x, none⟩ (.int .i64 (min nn 201))).setCell ⟨w.heap.size + 1, 0, none⟩ (.bool true)) s (S'.set x (min nn 201)) := ((hS'.drew.set x _).setOther (by omega) _)
        refine ⟨⟨?_, ⟨U', (hsh u (by omega)).trans hu2, hR'⟩, ?_⟩, (hsh _ (by omega)).trans hbx⟩
        · have k1 : KpN w.heap.size [u, s] W ((W.drew.setCell ⟨s, x, none⟩ (.int .i64 (min nn 201))).setCell ⟨w.heap.size + 1, 0, none⟩ (.bool true)) :=
            ((KpN.of (Below.refl _ _).drew).trans (KpN.set _ (.inl (by simp)) _)).trans (KpN.set _ (.inr (by omega)) _)
          exact KpN.fr hFW (k1.trans (shutAll_kpn (N := w.heap.size) (by simp; omega))) (Nat.le_refl _)
        · rw [HL0.out, ← hS1, m1]
          exact ⟨rfl, (hsh s (by omega)).trans hs2⟩
      have hDd2 : ((W.drew.setCell ⟨s, x, none⟩ (.int .i64 (min nn 201))).setCell ⟨w.heap.size + 1, 0, none⟩ (.bool true)).heap[D]? = some (.deferred (some [])) := by
        rw [Below.heap_setCell _ ⟨w.heap.size + 1, 0, none⟩ _ D (by show D ≠ w.heap.size + 1; omega), Below.heap_setCell _ ⟨s, x, none⟩ _ D (by show D ≠ s; omega)]
        exact hDd
      have HDd := mkHid hDd2
      have HM1 := mkHid m1
      clear hDd2 m1 m2 m3 hS1 m5 b2W b4W hU' hR' hb5 hkp g4b hDd
      go_wp2
      have hCs : s ≠ C := fun e => hCus (by simp [e])
      go_region_held3 (fun w' => w'.cell? ⟨w.heap.size, 0, none⟩ = some (.pointer (some ⟨C, 0, none⟩)) ∧ w'.cell? ⟨C, 4, none⟩ = some (.slice (some ⟨s, 0, none⟩) l.length capS) ∧ w'.cell? ⟨w1.heap.size, 0, none⟩ = some (.int .i64 nn))
        (first | exact ⟨g2, gk, g5⟩ | exact ⟨(World.cell?_setCell_far _ _ _ _ (by show s ≠ w.heap.size; omega)).trans g2, (World.cell?_setCell_far _ _ _ _ (by show s ≠ C; exact hCs)).trans gk, (World.cell?_setCell_far _ _ _ _ (by show s ≠ w1.heap.size; omega)).trans g5⟩) (fail)
      have g4' : ((W.setCell ⟨s, x, none⟩ (.int .i64 (min nn 201))).drew).cell? ⟨w.heap.size + 1, 0, none⟩ = some (.bool false) := g4
      have g4f' : ((W.setCell ⟨s, x, none⟩ (.int .i64 (min nn 201))).drew).frozen? ⟨w.heap.size + 1, 0, none⟩ = false := g4f
      clear g4 g4f
      go_wp2
      show LeavesInM _ _ _ _ _ _ (marksOf [D]) .returning _
      refine leaves_marks [D] _ (by simp) (fun E hE => by simp at hE; subst hE; exact HDd.out) ?_
      obtain ⟨q1, q2⟩ := HL.out _ rfl
      exact ⟨_, results_bool (p := 4) rfl _ rfl q2, q1⟩
    case stop =>
      rintro D c pre W hD _ ⟨rfl, m1, hpre, b4W, ⟨U', hU', hR'⟩, kp⟩ hDd
      have hDne : D ≠ u ∧ D ≠ w.heap.size + 1 := by omega
      have hFW : Fr [u, s] w W := KpN.fr hFR (⟨kp.os, kp.tape, kp.output, kp.size, fun k hk hn => kp.block k (by omega) (by simp at hn ⊢; omega)⟩ : KpN w.heap.size [u, s] WR W) (Nat.le_refl _)
      have HL : Hid (MPost w u s l r d (measureL l r (f' + 1 + 1) S p) (.returned (.bool false)) (shutAll [D] W)) := by
        have hsh : ∀ k, k ≠ D → (shutAll [D] W).heap[k]? = W.heap[k]? := fun k hk => shutAll_heap [D] W k (by simp; exact hk)
        refine ⟨?_, ⟨U', (hsh u (by omega)).trans hU', hR'⟩, ?_⟩
        · exact KpN.fr hFW (shutAll_kpn (N := w.heap.size) (by simp; omega)) (Nat.le_refl _)
        · rw [HL0.out]
          obtain ⟨rest, hrest⟩ := hpre
          rw [← hrest, foldM, List.foldl_append, ← foldM, ← foldM, m1, foldM_none]
      have HB : Hid (Boxed (shutAll [D] W) (w.heap.size + 1) 4 (.bool false)) := (shutAll_heap [D] W _ (by simp; omega)).trans b4W
      gi_wp2
      show LeavesInM _ _ _ _ _ _ (marksOf [D]) .returning W
      refine leaves_marks [D] W (by simp) (by simp [hDd]) ?_
      exact ⟨_, results_bool (p := 4) rfl _ rfl HB.out, HL.out⟩
  · have t1 : (so != 0) = true := by simp [h0]
    have HL : Hid (MPost w u s l r d (measureL l r (f + 1) S p) (.returned (.bool (so != -1))) (w1.setCell ⟨w.heap.size + 1, 0, none⟩ (.bool (so != -1)))) := by
      refine ⟨?_, ⟨U1, HU1.out.setOther (by omega) _, HR1.out⟩, ?_⟩
      · exact ⟨HF1.out.os, HF1.out.tape, HF1.out.output, by have := HF1.out.size; simpa [World.setCell] using this, fun k hk hn => (Below.heap_setCell w1 ⟨w.heap.size + 1, 0, none⟩ _ k (by simp; omega)).trans (HF1.out.block k hk hn)⟩
      · unfold measureL
        simp only [← HX.out, ← HSO2.out, if_neg h0]
        by_cases h1 : so = -1
        · rw [if_pos h1]; simp [h1]
        · rw [if_neg h1]; exact ⟨by simp [h1], HS1.out.setOther (by omega) _⟩
    generalize hbb : (so != -1) = bb at HL
    have HB : Hid (Boxed (w1.setCell ⟨w.heap.size + 1, 0, none⟩ (.bool bb)) (w.heap.size + 1) 4 (.bool bb)) := HB4'.out.set _
    clear h0
    go_wp2
    exact ⟨_, results_bool (p := 4) rfl _ rfl HB.out, HL.out⟩
theorem measure_any {C u s m : Nat} {l : List Cel} {r : List Nat} {d : Nat → Nat} (hG : Good l) (hl : l.length ≤ 1000) (hj : JoinOk l r []) :
    ∀ (f : Nat) (w : World) (U S : List Int) (p : Nat), Cls (veil [u, s] w) C u s m l (endsL l) → RowU w u U → RowU w s S → Roots l.length U (fun k => r.getD k 0) d → MOk l r S → zeroN S ≤ f → p < l.length →
    Calls Try.prog 37 #[.pointer (some ⟨C, 0, none⟩), .int .i64 p] w (MPost w u s l r d (measureL l r (f + 1) S p)) := by
  intro f
  induction f with
  | zero => exact measure_step hG hl hj 0 (fun f' e => by omega)
  | succ f ih => exact measure_step hG hl hj (f + 1) (fun f' e => by obtain rfl : f = f' := by omega
                                                                     exact ih)
end Go.Proofs.Ytlddglajdcednaa

namespace Go.Proofs.Ytlddglajdcednaa
open Go.RowKit

/-! ### laying out: the row that grows -/
def LR (W : World) (B : Nat) (v : Value) (acc : List Cel) : Prop := W.ownsRow B 42 3 v acc.length (flat acc)
theorem LR.kept {W W' : World} {B : Nat} {v : Value} {acc : List Cel} {row : Option Nat} (h : LR W B v acc) (hg : W.grownBy W' row) (hne : v.ownBlock = none ∨ v.ownBlock ≠ row) : LR W' B v acc := World.ownsRow.kept h hg hne
theorem LR.cells {W : World} {B g : Nat} {v : Value} {acc : List Cel} (h : LR W B v acc) (hg : v.ownBlock = some g) : ∃ cur, W.heap[g]? = some (.cells cur 42 (0, 0)) := by
  rcases h.2 with ⟨rfl, _⟩ | ⟨g', cap', cur, rfl, hb, hgg, _⟩
  · simp [Value.ownBlock] at hg
  · simp [Value.ownBlock] at hg
    subst hg
    exact ⟨cur, hgg⟩
theorem LR.block {W W' : World} {B : Nat} {v : Value} {acc : List Cel} (h : LR W B v acc) (e : ∀ g, v.ownBlock = some g → W'.heap[g]? = W.heap[g]?) : LR W' B v acc := by
  refine ⟨h.1, ?_⟩
  rcases h.2 with hn | ⟨g', cap', cur, rfl, hb, hgg, rest⟩
  · exact .inl hn
  · exact .inr ⟨g', cap', cur, rfl, hb, (e g' rfl).trans hgg, rest⟩
theorem LR.lt {W : World} {B : Nat} {v : Value} {acc : List Cel} (h : LR W B v acc) : ∀ g, v.ownBlock = some g → B ≤ g ∧ g < W.heap.size := World.ownsRow.lt h
/-- what is told of laying out -/
def LayPost (w0 w : World) (u : Nat) (l : List Cel) (r : List Nat) (d : Nat → Nat) (v : Value) (out : List Cel) (e : Ending) (w' : World) : Prop :=
  ∃ v', e = .returned v' ∧ LR w' w0.heap.size v' out ∧ Fr [u] w0 w' ∧ (∃ U', RowU w' u U' ∧ Roots l.length U' (fun k => r.getD k 0) d) ∧ w.heap.size ≤ w'.heap.size ∧
    (∀ k, k < w.heap.size → k ≠ u → v.ownBlock ≠ some k → w'.heap[k]? = w.heap[k]?) ∧ (v'.ownBlock = v.ownBlock ∨ ∃ g, v'.ownBlock = some g ∧ w.heap.size ≤ g)
/-- append of one cell, laid just ahead of it -/
theorem run_lay {W : World} {B : Nat} {v : Value} {acc : List Cel} (h : LR W B v acc) (c : Cel) (hl : acc.length ≤ 1000000) (hB : B ≤ W.heap.size) (ty : TypeId) :
    ∃ v' w', (Builtin.append_ #[22, 22] ty #[v, .slice (some ⟨W.heap.size, 0, none⟩) 1 1]).run Try.prog (W.alloc (.cells #[.int .i64 c.k, .string c.s, .int .i64 c.n] 42)) = .ok v' w' ∧
      LR w' B v' (acc ++ [c]) ∧ (W.alloc (.cells #[.int .i64 c.k, .string c.s, .int .i64 c.n] 42)).grownBy w' v.ownBlock ∧ (v'.ownBlock = v.ownBlock ∨ v'.ownBlock = some (W.heap.size + 1)) ∧ ∃ g cap', v' = .slice (some ⟨g, 0, none⟩) (acc.length + 1) cap' := by
  obtain ⟨i, hi, hz0, hz1, hz2⟩ := info_parts Try.infoCell
  obtain ⟨v', w', hrun, h2, h3, h4⟩ := run_append_where (P := Try.prog) (W.alloc (.cells #[.int .i64 c.k, .string c.s, .int .i64 c.n] 42)) B 22 ty 42 i _ 3 32 Try.underlying22 hi hz0 hz1 hz2 rfl (by omega) _ acc.length _ (World.ownsRow.alloc h _)
    ⟨W.heap.size, 0, none⟩ 1 1 [.int .i64 c.k, .string c.s, .int .i64 c.n] rfl (by
      intro j u hj
      match j, hj with
      | 0, hj => simp at hj; subst hj; simp [Addr.add, World.cell?_alloc_at]
      | 1, hj => simp at hj; subst hj; simp [Addr.add, World.cell?_alloc_at]
      | 2, hj => simp at hj; subst hj; simp [Addr.add, World.cell?_alloc_at]
      | j + 3, hj => simp at hj) (by intro u hu; simp at hu; rcases hu with rfl | rfl | rfl <;> rfl) (by unfold maxLen; omega) (by omega) (by simp; omega)
  refine ⟨v', w', hrun, ?_, h3, by simpa using h4, ?_⟩
  · unfold LR
    rw [List.length_append, List.length_singleton, show flat (acc ++ [c]) = flat acc ++ [.int .i64 c.k, .string c.s, .int .i64 c.n] by simp [flat]]
    exact h2
  · rcases h2.2 with ⟨_, h0⟩ | ⟨g, cap, _, e, _⟩
    · omega
    · exact ⟨g, cap, e⟩
/-- in the loop over the parts -/
structure LJ (w0 WR : World) (u B4 g0 : Nat) (l : List Cel) (r : List Nat) (d : Nat → Nat) (out : List Cel) (v : Value) (W : World) : Prop where
  row : LR W w0.heap.size v out
  box : Boxed W B4 22 v
  up : ∃ U', RowU W u U' ∧ Roots l.length U' (fun k => r.getD k 0) d
  kp : KpN WR.heap.size [u, B4, g0] WR W
  wh : v.ownBlock = some g0 ∨ ∃ g, v.ownBlock = some g ∧ WR.heap.size + 2 ≤ g
def LI (w0 WR : World) (u B4 g0 : Nat) (l : List Cel) (r : List Nat) (d : Nat → Nat) (h : Nat) (acc : List Cel) (pre : List (Place l.length)) (W : World) : Prop :=
  ∃ v, LJ w0 WR u B4 g0 l r d (acc ++ (valsP pre).flatMap (layL l r h)) v W
theorem LI.own {w0 WR : World} {u B4 g0 : Nat} {l : List Cel} {r : List Nat} {d : Nat → Nat} {h : Nat} {acc : List Cel} (hu : u < WR.heap.size) (hb : B4 < WR.heap.size) (hg : g0 < WR.heap.size) : OwnX WR.heap.size none (LI w0 WR u B4 g0 l r d h acc) := by
  rintro pre W W' row ⟨v, j⟩ hgr hr
  have hr2 : ∀ q, row = some q → WR.heap.size ≤ q ∧ ∃ o : Obj, W.heap[q]? = some o ∧ o.isCells = false := fun q e => (hr q e).resolve_left (fun q => by cases q)
  have hlow : ∀ k, k < WR.heap.size → W'.heap[k]? = W.heap[k]? := fun k hk => hgr.block k (Nat.lt_of_lt_of_le hk j.kp.size) (fun e => by have := (hr2 k e.symm).1; omega)
  have hne : v.ownBlock ≠ row := fun e => by
    rcases j.wh with q | ⟨g, q, _⟩
    · rw [q] at e; have := (hr2 g0 e.symm).1; omega
    · rw [q] at e
      obtain ⟨_, o, h1, h2⟩ := hr2 g e.symm
      obtain ⟨cur, hc⟩ := j.row.cells q
      rw [hc] at h1; cases h1; cases h2
  obtain ⟨U', u1, u2⟩ := j.up
  exact ⟨v, j.row.kept hgr (.inr hne), (hlow B4 hb).trans j.box, ⟨U', (hlow u hu).trans u1, u2⟩, j.kp.trans ⟨hgr.os, hgr.tape, hgr.output, hgr.size, fun k hk _ => hlow k hk⟩, j.wh⟩
/-- one part more -/
theorem LI.next {w0 WR W W2 : World} {u B4 g0 : Nat} {l : List Cel} {r : List Nat} {d : Nat → Nat} {h : Nat} {acc : List Cel} {pre : List (Place l.length)} {x : Place l.length} {v v2 : Value} (hb : B4 < WR.heap.size) (hub : u ≠ B4) (hgb : g0 ≠ B4) (hu0 : u < w0.heap.size) (hw0 : w0.heap.size ≤ WR.heap.size) (hb0 : w0.heap.size ≤ B4) (hsz2 : WR.heap.size + 2 ≤ W.heap.size)
    (j : LJ w0 WR u B4 g0 l r d (acc ++ (valsP pre).flatMap (layL l r h)) v W)
    (h1 : LR W2 w0.heap.size v2 ((acc ++ (valsP pre).flatMap (layL l r h)) ++ layL l r h x.1)) (h2 : Fr [u] w0 W2) (hos : W2.os = W.os ∧ W2.tape = W.tape ∧ W2.output = W.output) (h3 : ∃ U', RowU W2 u U' ∧ Roots l.length U' (fun k => r.getD k 0) d) (h4 : W.heap.size ≤ W2.heap.size)
    (h5 : ∀ k, k < W.heap.size → k ≠ u → v.ownBlock ≠ some k → W2.heap[k]? = W.heap[k]?) (h6 : v2.ownBlock = v.ownBlock ∨ ∃ g, v2.ownBlock = some g ∧ W.heap.size ≤ g) :
    LI w0 WR u B4 g0 l r d h acc (pre ++ [x]) (W2.setCell ⟨B4, 0, none⟩ v2) ∧ (∀ k, k < WR.heap.size → k ∉ [u, B4, g0] → (W2.setCell ⟨B4, 0, none⟩ v2).heap[k]? = W.heap[k]?) ∧ (∀ k, WR.heap.size ≤ k → k < W.heap.size → v.ownBlock ≠ some k → (W2.setCell ⟨B4, 0, none⟩ v2).heap[k]? = W.heap[k]?) := by
  have hsz := j.kp.size
  have hwh : v2.ownBlock = some g0 ∨ ∃ g, v2.ownBlock = some g ∧ WR.heap.size + 2 ≤ g := by
    rcases h6 with q | ⟨g, q, hq⟩
    · rw [q]; exact j.wh
    · exact .inr ⟨g, q, by omega⟩
  have hb2 : ∀ g, v2.ownBlock = some g → g ≠ B4 := fun g e => by
    rcases hwh with q | ⟨g', q, hq⟩
    · rw [e] at q; cases q; exact hgb
    · rw [e] at q; cases q; omega
  have hne : ∀ k, k < WR.heap.size → k ≠ g0 → v.ownBlock ≠ some k := fun k hk hn e => by
    rcases j.wh with q | ⟨g', q, hq⟩
    · rw [e] at q; cases q; exact hn rfl
    · rw [e] at q; cases q; omega
  have hlow : ∀ k, k < WR.heap.size → k ∉ [u, B4, g0] → (W2.setCell ⟨B4, 0, none⟩ v2).heap[k]? = W.heap[k]? := fun k hk hn => by
    simp only [List.mem_cons, List.not_mem_nil, or_false, not_or] at hn
    exact (Below.heap_setCell W2 ⟨B4, 0, none⟩ _ k hn.2.1).trans (h5 k (by omega) hn.1 (hne k hk hn.2.2))
  refine ⟨⟨v2, ?_, ?_, ?_, ?_, hwh⟩, hlow, fun k hk1 hk2 hk3 => (Below.heap_setCell W2 ⟨B4, 0, none⟩ _ k (by show k ≠ B4; omega)).trans (h5 k hk2 (by omega) hk3)⟩
  · rw [valsP_append, List.flatMap_append, ← List.append_assoc, show (valsP [x]).flatMap (layL l r h) = layL l r h x.1 by simp [valsP]]
    exact h1.block (fun g e => Below.heap_setCell W2 ⟨B4, 0, none⟩ _ g (hb2 g e))
  · have hbx : Boxed W2 B4 22 v := (h5 B4 (by omega) (fun e => hub e.symm) (hne B4 hb (fun e => hgb e.symm))).trans j.box
    exact hbx.set _
  · obtain ⟨U', u1, u2⟩ := h3
    exact ⟨U', u1.setOther (fun e => hub e.symm) _, u2⟩
  · exact j.kp.trans ⟨hos.1, hos.2.1, hos.2.2, by simpa [World.setCell] using h4, hlow⟩
theorem flat_pre {l : List Cel} {f : Nat → List Cel} {a b : List Nat} (h : a <+: b) : (a.flatMap f).length ≤ (b.flatMap f).length := by
  obtain ⟨c, rfl⟩ := h
  rw [List.flatMap_append, List.length_append]; omega
end Go.Proofs.Ytlddglajdcednaa

namespace Go.Proofs.Ytlddglajdcednaa
open Go.RowKit
attribute [local go_sem] Oper.semAt_some

set_option maxRecDepth 100000 in
set_option maxHeartbeats 16000000 in
theorem lay_step {w0 : World} {C u s m : Nat} {l : List Cel} {r : List Nat} {d : Nat → Nat} (hG : Good l) (hl : l.length ≤ 1000) (hj : JoinOk l r []) (hC : Cls (veil [u, s] w0) C u s m l (endsL l)) (hu0 : u < w0.heap.size) (hs0 : s < w0.heap.size) (h : Nat)
    (ih : ∀ (w : World) (U : List Int) (p : Nat) (v : Value) (acc : List Cel), Fr [u] w0 w → RowU w u U → Roots l.length U (fun k => r.getD k 0) d → LR w w0.heap.size v acc → EndsIn l r h (r.getD p 0) → p < l.length → acc.length + (layL l r h p).length ≤ 100000 →
      Calls Try.prog 73 #[.pointer (some ⟨C, 0, none⟩), v, .int .i64 p] w (LayPost w0 w u l r d v (acc ++ layL l r h p)))
    (w : World) (U : List Int) (p : Nat) (v : Value) (acc : List Cel) (hF : Fr [u] w0 w) (hU : RowU w u U) (hR : Roots l.length U (fun k => r.getD k 0) d) (hA : LR w w0.heap.size v acc) (hE : EndsIn l r (h + 1) (r.getD p 0)) (hp : p < l.length) (hn : acc.length + (layL l r (h + 1) p).length ≤ 100000) :
    Calls Try.prog 73 #[.pointer (some ⟨C, 0, none⟩), v, .int .i64 p] w (LayPost w0 w u l r d v (acc ++ layL l r (h + 1) p)) := by
  obtain ⟨va, vn, vcap, hv⟩ : ∃ a n c, v = .slice a n c := by
    rcases hA.2 with ⟨e, _⟩ | ⟨g, cap, _, e, _⟩
    · exact ⟨_, _, _, e⟩
    · exact ⟨_, _, _, e⟩
  subst hv
  have HG := mkHid hG
  have HJ := mkHid hj
  have HU := mkHid hU
  have HR := mkHid hR
  have HC := mkHid hC
  have HA := mkHid hA
  have HIH := mkHid ih
  have HF := mkHid hF
  have hw0 := hF.size
  have x1 := (hj.top p hp).1
  obtain ⟨x, hx⟩ : ∃ x, x = r.getD p 0 := ⟨_, rfl⟩
  rw [← hx] at x1 hE
  have HX := mkHid hx
  have HE := mkHid hE
  have hp0 : (0 : Int) ≤ (p : Int) := by omega
  have hx0 : (0 : Int) ≤ (x : Int) := by omega
  have hxl : (x : Int) < (l.length : Int) := by omega
  have HL : Hid (layL l r (h + 1) p = l[x] :: (argsL l x).flatMap (layL l r h)) := by
    rw [Hid]
    conv => lhs; unfold layL
    rw [← hx, List.getElem?_eq_getElem x1]
  rw [HL.out, List.length_cons] at hn
  have HN := mkHid hn
  have hal : acc.length ≤ 1000000 := by omega
  have HC1 : Hid (∀ W, Fr [u] w0 W → Cls (veil [u, s] W) C u s m l (endsL l)) := fun W h => HC.out.keeps ((h.sub (by simp)).keeps)
  have hus := hC.us
  have hCl : C < w0.heap.size := cell_lt (veil_cell hC.first).2
  have hCu : C ∉ [u, s] := (veil_cell hC.first).1
  obtain ⟨ac, capc, q0, qr⟩ := hC.cells
  have c0w := (veil_cell q0).2
  obtain ⟨b, off, rfl, hb, hat⟩ := qr.cases.resolve_left (fun e => by simp [e] at x1)
  obtain ⟨f0w, f1w, f2w, _⟩ := cel_at hat (Below.refl _ _) x1
  have HKC : Hid (∀ W, Fr [u] w0 W → W.cell? ⟨C, 0, none⟩ = some (.slice (some ⟨b, off, none⟩) l.length capc) ∧ W.cell? ⟨b, off + x * 3, none⟩ = some (.int .i64 l[x].k) ∧ W.cell? ⟨b, off + x * 3 + 1, none⟩ = some (.string l[x].s) ∧ W.cell? ⟨b, off + x * 3 + 2, none⟩ = some (.int .i64 l[x].n)) := fun W hf => by
    have hk := ((hf.sub (vs := [u, s]) (by simp)).keeps)
    exact ⟨(veil_cell (hk _ _ _ q0)).2, (veil_cell (hk _ _ _ f0w)).2, (veil_cell (hk _ _ _ f1w)).2, (veil_cell (hk _ _ _ f2w)).2⟩
  clear hG hj hU hR hC hA hE ih hF hx hn q0 qr hat c0w f0w f1w f2w
  refine (callsIn_wide (n := 9)).1 ?_
  refine callsIn_of_wp_marks Try.func73 rfl trivial ?_ rfl
  simp only [Try.ntmps73, List.size_toArray, List.length_cons, List.length_nil, Nat.reduceAdd, Nat.reduceSub, Array.replicate_succ, Array.replicate_zero, List.push_toArray, List.append_toArray, List.nil_append, List.cons_append]
  refine wpIn_wide.2 ?_
  have HF0 : Hid (Fr [u] w0 ((w.alloc (.cells #[.pointer (some ⟨C, 0, none⟩)] 55)).alloc (.cells #[.slice va vn vcap] 22))) := (HF.out.alloc _).alloc _
  have HU0 : Hid (RowU ((w.alloc (.cells #[.pointer (some ⟨C, 0, none⟩)] 55)).alloc (.cells #[.slice va vn vcap] 22)) u U) := (HU.out.alloc _).alloc _
  have HA0 : Hid (LR ((w.alloc (.cells #[.pointer (some ⟨C, 0, none⟩)] 55)).alloc (.cells #[.slice va vn vcap] 22)) w0.heap.size (.slice va vn vcap) acc) := World.ownsRow.alloc (World.ownsRow.alloc HA.out _) _
  have HB3 : Hid (Boxed ((w.alloc (.cells #[.pointer (some ⟨C, 0, none⟩)] 55)).alloc (.cells #[.slice va vn vcap] 22)) w.heap.size 55 (.pointer (some ⟨C, 0, none⟩))) := (Boxed.new w _ _).alloc _
  have HB4 : Hid (Boxed ((w.alloc (.cells #[.pointer (some ⟨C, 0, none⟩)] 55)).alloc (.cells #[.slice va vn vcap] 22)) (w.heap.size + 1) 22 (.slice va vn vcap)) := by
    have h1 := Boxed.new (w.alloc (.cells #[.pointer (some ⟨C, 0, none⟩)] 55)) 22 (.slice va vn vcap)
    rw [World.size_alloc] at h1
    exact h1
  go_wp2_with fail
  with_reducible refine (find_row _ (HC1.out _ HF0.out) HU0.out HR.out (by omega) p hp x HX.out).mono ?_
  rintro e w1 ⟨rfl, U1, hU1, hR1, hF1, hs1⟩
  have hw1s : w.heap.size + 2 ≤ w1.heap.size := by rw [hs1]; simp
  have hb3 : Boxed w1 w.heap.size 55 (.pointer (some ⟨C, 0, none⟩)) := (hF1.block _ HB3.out.lt (by simp; omega)).trans HB3.out
  have hb4 : Boxed w1 (w.heap.size + 1) 22 (.slice va vn vcap) := (hF1.block _ HB4.out.lt (by simp; omega)).trans HB4.out
  have hlt := HA.out.lt
  have hA1 : LR w1 w0.heap.size (.slice va vn vcap) acc := HA0.out.block (fun g e => hF1.block g (by have := (hlt g e).2; simp; omega) (by simp; have := (hlt g e).1; omega))
  have hF1' : Fr [u] w0 w1 := HF0.out.trans hF1
  have hblk : ∀ k, k < w.heap.size → k ≠ u → w1.heap[k]? = w.heap[k]? := fun k hk hn => (hF1.block k (by simp; omega) (by simp; exact hn)).trans ((heap_alloc_old _ _ (by simp; omega)).trans (heap_alloc_old _ _ hk))
  obtain ⟨v1, wa, hrun, hA2, hg2, hv2, g0, cap0, rfl⟩ := run_lay (W := w1.drew) hA1 l[x] hal (show w0.heap.size ≤ w1.heap.size by omega) 22
  have c3 := hb3.cell
  have c4 := hb4.cell
  have f4 := hb4.frozen
  have l3 := hb3.lt
  have l4 := hb4.lt
  have hg0 : (Value.slice (some ⟨g0, 0, none⟩) (acc.length + 1) cap0).ownBlock = some g0 := rfl
  have hsd : w1.drew.heap.size = w1.heap.size := rfl
  have hrunA : (Builtin.append_ #[22, 22] 22 #[.slice va vn vcap, .slice (some ⟨w1.heap.size, 0, none⟩) 1 1]).run Try.prog (w1.drew.alloc (.cells #[.int .i64 l[x].k, .string l[x].s, .int .i64 l[x].n] 42)) = .ok (.slice (some ⟨g0, 0, none⟩) (acc.length + 1) cap0) wa := hrun
  have hrunB : (Builtin.append_ #[22, 22] 22 #[.slice va vn vcap, .slice (some ⟨w1.heap.size, 0, none⟩) 1 1]).run Try.prog (w1.alloc (.cells #[.int .i64 l[x].k, .string l[x].s, .int .i64 l[x].n] 42)).drew = .ok (.slice (some ⟨g0, 0, none⟩) (acc.length + 1) cap0) wa := hrun
  clear hrun
  have hgl := hg2.size
  simp only [World.size_alloc, hsd] at hgl
  have hoa : ∀ k, k < w1.heap.size → (Value.slice va vn vcap).ownBlock ≠ some k → wa.heap[k]? = w1.heap[k]? := fun k hk hn => (hg2.block k (by simp only [World.size_alloc, hsd]; omega) (fun e => hn e.symm)).trans (heap_alloc_old w1.drew _ hk)
  have hvo : ∀ k, w.heap.size ≤ k ∨ k < w0.heap.size → (Value.slice va vn vcap).ownBlock ≠ some k := fun k hk e => by have := hlt k e; omega
  have hFa : Fr [u] w0 wa := ⟨hg2.os.trans hF1'.os, hg2.tape.trans hF1'.tape, hg2.output.trans hF1'.output, by omega, fun k hk hn => (hoa k (by omega) (hvo k (.inr hk))).trans (hF1'.block k hk hn)⟩
  have b3a : Boxed wa w.heap.size 55 (.pointer (some ⟨C, 0, none⟩)) := (hoa _ (by omega) (hvo _ (.inl (Nat.le_refl _)))).trans hb3
  have b4a : Boxed wa (w.heap.size + 1) 22 (.slice va vn vcap) := (hoa _ (by omega) (hvo _ (.inl (by omega)))).trans hb4
  have hUa : RowU wa u U1 := (hoa u (by omega) (hvo u (.inr hu0))).trans hU1
  have hg0l := hA2.lt g0 hg0
  have hg0n : g0 ≠ w.heap.size + 1 := by
    rcases hv2 with q | q
    · rw [hg0] at q; have := hlt g0 q.symm; omega
    · rw [hg0] at q; have q := Option.some.inj q; rw [hsd] at q; omega
  have hg0m : g0 ≠ w.heap.size := by
    rcases hv2 with q | q
    · rw [hg0] at q; have := hlt g0 q.symm; omega
    · rw [hg0] at q; have q := Option.some.inj q; rw [hsd] at q; omega
  have hfb : Fr [u] w0 (wa.setCell ⟨w.heap.size + 1, 0, none⟩ (.slice (some ⟨g0, 0, none⟩) (acc.length + 1) cap0)) := ⟨hFa.os, hFa.tape, hFa.output, by have := hFa.size; simpa [World.setCell] using this, fun k hk hn => (Below.heap_setCell wa ⟨w.heap.size + 1, 0, none⟩ _ k (by show k ≠ w.heap.size + 1; omega)).trans (hFa.block k hk hn)⟩
  have b3b : Boxed (wa.setCell ⟨w.heap.size + 1, 0, none⟩ (.slice (some ⟨g0, 0, none⟩) (acc.length + 1) cap0)) w.heap.size 55 (.pointer (some ⟨C, 0, none⟩)) := (Below.heap_setCell wa ⟨w.heap.size + 1, 0, none⟩ _ _ (by show w.heap.size ≠ w.heap.size + 1; omega)).trans b3a
  have HSA : Hid (∀ W, Fr [u] w0 W → Boxed W w.heap.size 55 (.pointer (some ⟨C, 0, none⟩)) → (fun w' : World => w'.cell? ⟨w.heap.size, 0, none⟩ = some (.pointer (some ⟨C, 0, none⟩)) ∧ w'.cell? ⟨C, 0, none⟩ = some (.slice (some ⟨b, off, none⟩) l.length capc) ∧ w'.cell? ⟨b, off + x * 3, none⟩ = some (.int .i64 l[x].k) ∧ w'.cell? ⟨b, off + x * 3 + 1, none⟩ = some (.string l[x].s) ∧ w'.cell? ⟨b, off + x * 3 + 2, none⟩ = some (.int .i64 l[x].n)) W) := fun W hf hb => ⟨hb.cell, HKC.out W hf⟩
  have HS1 : Hid ((fun w' : World => w'.cell? ⟨w.heap.size, 0, none⟩ = some (.pointer (some ⟨C, 0, none⟩)) ∧ w'.cell? ⟨C, 0, none⟩ = some (.slice (some ⟨b, off, none⟩) l.length capc) ∧ w'.cell? ⟨b, off + x * 3, none⟩ = some (.int .i64 l[x].k) ∧ w'.cell? ⟨b, off + x * 3 + 1, none⟩ = some (.string l[x].s) ∧ w'.cell? ⟨b, off + x * 3 + 2, none⟩ = some (.int .i64 l[x].n)) w1.drew) := HSA.out _ hF1'.drew hb3
  have HS2 : Hid ((fun w' : World => w'.cell? ⟨w.heap.size, 0, none⟩ = some (.pointer (some ⟨C, 0, none⟩)) ∧ w'.cell? ⟨C, 0, none⟩ = some (.slice (some ⟨b, off, none⟩) l.length capc) ∧ w'.cell? ⟨b, off + x * 3, none⟩ = some (.int .i64 l[x].k) ∧ w'.cell? ⟨b, off + x * 3 + 1, none⟩ = some (.string l[x].s) ∧ w'.cell? ⟨b, off + x * 3 + 2, none⟩ = some (.int .i64 l[x].n)) (w1.drew.alloc (.cells #[.int .i64 l[x].k, .string l[x].s, .int .i64 l[x].n] 42))) := HSA.out _ (hF1'.drew.alloc _) ((show Boxed w1.drew w.heap.size _ _ from hb3).alloc _)
  have HS3 : Hid ((fun w' : World => w'.cell? ⟨w.heap.size, 0, none⟩ = some (.pointer (some ⟨C, 0, none⟩)) ∧ w'.cell? ⟨C, 0, none⟩ = some (.slice (some ⟨b, off, none⟩) l.length capc) ∧ w'.cell? ⟨b, off + x * 3, none⟩ = some (.int .i64 l[x].k) ∧ w'.cell? ⟨b, off + x * 3 + 1, none⟩ = some (.string l[x].s) ∧ w'.cell? ⟨b, off + x * 3 + 2, none⟩ = some (.int .i64 l[x].n)) wa) := HSA.out _ hFa b3a
  have HS4 : Hid ((fun w' : World => w'.cell? ⟨w.heap.size, 0, none⟩ = some (.pointer (some ⟨C, 0, none⟩)) ∧ w'.cell? ⟨C, 0, none⟩ = some (.slice (some ⟨b, off, none⟩) l.length capc) ∧ w'.cell? ⟨b, off + x * 3, none⟩ = some (.int .i64 l[x].k) ∧ w'.cell? ⟨b, off + x * 3 + 1, none⟩ = some (.string l[x].s) ∧ w'.cell? ⟨b, off + x * 3 + 2, none⟩ = some (.int .i64 l[x].n)) (wa.setCell ⟨w.heap.size + 1, 0, none⟩ (.slice (some ⟨g0, 0, none⟩) (acc.length + 1) cap0))) := HSA.out _ hfb b3b
  have c4a := b4a.cell
  have f4a := b4a.frozen
  have HF1 := mkHid hF1'
  have HFA := mkHid hFa
  have HFB := mkHid hfb
  have HB3A := mkHid b3a
  have HB3B := mkHid b3b
  have HB4A := mkHid b4a
  have HUA := mkHid hUa
  have HR1 := mkHid hR1
  have HA2 := mkHid hA2
  have HOA := mkHid hoa
  have HBLK := mkHid hblk
  have HVO := mkHid hvo
  have HV2 := mkHid hv2
  have HG0 := mkHid hg0
  have HLT := mkHid hlt
  have HOS : Hid (wa.os = w.os ∧ wa.tape = w.tape ∧ wa.output = w.output) := ⟨hg2.os.trans (hF1.os.trans rfl), hg2.tape.trans (hF1.tape.trans rfl), hg2.output.trans (hF1.output.trans rfl)⟩
  clear hU1 hR1 hF1 hF1' hs1 hb3 hb4 hlt hA1 hblk hA2 hg2 hv2 hg0 hoa hvo hFa hfb b3a b3b b4a hUa hsd
  go_wp2_with fail
  have hs1h := HS1.out
  refine wp_region_noPanic ?_
  refine wp_region_held_drew (S := (fun w' : World => w'.cell? ⟨w.heap.size, 0, none⟩ = some (.pointer (some ⟨C, 0, none⟩)) ∧ w'.cell? ⟨C, 0, none⟩ = some (.slice (some ⟨b, off, none⟩) l.length capc) ∧ w'.cell? ⟨b, off + x * 3, none⟩ = some (.int .i64 l[x].k) ∧ w'.cell? ⟨b, off + x * 3 + 1, none⟩ = some (.string l[x].s) ∧ w'.cell? ⟨b, off + x * 3 + 2, none⟩ = some (.int .i64 l[x].n))) (by kernel_rfl) HS1.out (fun hSd => ?_)
  clear hs1h
  refine wpAnyH_take (i := 1) (oi := _) (v := ?_) rfl (by kernel_rfl) (by kernel_rfl) (by kernel_rfl) (fun _ _ _ h => h) (Or.inl ⟨by rfl, ?_⟩) (by assumption) ?_
  rotate_left
  · (intro w' hSw; (try dsimp only at hSw); go_simp; try with_reducible rfl)
  (try simp only [Act.put, List.setIfInBounds_toArray, List.set_cons_zero, List.set_cons_succ])
  refine wpAnyH_take (i := 2) (oi := _) (v := ?_) rfl (by kernel_rfl) (by kernel_rfl) (by kernel_rfl) (fun _ _ _ h => h) (Or.inl ⟨by rfl, ?_⟩) (by assumption) ?_
  rotate_left
  · (intro w' hSw; (try dsimp only at hSw); go_simp; try with_reducible rfl)
  (try simp only [Act.put, List.setIfInBounds_toArray, List.set_cons_zero, List.set_cons_succ])
  refine wpAnyH_take (i := 3) (oi := _) (v := ?_) rfl (by kernel_rfl) (by kernel_rfl) (by kernel_rfl) (fun _ _ _ h => h) (Or.inl ⟨by rfl, ?_⟩) (by assumption) ?_
  rotate_left
  · (intro w' hSw; (try dsimp only at hSw); go_simp; try with_reducible rfl)
  (try simp only [Act.put, List.setIfInBounds_toArray, List.set_cons_zero, List.set_cons_succ])
  refine wpAnyH_take (i := 4) (oi := _) (v := ?_) rfl (by kernel_rfl) (by kernel_rfl) (by kernel_rfl) (fun _ _ _ h => h) (Or.inl ⟨by rfl, ?_⟩) (by assumption) ?_
  rotate_left
  · (intro w' hSw; (try dsimp only at hSw); go_simp; try with_reducible rfl)
  (try simp only [Act.put, List.setIfInBounds_toArray, List.set_cons_zero, List.set_cons_succ])
  refine wpAnyH_take (i := 5) (oi := _) (v := ?_) rfl (by kernel_rfl) (by kernel_rfl) (by kernel_rfl) (fun _ _ _ h => h) (Or.inl ⟨by rfl, ?_⟩) (by assumption) ?_
  rotate_left
  · (intro w' hSw; (try dsimp only at hSw); go_simp; try with_reducible rfl)
  (try simp only [Act.put, List.setIfInBounds_toArray, List.set_cons_zero, List.set_cons_succ])
  refine wpAnyH_take (i := 6) (oi := _) (v := ?_) rfl (by kernel_rfl) (by kernel_rfl) (by kernel_rfl) (fun _ _ _ h => h) (Or.inl ⟨by rfl, ?_⟩) (by assumption) ?_
  rotate_left
  · (intro w' hSw; (try dsimp only at hSw); go_simp; try with_reducible rfl)
  (try simp only [Act.put, List.setIfInBounds_toArray, List.set_cons_zero, List.set_cons_succ])
  refine wpAnyH_take (i := 7) (oi := _) (v := ?_) rfl (by kernel_rfl) (by kernel_rfl) (by kernel_rfl) (fun _ _ _ h => h) (Or.inl ⟨by rfl, ?_⟩) (by assumption) ?_
  rotate_left
  · (intro w' hSw; (try dsimp only at hSw); go_simp; try with_reducible rfl)
  (try simp only [Act.put, List.setIfInBounds_toArray, List.set_cons_zero, List.set_cons_succ])
  refine wpAnyH_ready (rs := [0, 8]) (by kernel_rfl) (by simp) ?_
  refine AllReadyH.cons (o := _) rfl (fun K hK => ?_) ?_
  rotate_left
  refine AllReadyH.cons (o := _) rfl (fun K hK => ?_) AllReadyH.nil
  go_simp
  refine hK.out _ _ HS2.out (fun hS3 => ?_)
  clear hK K
  (try simp only [Act.put, List.setIfInBounds_toArray, List.set_cons_zero, List.set_cons_succ])
  refine wpAnyH_ready (rs := [0]) (by kernel_rfl) (by simp) ?_
  refine AllReadyH.cons (o := _) rfl (fun K hK => ?_) AllReadyH.nil
  go_simp
  refine hK.out _ _ HS2.out (fun hS3 => ?_)
  clear hK K
  (try simp only [Act.put, List.setIfInBounds_toArray, List.set_cons_zero, List.set_cons_succ])
  refine wpAnyH_ready (rs := [9]) (by kernel_rfl) (by simp) ?_
  refine AllReadyH.cons (o := _) rfl (fun K hK => ?_) AllReadyH.nil
  (rw [if_pos (by rfl)]; simp [Oper.wp, execOp, resolve, invoke, builtin, Oper.upon, Act.eval, hrunA, hrunB, Result.andThen, Sem.run_bind])
  refine hK.out _ _ HS3.out (fun hS3 => ?_)
  clear hK K
  (try simp only [Act.put, List.setIfInBounds_toArray, List.set_cons_zero, List.set_cons_succ])
  refine wpAnyH_ready (rs := [10]) (by kernel_rfl) (by simp) ?_
  refine AllReadyH.cons (o := _) rfl (fun K hK => ?_) AllReadyH.nil
  go_simp
  refine hK.out _ _ HS4.out (fun hS3 => ?_)
  clear hK K
  (try simp only [Act.put, List.setIfInBounds_toArray, List.set_cons_zero, List.set_cons_succ])
  refine wpAnyH_done (by kernel_rfl) (NoPanic.normal ?_) _
  rotate_left
  go_simp
  refine hK.out _ _ HS1.out (fun hS3 => ?_)
  clear hK K
  (try simp only [Act.put, List.setIfInBounds_toArray, List.set_cons_zero, List.set_cons_succ])
  refine wpAnyH_ready (rs := [8]) (by kernel_rfl) (by simp) ?_
  refine AllReadyH.cons (o := _) rfl (fun K hK => ?_) AllReadyH.nil
  go_simp
  refine hK.out _ _ HS2.out (fun hS3 => ?_)
  clear hK K
  (try simp only [Act.put, List.setIfInBounds_toArray, List.set_cons_zero, List.set_cons_succ])
  refine wpAnyH_ready (rs := [9]) (by kernel_rfl) (by simp) ?_
  refine AllReadyH.cons (o := _) rfl (fun K hK => ?_) AllReadyH.nil
  (rw [if_pos (by rfl)]; simp [Oper.wp, execOp, resolve, invoke, builtin, Oper.upon, Act.eval, hrunA, hrunB, Result.andThen, Sem.run_bind])
  refine hK.out _ _ HS3.out (fun hS3 => ?_)
  clear hK K
  (try simp only [Act.put, List.setIfInBounds_toArray, List.set_cons_zero, List.set_cons_succ])
  refine wpAnyH_ready (rs := [10]) (by kernel_rfl) (by simp) ?_
  refine AllReadyH.cons (o := _) rfl (fun K hK => ?_) AllReadyH.nil
  go_simp
  refine hK.out _ _ HS4.out (fun hS3 => ?_)
  clear hK K
  (try simp only [Act.put, List.setIfInBounds_toArray, List.set_cons_zero, List.set_cons_succ])
  refine wpAnyH_done (by kernel_rfl) (NoPanic.normal ?_) _
  all_goals
    clear hrunA hrunB
    have hsb : (wa.setCell ⟨w.heap.size + 1, 0, none⟩ (.slice (some ⟨g0, 0, none⟩) (acc.length + 1) cap0)).heap.size = wa.heap.size := by simp [World.setCell]
    have c3b := HB3B.out.cell
    have l3b := HB3B.out.lt
    have HSB := mkHid hsb
    clear hsb
    go_wp2
    have hFR : Fr [u] w0 (((wa.setCell ⟨w.heap.size + 1, 0, none⟩ (.slice (some ⟨g0, 0, none⟩) (acc.length + 1) cap0)).alloc (.cells #[.pointer (some ⟨C, 0, none⟩)] 55)).alloc (.cells #[.int .i64 x] 3)) := (HFB.out.alloc _).alloc _
    have hUR : RowU (((wa.setCell ⟨w.heap.size + 1, 0, none⟩ (.slice (some ⟨g0, 0, none⟩) (acc.length + 1) cap0)).alloc (.cells #[.pointer (some ⟨C, 0, none⟩)] 55)).alloc (.cells #[.int .i64 x] 3)) u U1 := ((HUA.out.setOther (by omega) _).alloc _).alloc _
    have bCR := (Boxed.new (wa.setCell ⟨w.heap.size + 1, 0, none⟩ (.slice (some ⟨g0, 0, none⟩) (acc.length + 1) cap0)) 55 (.pointer (some ⟨C, 0, none⟩))).alloc (.cells #[.int .i64 x] 3)
    have bXR := Boxed.new ((wa.setCell ⟨w.heap.size + 1, 0, none⟩ (.slice (some ⟨g0, 0, none⟩) (acc.length + 1) cap0)).alloc (.cells #[.pointer (some ⟨C, 0, none⟩)] 55)) 3 (.int .i64 x)
    have b3R : Boxed (((wa.setCell ⟨w.heap.size + 1, 0, none⟩ (.slice (some ⟨g0, 0, none⟩) (acc.length + 1) cap0)).alloc (.cells #[.pointer (some ⟨C, 0, none⟩)] 55)).alloc (.cells #[.int .i64 x] 3)) w.heap.size 55 (.pointer (some ⟨C, 0, none⟩)) := (HB3B.out.alloc _).alloc _
    have b4b : Boxed (wa.setCell ⟨w.heap.size + 1, 0, none⟩ (.slice (some ⟨g0, 0, none⟩) (acc.length + 1) cap0)) (w.heap.size + 1) 22 (.slice (some ⟨g0, 0, none⟩) (acc.length + 1) cap0) := HB4A.out.set _
    have b4R : Boxed (((wa.setCell ⟨w.heap.size + 1, 0, none⟩ (.slice (some ⟨g0, 0, none⟩) (acc.length + 1) cap0)).alloc (.cells #[.pointer (some ⟨C, 0, none⟩)] 55)).alloc (.cells #[.int .i64 x] 3)) (w.heap.size + 1) 22 (.slice (some ⟨g0, 0, none⟩) (acc.length + 1) cap0) := (b4b.alloc _).alloc _
    have hLR : LR (((wa.setCell ⟨w.heap.size + 1, 0, none⟩ (.slice (some ⟨g0, 0, none⟩) (acc.length + 1) cap0)).alloc (.cells #[.pointer (some ⟨C, 0, none⟩)] 55)).alloc (.cells #[.int .i64 x] 3)) w0.heap.size (.slice (some ⟨g0, 0, none⟩) (acc.length + 1) cap0) (acc ++ [l[x]]) := HA2.out.block (fun g e => by
      obtain rfl : g0 = g := by simpa [Value.ownBlock] using e
      rw [heap_alloc_old _ _ (by simp only [World.size_alloc, HSB.out]; omega), heap_alloc_old _ _ (by rw [HSB.out]; omega)]
      exact Below.heap_setCell wa ⟨w.heap.size + 1, 0, none⟩ _ g0 (by show g0 ≠ w.heap.size + 1; exact hg0n))
    have hblkR : ∀ k, k < w.heap.size → k ≠ u → (Value.slice va vn vcap).ownBlock ≠ some k → ((((wa.setCell ⟨w.heap.size + 1, 0, none⟩ (.slice (some ⟨g0, 0, none⟩) (acc.length + 1) cap0)).alloc (.cells #[.pointer (some ⟨C, 0, none⟩)] 55)).alloc (.cells #[.int .i64 x] 3))).heap[k]? = w.heap[k]? := fun k hk hn ho => by
      rw [heap_alloc_old _ _ (by simp only [World.size_alloc, HSB.out]; omega), heap_alloc_old _ _ (by rw [HSB.out]; omega), Below.heap_setCell wa ⟨w.heap.size + 1, 0, none⟩ _ k (by show k ≠ w.heap.size + 1; omega), HOA.out k (by omega) ho, HBLK.out k hk hn]
    have hosR : ((((wa.setCell ⟨w.heap.size + 1, 0, none⟩ (.slice (some ⟨g0, 0, none⟩) (acc.length + 1) cap0)).alloc (.cells #[.pointer (some ⟨C, 0, none⟩)] 55)).alloc (.cells #[.int .i64 x] 3))).os = w.os ∧ ((((wa.setCell ⟨w.heap.size + 1, 0, none⟩ (.slice (some ⟨g0, 0, none⟩) (acc.length + 1) cap0)).alloc (.cells #[.pointer (some ⟨C, 0, none⟩)] 55)).alloc (.cells #[.int .i64 x] 3))).tape = w.tape ∧ ((((wa.setCell ⟨w.heap.size + 1, 0, none⟩ (.slice (some ⟨g0, 0, none⟩) (acc.length + 1) cap0)).alloc (.cells #[.pointer (some ⟨C, 0, none⟩)] 55)).alloc (.cells #[.int .i64 x] 3))).output = w.output := HOS.out
    have hsR : (((wa.setCell ⟨w.heap.size + 1, 0, none⟩ (.slice (some ⟨g0, 0, none⟩) (acc.length + 1) cap0)).alloc (.cells #[.pointer (some ⟨C, 0, none⟩)] 55)).alloc (.cells #[.int .i64 x] 3)).heap.size = wa.heap.size + 2 := by simp only [World.size_alloc, HSB.out]
    simp only [World.size_alloc, HSB.out] at bCR bXR
    generalize (((wa.setCell ⟨w.heap.size + 1, 0, none⟩ (.slice (some ⟨g0, 0, none⟩) (acc.length + 1) cap0)).alloc (.cells #[.pointer (some ⟨C, 0, none⟩)] 55)).alloc (.cells #[.int .i64 x] 3)) = WR at hFR hUR bCR bXR b3R b4R hLR hblkR hosR hsR ⊢
    have hsR1 := Nat.le_of_eq hsR
    have hsR2 := Nat.le_of_eq hsR.symm
    have HBR := mkHid hblkR
    have HOR := mkHid hosR
    clear hsR b4b hblkR hosR c4a f4a c3 c4 f4 c3b l3b
    have hCR : Cls (veil [u, s, w.heap.size + 1, g0] WR) C u s m l (endsL l) := HC.out.keeps (veil_more2 (hFR.sub (vs := [u, s]) (by simp)) (fun k hk => by
      simp only [List.mem_cons, List.not_mem_nil, or_false] at hk ⊢
      omega))
    have hI0 : LI w0 WR u (w.heap.size + 1) g0 l r d h (acc ++ [l[x]]) [] WR := ⟨_, by simpa [valsP] using hLR, b4R, ⟨U1, hUR, HR1.out⟩, KpN.refl _ _ _, .inl rfl⟩
    have huR : u < WR.heap.size := by omega
    have h4R : w.heap.size + 1 < WR.heap.size := by omega
    have hgR : g0 < WR.heap.size := by omega
    refine (wpIn_wide (n := 9)).1 ?_
    refine range_own (F := Fence.wide) rfl (by omega) (gf := 84) (lb := #[.pointer (some ⟨wa.heap.size + 1, 0, none⟩), .pointer (some ⟨wa.heap.size, 0, none⟩)]) rfl trivial (enters_of Try.func84 (by kernel_rfl) rfl)
      (parts1_own Fence.wide 8 trivial trivial rfl (by omega) (wa.heap.size + 1) wa.heap.size [u, s, w.heap.size + 1, g0] WR hCR HG.out hl x x1 WR (Fr.refl _ _) bXR.cell bCR.cell)
      KpF.trans (fun A o o' _ => ⟨rfl, rfl, rfl, by simp, fun k hk _ => World.putObj_heap_other (by omega), World.putObj_heap_other (by omega), World.putObj_heap_other (by omega)⟩) (fun _ => rfl)
      (I := LI w0 WR u (w.heap.size + 1) g0 l r d h (acc ++ [l[x]])) (Ix := fun _ _ _ => False) ?hI ?hIx ?h0 ?a1 ?assign ?body ?done ?stop
    case hI => exact LI.own huR h4R hgR
    case hIx => intro _ _ _ _ _ h; exact h.elim
    case h0 => exact hI0
    case assign =>
      intro l2 e W' K hK
      gi_wp2
      exact hK
    case body =>
      rintro l2 pre e W hsz2 ⟨v, lj⟩ ⟨W', hT, _⟩
      have hFW : Fr [u] w0 W := KpN.fr hFR (⟨lj.kp.os, lj.kp.tape, lj.kp.output, lj.kp.size, fun k hk hn => lj.kp.block k (by omega) (by simp at hn ⊢; omega)⟩ : KpN w0.heap.size [u] WR W) (Nat.le_refl _)
      have b3W : Boxed W w.heap.size 55 (.pointer (some ⟨C, 0, none⟩)) := (lj.kp.block _ (by omega) (by simp; omega)).trans b3R
      have g3 := b3W.cell
      obtain ⟨ea, en, ecap, hev⟩ : ∃ a n c, v = .slice a n c := by
        rcases lj.row.2 with ⟨e, _⟩ | ⟨g, cap, _, e, _⟩
        · exact ⟨_, _, _, e⟩
        · exact ⟨_, _, _, e⟩
      subst hev
      have g4 := lj.box.cell
      have hlen : ((acc ++ [l[x]]) ++ (valsP pre).flatMap (layL l r h)).length + (layL l r h e.1).length ≤ 100000 := by
        have h1 := flat_pre (l := l) (f := layL l r h) hT
        rw [valsP_append, List.flatMap_append, List.length_append, show (valsP [e]).flatMap (layL l r h) = layL l r h e.1 by simp [valsP]] at h1
        have h2 := HN.out
        simp only [List.length_append, List.length_singleton] at *
        omega
      have hmem : e.1 ∈ argsL l x := hT.subset (by rw [valsP_append]; simp [valsP])
      obtain ⟨U', u1, u2⟩ := lj.up
      have hcall := HIH.out W U' e.1 _ _ hFW u1 u2 lj.row (HE.out e.1 hmem) e.2 hlen
      have HCALL := mkHid hcall
      have HLJ := mkHid lj
      have HFW := mkHid hFW
      clear hcall hT lj hFW b3W u1 u2 hmem hlen
      gi_wp2_with fail
      refine ⟨trivial, (CallsIn.inRound l2 ((callsIn_wide (n := 6)).2 HCALL.out)).mono ?_⟩
      rintro ev W2 ⟨v2, rfl, n1, n2, n3, n4, n5, n6⟩
      obtain ⟨ca, cn, ccap, hcv⟩ : ∃ a n c, v2 = .slice a n c := by
        rcases n1.2 with ⟨e, _⟩ | ⟨g, cap, _, e, _⟩
        · exact ⟨_, _, _, e⟩
        · exact ⟨_, _, _, e⟩
      subst hcv
      have hsW := HLJ.out.kp.size
      have how : (Value.slice ea en ecap).ownBlock ≠ some (w.heap.size + 1) := fun e => by
        rcases HLJ.out.wh with q | ⟨g, q, hq⟩
        · rw [e] at q; have q := Option.some.inj q; omega
        · rw [e] at q; have q := Option.some.inj q; omega
      have b4W2 : Boxed W2 (w.heap.size + 1) 22 (.slice ea en ecap) := (n5 _ (by omega) (by omega) how).trans HLJ.out.box
      have y4 := b4W2.cell
      have y4f := b4W2.frozen
      have hnx := LI.next h4R (by omega) hg0n hu0 (by omega) (by omega) hsz2 HLJ.out n1 n2 ⟨n2.os.trans HFW.out.os.symm, n2.tape.trans HFW.out.tape.symm, n2.output.trans HFW.out.output.symm⟩ n3 n4 n5 n6
      have HNX := mkHid hnx
      have HOS2 : Hid (W2.os = W.os ∧ W2.tape = W.tape ∧ W2.output = W.output) := ⟨n2.os.trans HFW.out.os.symm, n2.tape.trans HFW.out.tape.symm, n2.output.trans HFW.out.output.symm⟩
      clear hnx n1 n2 n3 n5 n6 b4W2 how
      gi_wp2
      obtain ⟨m1, m2, m3⟩ := HNX.out
      have hne : ∀ k, WR.heap.size ≤ k → k < WR.heap.size + 2 → (Value.slice ea en ecap).ownBlock ≠ some k := fun k hk1 hk2 e => by
        rcases HLJ.out.wh with q | ⟨g, q, hq⟩
        · rw [e] at q; have q := Option.some.inj q; omega
        · rw [e] at q; have q := Option.some.inj q; omega
      refine ⟨⟨m3 _ (Nat.le_refl _) (by omega) (hne _ (Nat.le_refl _) (by omega)), m3 _ (by omega) (by omega) (hne _ (by omega) (by omega))⟩, ⟨HOS2.out.1, HOS2.out.2.1, HOS2.out.2.2, by simpa [World.setCell] using n4, fun k hk hn => m2 k hk (by simp at hn ⊢; omega), m2 _ (by omega) (by simp; omega), m2 _ (by omega) (by simp; omega)⟩, m1⟩
    case done =>
      rintro D zs W hD hS1 ⟨v, lj⟩ hDd
      have hsW := lj.kp.size
      obtain ⟨ea, en, ecap, hev⟩ : ∃ a n c, v = .slice a n c := by
        rcases lj.row.2 with ⟨e, _⟩ | ⟨g, cap, _, e, _⟩
        · exact ⟨_, _, _, e⟩
        · exact ⟨_, _, _, e⟩
      subst hev
      have g4 := lj.box.cell
      have HPO : Hid (LayPost w0 w u l r d (.slice va vn vcap) (acc ++ layL l r (h + 1) p) (.returned (.slice ea en ecap)) (shutAll [D] W)) := by
        have hsh : ∀ k, k ≠ D → (shutAll [D] W).heap[k]? = W.heap[k]? := fun k hk => shutAll_heap [D] W k (by simp; exact hk)
        have hFW : Fr [u] w0 W := KpN.fr hFR (⟨lj.kp.os, lj.kp.tape, lj.kp.output, lj.kp.size, fun k hk hn => lj.kp.block k (by omega) (by simp at hn ⊢; omega)⟩ : KpN w0.heap.size [u] WR W) (Nat.le_refl _)
        obtain ⟨U', u1, u2⟩ := lj.up
        have hDg : ∀ g, (Value.slice ea en ecap).ownBlock = some g → g ≠ D := fun g e e2 => by
          subst e2
          obtain ⟨cur, hc⟩ := lj.row.cells e
          rw [hDd] at hc; cases hc
        refine ⟨_, rfl, ?_, KpN.fr hFW (shutAll_kpn (N := w0.heap.size) (by simp; omega)) (Nat.le_refl _), ⟨U', (hsh u (by omega)).trans u1, u2⟩, by rw [shutAll_size]; omega, fun k hk hn ho => ?_, ?_⟩
        · rw [HL.out, ← hS1]
          have h1 := lj.row
          rw [List.append_assoc, List.singleton_append] at h1
          exact h1.block (fun g e => hsh g (hDg g e))
        · have hkg : k ≠ g0 := fun e => by
            subst e
            rcases HV2.out with q | q
            · exact ho (q.symm.trans HG0.out)
            · rw [HG0.out] at q; have q := Option.some.inj q; have : w1.drew.heap.size = w1.heap.size := rfl; omega
          rw [hsh k (by omega), lj.kp.block k (by omega) (by simp; omega), HBR.out k hk hn ho]
        · rcases lj.wh with q | ⟨g, q, hq⟩
          · rcases HV2.out with q2 | q2
            · exact .inl (q.trans (HG0.out.symm.trans q2))
            · exact .inr ⟨g0, q, by rw [HG0.out] at q2; have q2 := Option.some.inj q2; have : w1.drew.heap.size = w1.heap.size := rfl; omega⟩
          · exact .inr ⟨g, q, by omega⟩
      have HDd := mkHid hDd
      clear lj hS1 hDd
      go_wp2
      show LeavesInM _ _ _ _ _ _ (marksOf [D]) .returning W
      refine leaves_marks [D] W (by simp) (fun E hE => by simp at hE; subst hE; exact HDd.out) ?_
      refine ⟨_, results_tmp (t := 6) rfl _ _ _, ?_⟩
      exact HPO.out
    case stop => intro _ _ _ _ _ _ h; exact h.elim
theorem lay_any {w0 : World} {C u s m : Nat} {l : List Cel} {r : List Nat} {d : Nat → Nat} (hG : Good l) (hl : l.length ≤ 1000) (hj : JoinOk l r []) (hC : Cls (veil [u, s] w0) C u s m l (endsL l)) (hu0 : u < w0.heap.size) (hs0 : s < w0.heap.size) :
    ∀ (h : Nat) (w : World) (U : List Int) (p : Nat) (v : Value) (acc : List Cel), Fr [u] w0 w → RowU w u U → Roots l.length U (fun k => r.getD k 0) d → LR w w0.heap.size v acc → EndsIn l r h (r.getD p 0) → p < l.length → acc.length + (layL l r h p).length ≤ 100000 →
      Calls Try.prog 73 #[.pointer (some ⟨C, 0, none⟩), v, .int .i64 p] w (LayPost w0 w u l r d v (acc ++ layL l r h p)) := by
  intro h
  induction h with
  | zero => intro _ _ _ _ _ _ _ _ _ he; exact he.elim
  | succ h ih => exact lay_step hG hl hj hC hu0 hs0 h ih
end Go.Proofs.Ytlddglajdcednaa

namespace Go.Proofs.Ytlddglajdcednaa
open Go.RowKit

theorem Fr.grown {u : Nat} {w w' : World} (h : Fr [u] w w') : w.grownBy w' (some u) := ⟨h.os, h.tape, h.output, h.size, fun k hk hn => h.block k hk (by simp; exact fun e => hn (by rw [e]))⟩
theorem lay_mem {l : List Cel} {r : List Nat} : ∀ (f p : Nat), ∀ c ∈ layL l r f p, c ∈ l
  | 0, _, _, h => by cases h
  | f + 1, p, c, h => by
    unfold layL at h
    cases hc : l[r.getD p 0]? with
    | none => rw [hc] at h; cases h
    | some c0 =>
      rw [hc] at h
      rcases List.mem_cons.1 h with rfl | h
      · exact List.mem_of_getElem? hc
      · obtain ⟨q, _, hq⟩ := List.mem_flatMap.1 h
        exact lay_mem f q c hq
theorem LR.newRow {W : World} {B : Nat} {v : Value} {acc : List Cel} (h : LR W B v acc) (hf : ∀ c ∈ acc, c.fit) : ∃ a cap, v = .slice a acc.length cap ∧ NewRow B W a cap acc :=
  own_newG (α := Cel) h (crows_flat _ hf)
/-- what a variable's place is told to be -/
def TermPost (w : World) (u : Nat) (l : List Cel) (r : List Nat) (d : Nat → Nat) (big : Bool) (out : List Cel) (e : Ending) (w' : World) : Prop :=
  Fr [u] w w' ∧ (∃ U', RowU w' u U' ∧ Roots l.length U' (fun k => r.getD k 0) d) ∧
    if big then e = .returned (.tuple #[.slice none 0 0, .bool false]) else ∃ a cap, e = .returned (.tuple #[.slice a out.length cap, .bool true]) ∧ NewRow w.heap.size w' a cap out

set_option maxRecDepth 100000 in
set_option maxHeartbeats 4000000 in
theorem term_any (w : World) {C u s m nm : Nat} {l : List Cel} {U S : List Int} {r : List Nat} {d : Nat → Nat} (hG : Good l) (hl : l.length ≤ 1000) (hj : JoinOk l r []) (hC : Cls (veil [u, s] w) C u s m l (endsL l)) (hU : RowU w u U) (hR : Roots l.length U (fun k => r.getD k 0) d) (hS : RowU w s S) (hM : MapV Try.prog 3 w m nm (firstV l)) (hO : MOk l r S)
    (v : Int) (i : Nat) (hi : firstO l v = some i) (hil : i < l.length) (hd : 0 < S.getD (r.getD i 0) 0) (hv : (Lit.int .i64 v).wf = true) :
    Calls Try.prog 41 #[.pointer (some ⟨C, 0, none⟩), .int .i64 v] w (TermPost w u l r d (decide (200 < S.getD (r.getD i 0) 0)) (layL l r (l.length + 1) i)) := by
  have hlk := hM.run_look (t := 77) (e := 3) Try.underlying3 Try.underlying77 (Try.zeroInt _) hv
  rw [show (firstV l v).getD (.int .i64 0) = .int .i64 (i : Int) by unfold firstV; rw [hi]; rfl] at hlk
  have hfit : ∀ c ∈ l, c.fit := by
    obtain ⟨ac, capc, _, qr⟩ := hC.cells
    exact qr.fit
  have c2 := (veil_cell hC.first).2
  have hCu : C ∉ [u, s] := (veil_cell hC.first).1
  have hul := hU.lt
  have hsl := hS.lt
  have hus := hC.us
  obtain ⟨x1, x2⟩ := hj.top i hil
  obtain ⟨x, hx⟩ : ∃ x, x = r.getD i 0 := ⟨_, rfl⟩
  rw [← hx] at x1 x2 hd ⊢
  have hxS : x < S.length := by rw [hO.len]; exact x1
  have hso := getD_row hxS
  have hup := hO.up x1
  have hEN := hO.ends x x1 hd
  have hSlen := hO.len
  generalize hsv : S.getD x 0 = so at *
  have hi0 : (0 : Int) ≤ (i : Int) := by omega
  have hx0 : (0 : Int) ≤ (x : Int) := by omega
  have hxl : (x : Int) < (l.length : Int) := by omega
  obtain ⟨capS, hcs1, hcs2, k4⟩ := hC.size_at
  have HX := mkHid hx
  have HX2 := mkHid x2
  have HSO := mkHid hso
  have HEN := mkHid hEN
  have HC := mkHid hC
  have HU := mkHid hU
  have HR := mkHid hR
  have HS := mkHid hS
  have HG := mkHid hG
  have HJ := mkHid hj
  have HFI := mkHid hfit
  have HD := mkHid hd
  clear hx x2 hso hEN hC hU hR hS hG hj hM hO hfit hsv hi
  generalize t1 : decide (200 < so) = bb
  go_enter Try.func41, Try.ntmps41
  go_wp2_with fail
  with_reducible refine (find_row w HC.out HU.out HR.out (by omega) i hil x HX.out).mono ?_
  rintro e w1 ⟨rfl, U1, hU1, hR1, hF1, hs1⟩
  have hS1 : RowU w1 s S := HS.out.fr hF1 (by simp; exact fun e => hus e.symm)
  have o1 := hS1.read hxS
  rw [HSO.out] at o1
  have k41 : w1.cell? ⟨C, 4, none⟩ = some (.slice (some ⟨s, 0, none⟩) l.length capS) := (World.cell?_of_block (a := ⟨C, 4, none⟩) (hF1.block C (cell_lt k4) (by simp; intro e; exact hCu (by simp [e])))).trans k4
  have hC1 : Cls (veil [u, s] w1) _ u s m l (endsL l) := HC.out.keeps ((hF1.sub (by simp)).keeps)
  have hsl1 := hS1.lt
  have hul1 := hU1.lt
  have HU1 := mkHid hU1
  have HR1 := mkHid hR1
  have HF1 := mkHid hF1
  have HC1 := mkHid hC1
  clear hU1 hR1 hF1 hs1 hS1 hC1
  have hLL : layL l r (l.length + 1) x = layL l r (l.length + 1) i := lay_class (by rw [HX2.out, HX.out]) _
  have HLL := mkHid hLL
  clear hLL
  cases bb with
  | true =>
    have HT : Hid (TermPost w u l r d true (layL l r (l.length + 1) i) (.returned (.tuple #[.slice none 0 0, .bool false])) w1) := ⟨HF1.out, ⟨U1, HU1.out, HR1.out⟩, rfl⟩
    go_wp2_with fail
    go_ret2
    exact HT.out
  | false =>
    have hb : so ≤ 200 := by simpa using t1
    have hlen : (layL l r (l.length + 1) x).length ≤ 200 := by
      have h1 := HEN.out.2
      unfold termL at h1
      omega
    have hends : EndsIn l r (l.length + 1) (r.getD x 0) := by
      rw [HX2.out]
      exact HEN.out.1.mono (by have := done_le S; omega)
    have hcall := lay_any (w0 := w1) HG.out hl HJ.out HC1.out hul1 hsl1 (l.length + 1) w1 U1 x (.slice none 0 0) [] (Fr.refl _ _) HU1.out HR1.out (World.ownsRow_nil _ _ _ _) hends x1 (by simp only [List.length_nil]; omega)
    rw [List.nil_append, HLL.out] at hcall
    have HCALL := mkHid hcall
    clear hcall hlen hends hb
    go_wp2_with fail
    refine HCALL.out.mono ?_
    rintro e w2 ⟨v2, rfl, n1, n2, n3, n4, n5, n6⟩
    obtain ⟨a2, cap2, rfl, hnr⟩ := n1.newRow (fun c hc => HFI.out c (lay_mem _ _ c hc))
    have HT : Hid (TermPost w u l r d false (layL l r (l.length + 1) i) (.returned (.tuple #[.slice a2 (layL l r (l.length + 1) i).length cap2, .bool true])) w2) := ⟨HF1.out.trans n2, n3, a2, cap2, rfl, NewRow.mono hnr HF1.out.size⟩
    clear n1 n2 n3 n5 n6 hnr
    go_wp2_with fail
    go_ret2
    exact HT.out
end Go.Proofs.Ytlddglajdcednaa

namespace Go.Proofs.Ytlddglajdcednaa
open Go.RowKit

theorem below_under {u B : Nat} {w w' : World} (h : Fr [u] w w') (hu : u < B) : Below (under B w).heap.size (under B w) (under B w') := by
  refine ⟨h.os, h.tape, h.output, by rw [under_size, under_size]; exact h.size, fun k hk => ?_⟩
  rw [under_size] at hk
  by_cases hb : B ≤ k
  · rw [under_heap hb, under_heap hb]
    exact h.block k hk (by simp; omega)
  · have e1 := h.size
    unfold under
    rw [Array.getElem?_mapIdx, Array.getElem?_mapIdx, Array.getElem?_eq_getElem hk, Array.getElem?_eq_getElem (by omega : k < w'.heap.size)]
    simp [show k < B by omega]
theorem own_of_under {w : World} {B e size : Nat} {v : Value} {n : Nat} {xs : List Value} (h : (under B w).ownsRow B e size v n xs) : w.ownsRow B e size v n xs := by
  refine ⟨h.1, ?_⟩
  rcases h.2 with h | ⟨g, cap, cur, rfl, hb, hg, rest⟩
  · exact .inl h
  · exact .inr ⟨g, cap, cur, rfl, hb, by rwa [under_heap hb] at hg, rest⟩
theorem hide_under {B : Nat} {w w' : World} {r r' : Option Nat} (h : Keeps (hide r w) (hide r' w')) : Keeps (hide r (under B w)) (hide r' (under B w')) := by
  intro b o v hc
  have h0 : (under B w).cell? ⟨b, o, none⟩ = some v := hide_keeps r _ _ _ _ hc
  obtain ⟨hb, h1⟩ := under_cell h0
  have h2 : (hide r w).cell? ⟨b, o, none⟩ = some v := by
    cases r with
    | none => exact h1
    | some g => exact hide_of_ne (hide_cell hc).1 h1
  have h3 := h _ _ _ h2
  have h4 := hide_keeps r' _ _ _ _ h3
  cases r' with
  | none => exact under_of hb h4
  | some g => exact hide_of_ne (hide_cell h3).1 (under_of hb h4)
/-- append of one element, laid just ahead of it; what lies below B plays no part -/
theorem wpList_accU {α : Type} [RepC α] {P : Program} {w : World} {ops : Array Oper} {rest : List Oper} {o : Oper} {a : Act} {Q : Exit → Act → World → Prop} (hgd : o.guard = none) (s x : Operand) (t : TypeId)
    (ho : o.op = .call { callee := .builtin .append, args := #[s, x], argTypes := #[t, t] })
    (B e bytes : Nat) (z : Value) (ht : P.underlying t = some (.slice e)) (hinfo : (P.info? e).map (fun i => (i.zero, i.size, i.bytes)) = some (some z, Rep.sz α, bytes))
    (hzs : z.cells.size = Rep.sz α) (hby : bytes ≤ 1000)
    (v : Value) (acc : List α) (hacc : AccInv B e acc v (under B w)) (hs : a.eval s = v) (T : Nat) (cs : Array Value) (y : α) (hcs : RepC.C (hide v.ownBlock (under B w)) cs.toList y)
    (hx : a.eval x = .slice (some ⟨w.heap.size, 0, none⟩) 1 1)
    (hmax : acc.length + 1 ≤ 1000000000) (hB : B ≤ w.heap.size)
    (h : ∀ v' w', AccInv B e (acc ++ [y]) v' (under B w') → Below B w w' → wpList P ops Q rest (a.put o.dst v') w') : wpList P ops Q (o :: rest) a (w.alloc (.cells cs T)) := by
  obtain ⟨vs, hown, hc⟩ := hacc.ex
  have hown' := own_of_under hown
  refine wpList_app2 hgd s x t ho B e (Rep.sz α) bytes z ht hinfo hzs RepC.pos hby v acc.length vs hs (hown'.alloc _) ⟨w.heap.size, 0, none⟩ 1 1 cs.toList hx (src_new w cs T (Rep.sz α) (by have := RepC.len hcs; simpa using this) (fun u hu => RepC.one hcs u (by simpa using hu))) hmax (by simp; omega) ?_
  intro v' w' h1 _ h3 h4
  have k1 : Keeps (hide v.ownBlock (under B w)) (hide v.ownBlock (under B (w.alloc (.cells cs T)))) := hide_under (alloc_hide w _ _)
  have k2 := hide_under (B := B) h4
  refine h v' w' ⟨vs ++ cs.toList, by rw [List.length_append]; exact under_own h1, ?_⟩ (((Below.refl B w).alloc hB _).trans h3)
  exact ((hc.keeps k1).keeps k2).snoc (RepC.cmono (RepC.cmono hcs k1) k2)

theorem new_hide {α : Type} [Rep α] {B B2 : Nat} {w : World} {a : Option Addr} {cap : Nat} {xs : List α} {r : Option Nat} (h : NewRow B2 w a cap xs) (hB : B ≤ B2) (hr : ∀ g, r = some g → g < B2) : Row (hide r (under B w)) a cap xs := by
  refine Row.keeps h (fun b o v hc => ?_)
  obtain ⟨h1, h2⟩ := under_cell hc
  have h3 := under_of (B := B) (by omega) h2
  cases r with
  | none => exact h3
  | some g => exact hide_of_ne (by have := hr g rfl; omega) h3
/-- what bindings tell -/
def BPost (w : World) (u : Nat) (o : Option (List Bnd)) (e : Ending) (w' : World) : Prop := Fr [u] w w' ∧ match o with
  | none => e = .returned (.tuple #[.slice none 0 0, .bool false])
  | some L => ∃ a2 cap2, e = .returned (.tuple #[.slice a2 L.length cap2, .bool true]) ∧ Row w' a2 cap2 L
set_option maxHeartbeats 6400000 in
set_option maxRecDepth 100000 in
theorem bindingsT_any {C u : Nat} {n : Nat} {r d : Nat → Nat} (a : Option Addr) (cap : Nat) (w : World) (V R : List Int) (F : Int → List Cel) (big : Int → Bool) (U : List Int) (hu0 : u < w.heap.size) (hU : RowU w u U) (hRo : Roots n U r d) (hR : riseI V = R) (hV : Row w a cap V) (hl : V.length ≤ 1000) (o : Option (List Bnd)) (ho : o = if R.any big then none else some (bindL F R))
    (hlen : ∀ v ∈ R, big v = false → 1 ≤ (F v).length ∧ (F v).length ≤ 1000)
    (hst : ∀ (W : World) (U : List Int) (v : Int), Fr [u] w W → RowU W u U → Roots n U r d → v ∈ R → Calls Try.prog 41 #[.pointer (some ⟨C, 0, none⟩), .int .i64 v] W fun e W' => Fr [u] W W' ∧ (∃ U', RowU W' u U' ∧ Roots n U' r d) ∧
      if big v then e = .returned (.tuple #[.slice none 0 0, .bool false]) else ∃ a cap, e = .returned (.tuple #[.slice a (F v).length cap, .bool true]) ∧ NewRow W.heap.size W' a cap (F v)) :
    Calls Try.prog 38 #[.slice a V.length cap, .func (.func 41) #[.pointer (some ⟨C, 0, none⟩)] #[]] w (BPost w u o) := by
  have HO := mkHid ho
  clear ho
  have hm := hV.max
  have hle := hV.le
  have HST := mkHid hst
  have HLE := mkHid hlen
  have HU := mkHid hU
  have HRO := mkHid hRo
  have hRl := riseI_le V
  rw [hR] at hRl
  have HR := mkHid hR
  clear hR hlen hst hU hRo
  go_enter Try.func38, Try.ntmps38
  go_wp2_with fail
  refine (callsIn_wide (n := 2)).1 (values_in _ 2 trivial rfl a V.length cap w) |>.mono ?_
  rintro e w1 ⟨rfl, rfl⟩
  have hb1 := (Below.refl w.heap.size w).new (.cells #[.slice a V.length cap] 36)
  go_wp2_with fail
  refine (sorted_any w.heap.size w _ a cap V hV (by omega) hb1 (World.cell?_alloc_at _ _ _ 0 rfl)).mono ?_
  rintro e w2 ⟨v2, rfl, ho2, hb2⟩
  have hsl := sortI_length V
  have HO2 := mkHid ho2
  clear ho2
  go_wp2_with fail
  refine (compact_any _ w2 v2 (sortI V) HO2.out (by omega) hb2.size).mono ?_
  rintro e w3 ⟨v3, rfl, ho3, hb3⟩
  have hb := hb1.trans ((hb2.trans hb3).mono (by simp))
  obtain ⟨a3, cap3, rfl, hr3⟩ := ho3.row
  have hnr3 := hr3
  have hr3 := hr3.row
  have hR : Hid (Lib.compactUpTo (sortI V).toArray (sortI V).length = R) := HR.out
  rw [hR.out] at hr3 hnr3 ⊢
  have HNR := mkHid hnr3
  clear hnr3
  clear hsl hb1 hb2 hb3 ho3
  have hacc0 := AccInv.nil (α := Bnd) w3.heap.size 39 (under w3.heap.size w3)
  have hF3 : Fr [u] w w3 := Fr.of hb
  have HU3 : Hid (RowU w3 u U) := HU.out.below hb
  have hu3 : u < w3.heap.size := by have := hb.size; omega
  have hn3 : Hid (R.any big = (R.drop 0).any big) := by rw [Hid, List.drop_zero]
  go_wp2_with fail
  go_loopw [6, 8, 9, 10, 16] (fun s v t fits i wr => ∃ (k : Nat) (U2 : List Int), k ≤ R.length ∧ i = .int .i64 k ∧ Hid (AccInv w3.heap.size 39 (bindL F (R.take k)) s (under w3.heap.size wr)) ∧ Hid (Fr [u] w3 wr) ∧ Hid (RowU wr u U2) ∧ Hid (Roots n U2 r d) ∧ Hid (R.any big = (R.drop k).any big)) (fun s v t fits i wr => R.length - (intOf i).toNat)
  case atStart => exact ⟨0, U, Nat.zero_le _, rfl, by rw [Hid]; simpa [bindL] using hacc0, Fr.refl _ _, HU3, HRO, hn3⟩
  case round =>
    clear hacc0 HU3 hn3
    obtain ⟨k, U2, hk, rfl, hacc, hfr, hU2, hR2, hany⟩ := hrel
    by_cases hlt : k < R.length
    · have hrr : Row wr a3 cap3 R := Row.keeps (Row.keeps HNR.out (Keeps.of (below_under hfr.out (by simp; omega)))) (under_keeps _ _)
      obtain ⟨b, off, rfl, hb', hat⟩ := hrr.cases.resolve_left (fun e => by simp [e] at hlt)
      obtain ⟨d0, n1, n2⟩ := int_at hat (Below.refl _ _) hlt
      have HT := mkHid (bind_take (F := F) hlt)
      have hle2 := bind_le F (R.take k)
      have hlk : (R.take k).length ≤ k := List.length_take_le _ _
      have hmem : Hid (R[k] ∈ R) := List.getElem_mem hlt
      have hdr : Hid (R.drop k = R[k] :: R.drop (k + 1)) := List.drop_eq_getElem_cons hlt
      clear hrr hat
      go_wp2_with fail
      refine (HST.out wr U2 R[k] (hF3.trans hfr.out) hU2.out hR2.out hmem.out).mono ?_
      rintro e w4 ⟨hF4, ⟨U3, hU3, hR3⟩, hp4⟩
      have HF4 : Hid (Fr [u] w3 w4) := hfr.out.trans hF4
      have hs4 := hF4.size
      have hsr := hfr.out.size
      have hacc2 : Hid (AccInv w3.heap.size 39 (bindL F (R.take k)) u6 (under w3.heap.size w4)) := hacc.out.below (below_under hF4 hu3)
      have hown : ∀ g, u6.ownBlock = some g → g < wr.heap.size := fun g e => by have := (hacc.out.lt g e).2; rwa [under_size] at this
      have HU3 := mkHid hU3
      have HR3 := mkHid hR3
      have HOWN := mkHid hown
      clear hF4 hU3 hR3 hacc hfr hown
      cases hbg : big R[k] with
      | true =>
        rw [hbg] at hp4
        simp only [if_true] at hp4
        subst hp4
        have HP : Hid (BPost w u o (.returned (.tuple #[.slice none 0 0, .bool false])) w4) := by
          refine ⟨hF3.trans HF4.out, ?_⟩
          rw [HO.out, hany.out, hdr.out, List.any_cons, hbg]
          rfl
        clear hbg
        go_wp2_with fail
        go_ret2
        exact HP.out
      | false =>
        rw [hbg] at hp4
        simp only [Bool.false_eq_true, if_false] at hp4
        obtain ⟨a4, cap4, rfl, hr4⟩ := hp4
        obtain ⟨h41, h42⟩ := HLE.out _ hmem.out hbg
        have hany2 : Hid (R.any big = (R.drop (k + 1)).any big) := by rw [Hid, hany.out, hdr.out, List.any_cons, hbg, Bool.false_or]
        have hC := new_hide (B := w3.heap.size) hr4 hsr HOWN.out
        obtain ⟨b4, off4, rfl, _, hat4⟩ := hr4.row.cases.resolve_left (fun e => by simp [e] at h41)
        obtain ⟨e0, e1, e2, hf4⟩ := cel_at hat4 (Below.refl _ _) (k := 0) h41
        simp only [Nat.zero_mul, Nat.add_zero] at e0 e1 e2
        have hh : (F R[k]).head? = some (F R[k])[0] := by
          rw [List.head?_eq_getElem?, List.getElem?_eq_getElem h41]
        clear hbg hany
        by_cases he : (F R[k])[0] = ⟨1, ⟨#[]⟩, R[k]⟩
        · have hdc : decide ((F R[k])[0] = (⟨1, ⟨#[]⟩, R[k]⟩ : Cel)) = true := decide_eq_true he
          have hne := fun w => run_neq_cel (F R[k])[0] ⟨1, ⟨#[]⟩, R[k]⟩ w
          rw [hdc] at hne
          have HB : Hid (bindL F (R.take (k + 1)) = bindL F (R.take k)) := by
            rw [Hid, HT.out]; unfold bindC; rw [hh, he, if_pos rfl, List.append_nil]
          clear hh he hdc
          go_wp2_with fail
          go_round
          case rel => exact ⟨k + 1, U3, by omega, by go_num, hacc2.out.lit HB.out.symm, HF4, HU3, HR3, hany2⟩
          case measure => simp [intOf]; omega
        · have hdc : decide ((F R[k])[0] = (⟨1, ⟨#[]⟩, R[k]⟩ : Cel)) = false := decide_eq_false he
          have hne := fun w => run_neq_cel (F R[k])[0] ⟨1, ⟨#[]⟩, R[k]⟩ w
          rw [hdc] at hne
          have HB : Hid (bindL F (R.take (k + 1)) = bindL F (R.take k) ++ [⟨R[k], F R[k]⟩]) := by
            rw [Hid, HT.out]; unfold bindC; rw [hh, if_neg (fun e => he (Option.some.inj e))]
          clear hh he hdc
          go_wp2_with (at_builtin; refine wpList_accU (α := Bnd) rfl _ _ 25 rfl w3.heap.size 39 32 _ Try.underlying25 Try.infoBind2 rfl (by decide) _ (bindL F (R.take k)) hacc2.out (by rfl) _ #[.int .i64 R[k], .slice (some ⟨b4, off4, none⟩) (F R[k]).length cap4] ⟨R[k], F R[k]⟩ ⟨⟨_, cap4, rfl, hC⟩, n1, n2⟩ (by rfl) (by omega) (by omega) ?_; intro v' w5 hacc3 hb5)
          have hF5 : Fr [u] w3 w5 := ⟨hb5.os.trans HF4.out.os, hb5.tape.trans HF4.out.tape, hb5.output.trans HF4.out.output, Nat.le_trans HF4.out.size hb5.size, fun q hq hn => (hb5.block q hq).trans (HF4.out.block q hq hn)⟩
          go_round
          case rel => exact ⟨k + 1, U3, by omega, by go_num, hacc3.lit HB.out.symm, hF5, (hb5.block u hu3).trans HU3.out, HR3, hany2⟩
          case measure => simp [intOf]; omega
    · have HL : Hid (R.take k = R) := List.take_of_length_le (by omega)
      have HA : Hid (R.any big = false) := by rw [Hid, hany.out, List.drop_of_length_le (by omega)]; rfl
      obtain ⟨a5, cap5, rfl, hrow⟩ := hacc.out.row
      rw [HL.out] at hrow ⊢
      have HROW : Hid (Row wr a5 cap5 (bindL F R)) := Row.keeps hrow (under_keeps _ _)
      have HFF : Hid (Fr [u] w wr) := hF3.trans hfr.out
      have HP : Hid (BPost w u o (.returned (.tuple #[.slice a5 (bindL F R).length cap5, .bool true])) wr) := by
        refine ⟨HFF.out, ?_⟩
        rw [HO.out, HA.out]
        exact ⟨a5, cap5, rfl, HROW.out⟩
      clear hacc hrow
      go_wp2_with fail
      go_ret2
      exact HP.out
end Go.Proofs.Ytlddglajdcednaa

namespace Go.Proofs.Ytlddglajdcednaa

/-! ### the terms within a row of terms, and what putting in makes of them -/
/-- each variable's term put in -/
def putF (F : Int → List Cel) (t : List Cel) : List Cel := t.flatMap fun c => if c.k = 1 then F c.n else [c]
theorem putF_append (F : Int → List Cel) (a b : List Cel) : putF F (a ++ b) = putF F a ++ putF F b := by unfold putF; rw [List.flatMap_append]
theorem putF_var (F : Int → List Cel) {c : Cel} (h : c.k = 1) (t : List Cel) : putF F (c :: t) = F c.n ++ putF F t := by unfold putF; rw [List.flatMap_cons, if_pos h]
theorem putF_cell (F : Int → List Cel) {c : Cel} (h : c.k ≠ 1) (t : List Cel) : putF F (c :: t) = c :: putF F t := by unfold putF; rw [List.flatMap_cons, if_neg h]; rfl
theorem putF_flat (F : Int → List Cel) (T : Nat → List Cel) : ∀ qs : List Nat, putF F (qs.flatMap T) = qs.flatMap fun q => putF F (T q)
  | [] => rfl
  | q :: qs => by rw [List.flatMap_cons, List.flatMap_cons, putF_append, putF_flat F T qs]
/-- the term that stands at a place -/
def subL (l : List Cel) (i : Nat) : List Cel := (l.drop i).take ((endI l i).toNat - i)
theorem cut_row (l : List Cel) {a b c : Nat} (h1 : a ≤ b) (h2 : b ≤ c) : (l.drop a).take (c - a) = (l.drop a).take (b - a) ++ (l.drop b).take (c - b) := by
  have e : c - a = (b - a) + (c - b) := by omega
  rw [e, List.take_add, List.drop_drop]
  congr 3
  omega
theorem argP_zero {l : List Cel} {i : Nat} (hi : i < l.length) : argP l i 0 = i + 1 := by
  unfold argP; rw [afterI_zero (by omega)]; omega
theorem argP_le {l : List Cel} (hG : Good l) {i j : Nat} (hi : i < l.length) (hj : j ≤ ar l[i]) : i + 1 ≤ argP l i j ∧ argP l i j ≤ l.length := by
  have := good_after hG hi hj
  unfold argP; omega
theorem argP_next {l : List Cel} (hG : Good l) {i j : Nat} (hi : i < l.length) (hj : j < ar l[i]) : (endI l (argP l i j)).toNat = argP l i (j + 1) ∧ argP l i j ≤ argP l i (j + 1) := by
  have h1 := good_next hG hi hj
  have h2 := good_after hG hi (Nat.le_of_lt hj)
  have h3 := end_range hG (i := argP l i j) (by unfold argP; omega)
  unfold argP at h3 ⊢
  rw [h1] at h3 ⊢
  omega
theorem sub_parts {l : List Cel} (hG : Good l) {i : Nat} (hi : i < l.length) : ∀ m, m ≤ ar l[i] →
    (l.drop (i + 1)).take (argP l i m - (i + 1)) = (List.range m).flatMap fun j => subL l (argP l i j)
  | 0, _ => by rw [argP_zero hi]; simp
  | m + 1, hm => by
    obtain ⟨h1, h2⟩ := argP_next hG hi (j := m) (by omega)
    have h3 := argP_le hG hi (j := m) (by omega)
    rw [cut_row l (b := argP l i m) (by omega) h2, sub_parts hG hi m (by omega), List.range_succ, List.flatMap_append]
    simp only [List.flatMap_cons, List.flatMap_nil, List.append_nil]
    unfold subL
    rw [h1]
theorem sub_eq {l : List Cel} (hG : Good l) {i : Nat} (hi : i < l.length) : subL l i = l[i] :: (argsL l i).flatMap (subL l) := by
  have h1 := good_end hG hi
  have h2 := argP_le hG hi (Nat.le_refl (ar l[i]))
  have e : (endI l i).toNat = argP l i (ar l[i]) := by rw [h1]; rfl
  have hp := sub_parts hG hi (ar l[i]) (Nat.le_refl _)
  unfold subL argsL
  rw [List.getElem?_eq_getElem hi]
  simp only [List.flatMap_map]
  rw [e, List.drop_eq_getElem_cons hi]
  have e2 : argP l i (ar l[i]) - i = (argP l i (ar l[i]) - (i + 1)) + 1 := by omega
  rw [e2, List.take_succ_cons, hp]
  rfl
theorem arg_gt {l : List Cel} (hG : Good l) {i q : Nat} (hi : i < l.length) (h : q ∈ argsL l i) : i < q := by
  unfold argsL at h
  rw [List.getElem?_eq_getElem hi] at h
  obtain ⟨j, hj, rfl⟩ := List.mem_map.1 h
  have := argP_le hG hi (j := j) (by have := List.mem_range.1 hj; omega)
  omega
theorem var_args {l : List Cel} {i : Nat} (hi : i < l.length) (h : l[i].k = 1) : argsL l i = [] := by
  apply List.eq_nil_of_length_eq_zero
  rw [args_length l hi]; unfold ar; rw [if_neg (by omega)]
theorem first_of {l : List Cel} {p : Nat} (hp : p < l.length) (h : l[p].k = 1) : firstO l l[p].n = some (upAt l p) := by
  rw [upAt_var hp h]
  have e : l = l.take p ++ l.drop p := (List.take_append_drop p l).symm
  have hd : (l.drop p).findIdx? (isV l[p].n) = some 0 := by
    rw [List.drop_eq_getElem_cons hp, List.findIdx?_cons]
    simp [isV, h]
  have e2 : ∀ v, firstO l v = ((l.take p).findIdx? (isV v)).or (((l.drop p).findIdx? (isV v)).map (· + (l.take p).length)) := fun v => by
    have h := List.findIdx?_append (xs := l.take p) (ys := l.drop p) (p := isV v)
    rw [← e] at h
    exact h
  rw [e2, hd]
  unfold firstO
  cases (l.take p).findIdx? (isV l[p].n) with
  | none => simp; omega
  | some i => simp

/-! ### joined and measured: the classes' terms are what makes alike -/
/-- what is put in for each variable -/
def ofVar (l : List Cel) (r : List Nat) (v : Int) : List Cel := termL l r ((firstO l v).getD 0)
section
variable {l : List Cel} {r : List Nat} {t : List (Nat × Nat)}
theorem ofVar_at (J : Joined l (ups l) r t) {p : Nat} (hp : p < l.length) (h : l[p].k = 1) : ofVar l r l[p].n = termL l r p := by
  unfold ofVar
  rw [first_of hp h]
  obtain ⟨h1, h2⟩ := upAt_le hp
  refine term_class (J.mono _ _ (by show upAt l p < _; omega) hp ?_)
  show (ups l).getD (upAt l p) 0 = _
  rw [ups_get (by omega), ups_get hp, h2]
/-- a class that no variable stands for: its parts end too, by whatever place of it -/
theorem ends_parts (J : Joined l (ups l) r t) {h p : Nat} (hp : p < l.length) (hk : l[p].k ≠ 1) (e : EndsIn l r (h + 1) (r.getD p 0)) : ∀ q ∈ argsL l p, EndsIn l r h (r.getD q 0) := by
  intro q hq
  obtain ⟨x1, x2⟩ := J.ok.top p hp
  have kx : l[r.getD p 0].k ≠ 1 := fun e => hk (J.var p hp x1 e)
  obtain ⟨_, c2⟩ := J.closed p _ hp x1 x2.symm hk kx
  have : r.getD q 0 ∈ (argsL l (r.getD p 0)).map (fun z => r.getD z 0) := by rw [← c2]; exact List.mem_map.2 ⟨q, hq, rfl⟩
  obtain ⟨q', hq', e'⟩ := List.mem_map.1 this
  have := e q' hq'
  rw [e'] at this
  exact this
theorem class_parts (J : Joined l (ups l) r t) {p : Nat} (hp : p < l.length) (hk : l[p].k ≠ 1) (T : Nat → List Cel) (hT : ∀ a b, r.getD a 0 = r.getD b 0 → T a = T b) :
    l[r.getD p 0]'(J.ok.top p hp).1 = l[p] ∧ (argsL l (r.getD p 0)).flatMap T = (argsL l p).flatMap T := by
  obtain ⟨x1, x2⟩ := J.ok.top p hp
  have kx : l[r.getD p 0].k ≠ 1 := fun e => hk (J.var p hp x1 e)
  obtain ⟨c1, c2⟩ := J.closed p _ hp x1 x2.symm hk kx
  refine ⟨c1.symm, ?_⟩
  have gen : ∀ xs ys : List Nat, xs.map (fun z => r.getD z 0) = ys.map (fun z => r.getD z 0) → xs.flatMap T = ys.flatMap T := by
    intro xs
    induction xs with
    | nil => intro ys h; cases ys with
      | nil => rfl
      | cons y ys => simp at h
    | cons x xs ih => intro ys h; cases ys with
      | nil => simp at h
      | cons y ys =>
        simp only [List.map_cons, List.cons.injEq] at h
        rw [List.flatMap_cons, List.flatMap_cons, hT x y h.1, ih ys h.2]
  exact gen _ _ c2.symm
/-- putting in makes of the term at a place the term of its class -/
theorem put_sub (hG : Good l) (J : Joined l (ups l) r t) : ∀ (k p h : Nat), p < l.length → l.length - p ≤ k → h ≤ l.length → EndsIn l r h (r.getD p 0) → putF (ofVar l r) (subL l p) = termL l r p := by
  intro k
  induction k with
  | zero => intro p h hp hk; omega
  | succ k ih =>
    intro p h hp hk hh e
    rw [sub_eq hG hp]
    by_cases hv : l[p].k = 1
    · rw [var_args hp hv, putF_var _ hv, ofVar_at J hp hv]; simp [putF]
    · obtain ⟨h, rfl⟩ : ∃ g, h = g + 1 := by cases h with
        | zero => exact e.elim
        | succ g => exact ⟨g, rfl⟩
      obtain ⟨c1, c2⟩ := class_parts J hp hv (termL l r) (fun _ _ e => term_class e)
      rw [putF_cell _ hv, putF_flat, term_eq e hh (J.ok.top p hp).1, c1, c2]
      congr 1
      refine flat_congr fun q hq => ih q h (args_lt hG hq) ?_ (by omega) (ends_parts J hp hv e q hq)
      have := arg_gt hG hp hq
      omega
/-- put in twice is as once -/
theorem put_term (J : Joined l (ups l) r t) (hG : Good l) : ∀ (h p : Nat), p < l.length → h ≤ l.length → EndsIn l r h (r.getD p 0) → putF (ofVar l r) (termL l r p) = termL l r p := by
  intro h
  induction h with
  | zero => intro p _ _ e; exact e.elim
  | succ h ih =>
    intro p hp hh e
    obtain ⟨x1, x2⟩ := J.ok.top p hp
    rw [term_eq e hh x1]
    by_cases hv : l[r.getD p 0].k = 1
    · rw [var_args x1 hv, putF_var _ hv, ofVar_at J x1 hv, term_class x2, term_eq e hh x1, var_args x1 hv]; simp [putF]
    · rw [putF_cell _ hv, putF_flat]
      congr 1
      exact flat_congr fun q hq => ih q (args_lt hG hq) (by omega) (e q hq)
/-- whatever makes alike, makes the same of a class's term as of the terms in the class -/
theorem put_most (hG : Good l) (hj : JoinOk l r []) {G : Int → List Cel} (hV : ∀ z, z < l.length → putF G (subL l (r.getD z 0)) = putF G (subL l z)) : ∀ (h p : Nat), p < l.length → h ≤ l.length → EndsIn l r h (r.getD p 0) →
    putF G (termL l r p) = putF G (subL l p) := by
  intro h
  induction h with
  | zero => intro p _ _ e; exact e.elim
  | succ h ih =>
    intro p hp hh e
    obtain ⟨x1, x2⟩ := hj.top p hp
    rw [← hV p hp, term_eq e hh x1, sub_eq hG x1]
    by_cases hv : l[r.getD p 0].k = 1
    · rw [var_args x1 hv]; rfl
    · rw [putF_cell _ hv, putF_cell _ hv, putF_flat, putF_flat]
      congr 1
      exact flat_congr fun q hq => ih q (args_lt hG hq) (by omega) (e q hq)
end
/-- how the classes begin: nothing of two cells is in one class but a variable -/
theorem laid_var (l : List Cel) : VarIn l (ups l) := by
  intro z hz hlt hk
  apply Classical.byContradiction
  intro hn
  have e : upAt l z = z := by unfold upAt; rw [List.getElem?_eq_getElem hz]; simp [hn]
  have e2 := ups_get hz
  rw [e] at e2
  exact hn (by simpa only [e2] using hk)
theorem laid_closed (l : List Cel) (r' : List Nat) : ClosedBy l (ups l) r' := by
  intro x y hx hy e k1 k2
  have e1 : upAt l x = x := by unfold upAt; rw [List.getElem?_eq_getElem hx]; simp [k1]
  have e2 : upAt l y = y := by unfold upAt; rw [List.getElem?_eq_getElem hy]; simp [k2]
  rw [ups_get hx, ups_get hy, e1, e2] at e
  subst e
  exact ⟨rfl, rfl⟩
theorem joined_ups {l : List Cel} (hG : Good l) {f : Nat} {r : List Nat} {t : List (Nat × Nat)} (ht : ∀ p ∈ t, p.1 < l.length ∧ p.2 < l.length) (e : joinL l f (ups l) t = some r) : Joined l (ups l) r t :=
  joined hG (laid_ok l t ht) (laid_var l) (fun r' _ => laid_closed l r') e
theorem laid_least (l : List Cel) : VarMin l (ups l) := by
  intro z hz hlt hk
  have e2 := ups_get hz
  by_cases hz1 : l[z].k = 1
  · have hf := first_of hz hz1
    unfold firstO at hf
    obtain ⟨_, h2, _⟩ := List.findIdx?_eq_some_iff_getElem.1 hf
    simp only [isV, Bool.and_eq_true, decide_eq_true_eq] at h2
    simp only [e2]
    omega
  · exact absurd (laid_var l z hz hlt hk) hz1
/-- ALIKE: joined and measured, putting in makes both terms the same -/
theorem alike_of {l : List Cel} (hG : Good l) {f g : Nat} {r : List Nat} {s : List Int} {p q : Nat} (hp : p < l.length) (hq : q < l.length) (e : joinL l f (ups l) [(p, q)] = some r) (m : measureL l r g (List.replicate l.length 0) p = some s) :
    putF (ofVar l r) (subL l p) = termL l r p ∧ putF (ofVar l r) (subL l q) = termL l r p := by
  have J := joined_ups hG (t := [(p, q)]) (by simp [hp, hq]) e
  obtain ⟨mo, pos⟩ := measured hG J.ok hp m
  have hpq : r.getD p 0 = r.getD q 0 := J.done (p, q) (by simp)
  have he := (mo.ends _ (J.ok.top p hp).1 pos).1
  have hd : doneN s ≤ l.length := by have := done_le s; rw [mo.len] at this; exact this
  refine ⟨put_sub hG J l.length p _ hp (by omega) hd he, ?_⟩
  rw [term_class hpq]
  rw [hpq] at he
  exact put_sub hG J l.length q _ hq (by omega) hd he
end Go.Proofs.Ytlddglajdcednaa
