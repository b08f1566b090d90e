import Derived.Test.YtmmnfkggfnokjaaZt11
import Derived.Deep.Slices
import Derived.Deep.Fields
import Derived.ChangeSame
import Derived.ProofKit
import Derived.OpenShut
import Derived.ShutString
import Derived.ChangeOld
import Derived.Lib.SmallJoins
set_option linter.unusedVariables false
namespace Go.Proofs.Ytmmnfkggfnokjaa
open Go.RowKit
/-! ### the document's Compile -/
/-- what was there when the view was taken is read beside a row of one's own -/
theorem rowOf_app : ∀ (ts : List Tm) (u : Tm) (i : Nat), rowOf (ts ++ [u]) i = rowOf ts i ++ [(u, ((i + ts.length : Nat) : Int))]
  | [], u, i => by simp [rowOf]
  | t :: ts, u, i => by
    have := rowOf_app ts u (i + 1)
    simp only [List.cons_append, rowOf, this, List.length_cons]
    rw [show i + 1 + ts.length = i + (ts.length + 1) by omega]
theorem rowOf_len : ∀ (ts : List Tm) (i : Nat), (rowOf ts i).length = ts.length
  | [], _ => rfl
  | t :: ts, i => by simp [rowOf, rowOf_len ts (i + 1)]
theorem fit_n (op x a n : Int) (b : Bool) (ho : 0 ≤ op ∧ op ≤ 100) (hx : -9223372036854775808 ≤ x ∧ x ≤ 9223372036854775807) (ha : -9223372036854775808 ≤ a ∧ a ≤ 9223372036854775807) (hn : -9223372036854775808 ≤ n ∧ n ≤ 9223372036854775807) : Ins.fit ⟨op, x, a, ⟨#[]⟩, n, b⟩ :=
  ⟨by show _ ≤ op; omega, by show op ≤ _; omega, hx.1, hx.2, ha.1, ha.2, by show (0 : Nat) ≤ _; omega, hn.1, hn.2⟩
theorem foldl_fit : ∀ (bl : List (Bool × Tm)) (m : MkS), (∀ p ∈ bl, Kinds p.2) → m.fit → (bl.foldl (fun m x => litS x m) m).fit
  | [], m, _, h => h
  | x :: bl, m, hb, h => foldl_fit bl (litS x m) (fun p hp => hb p (List.mem_cons_of_mem _ hp)) (by
    have h1 := (structS_lays x.2 m (hb x List.mem_cons_self) h).1.1
    exact h1)
set_option maxRecDepth 100000 in
set_option maxHeartbeats 25600000 in
theorem refcomp_yes (a : Option Addr) (cap : Nat) (a' : Option Addr) (cap' : Nat) (w : World) (x : Cl) (h : Tm) (bl : List (Bool × Tm)) (hT : ClT x h bl) (hm : mayB x = true) (hr : Row w a cap x.h) (hr' : Row w a' cap' x.b) :
    Calls Try.prog 17 #[.agg #[.slice a x.h.length cap, .slice a' x.b.length cap']] w fun e w' => ∃ a2 c2, e = .returned (.tuple #[.slice a2 (compS h bl).length c2, .int .i64 0]) ∧ Row w' a2 c2 (compS h bl) ∧ Below w.heap.size w w' := by
  obtain ⟨xh, xb⟩ := x
  obtain ⟨eh, eb, hok, h3, h200, hfew, hlit⟩ := hT
  dsimp only at eh eb hr hr' ⊢
  subst eh
  have hx8 : xb.length ≤ 8 := by rw [eb, List.length_map]; exact hfew
  have HXL : Hid (xb.length = bl.length) := by rw [Hid, eb, List.length_map]
  have HEB := mkHid eb
  clear eb
  have hb0 := (Below.refl w.heap.size w).new (.cells #[.slice a h.flat.length cap, .slice a' xb.length cap'] 25)
  have e0 : (w.alloc (.cells #[.slice a h.flat.length cap, .slice a' xb.length cap'] 25)).cell? ⟨w.heap.size, 0, none⟩ = some (.slice a h.flat.length cap) := World.cell?_alloc_at _ _ w.heap.size 0 rfl
  have e1 : (w.alloc (.cells #[.slice a h.flat.length cap, .slice a' xb.length cap'] 25)).cell? ⟨w.heap.size, 1, none⟩ = some (.slice a' xb.length cap') := World.cell?_alloc_at _ _ w.heap.size 1 rfl
  have hle := hr.le
  have hmx := hr.max
  have hle' := hr'.le
  have hmx' := hr'.max
  have hpos := flat_pos h
  have htk : (h.flat[0]'hpos).k = 3 := by simp only [flat_cons, List.getElem_cons_zero]; exact h3
  have hP : partsL h.flat = h.args.map Tm.flat := parts_flat hok
  have hoks := (ok_iff h).1 hok
  have hna : h.args.length ≤ 6 := by have := ar_le _ hoks.1; rw [hoks.2.1]; exact this
  have HNA : Hid (h.hd.n = (h.args.length : Int)) := by
    have h1 := hoks.1
    unfold cellOk at h1
    rw [h3] at h1
    simp at h1
    have h2 := hoks.2.1
    have h4 : ar h.hd = h.hd.n.toNat := by unfold ar; rw [if_pos h3]
    rw [Hid]
    omega
  have HR0 := mkHid (hr.below hb0)
  have HR0' := mkHid (hr'.below hb0)
  have HB0 := mkHid hb0
  have HMA := mkHid hm
  have HOK := mkHid hok
  have H3 := mkHid h3
  have HLIT := mkHid hlit
  have HTK := mkHid htk
  have HPF := mkHid hP
  clear hb0 hr hr' hm hok h3 hlit htk hP hoks
  go_enter Try.func17, Try.ntmps17
  go_wp2_with fail
  obtain ⟨W0, hW⟩ : ∃ V, w.alloc (.cells #[.slice a h.flat.length cap, .slice a' xb.length cap'] 25) = V := ⟨_, rfl⟩
  rw [hW] at e0 e1 HB0 HR0 HR0' ⊢
  clear hW
  obtain ⟨C, hC⟩ : ∃ V, w.heap.size = V := ⟨_, rfl⟩
  rw [hC] at e0 e1 ⊢
  have HC := mkHid hC
  clear hC
  refine (refmay_any a cap a' cap' W0 h.flat xb HR0.out HR0'.out).mono ?_
  rintro e w1 ⟨rfl, hb1⟩
  rw [HMA.out]
  have d0 := keep e0 hb1
  have d1 := keep e1 hb1
  have HR1 := mkHid (HR0.out.below hb1)
  have HR1' := mkHid (HR0'.out.below hb1)
  have HB1 := mkHid (HB0.out.then hb1)
  clear e0 e1 hb1 HR0 HR0' HB0
  have HPT := mkHid (refparts_own a cap w1 h.flat HR1.out (right_flat HOK.out h200) hpos HTK.out)
  rw [HPF.out] at HPT
  go_wp2_with fail
  refine HPT.out.mono ?_
  rintro e w2 ⟨vl, ws, rfl, hown, hsl, hb2⟩
  rw [List.length_map] at hown
  have hwl := hown.1
  rw [Nat.mul_one] at hwl
  obtain ⟨al, cl, rfl, hlc, hlm, hlat⟩ := own_at hown
  have HR2 := mkHid (HR1.out.below hb2)
  have HR2' := mkHid (HR1'.out.below hb2)
  have HB2 := mkHid (HB1.out.then hb2)
  have HSL := mkHid (hsl w2 HR2.out)
  have HLA := mkHid hlat
  have HWL := mkHid hwl
  have c0 := keep d0 hb2
  have c1 := keep d1 hb2
  clear hown hsl hlat hb2 d0 d1 HR1 HR1' HB1 HPT hwl
  have hacc0 : AccInv w2.heap.size 102 ([] : List Pl) (.slice (some ⟨w2.heap.size, 0, none⟩) 0 0) (w2.alloc (.cells #[] 102)) := AccInv.made w2 (Nat.le_refl _) rfl
  have hb20 := (Below.refl w2.heap.size w2).new (.cells #[] 102)
  go_wp2_with fail
  go_loopw [5, 6] (fun v i wr => ∃ k : Nat, k ≤ h.args.length ∧ i = .int .i64 k ∧ Hid (AccInv w2.heap.size 102 ((rowOf (h.args.take k) 0).map plOf) v wr) ∧ Below w2.heap.size w2 wr) (fun v i wr => h.args.length - (intOf i).toNat)
  case atStart => exact ⟨0, Nat.zero_le _, rfl, hacc0, hb20⟩
  case round =>
    clear hacc0 hb20
    obtain ⟨k, hk, rfl, hacc, hbl⟩ := hrel
    have hsz := hbl.size
    by_cases hlt : k < h.args.length
    · have hltw : k < ws.length := by have := HWL.out; omega
      obtain ⟨gl, rfl, hglB, hgls, hglc⟩ := HLA.out k hltw
      obtain ⟨u, hue⟩ : ∃ u, h.args[k] = u := ⟨_, rfl⟩
      obtain ⟨a3, c3, hwk, hr3⟩ := HSL.out.row k ws[k] u.flat (List.getElem?_eq_getElem hltw) (by rw [List.getElem?_map, List.getElem?_eq_getElem hlt, hue]; rfl)
      rw [hwk] at hglc
      have hgl2 := keep hglc hbl
      have HRH := mkHid (hr3.keeps (hacc.out.fresh hbl))
      have HTS : Hid ((rowOf (h.args.take (k + 1)) 0).map plOf = (rowOf (h.args.take k) 0).map plOf ++ [⟨u.flat, (k : Int)⟩]) := by
        rw [Hid, List.take_succ_eq_append_getElem hlt, hue, rowOf_app, List.map_append, List.length_take, Nat.zero_add, Nat.min_eq_left (by omega)]
        rfl
      have hml : ((rowOf (h.args.take k) 0).map plOf).length = k := by rw [List.length_map, rowOf_len, List.length_take]; omega
      obtain ⟨acc, hae⟩ : ∃ acc, (rowOf (h.args.take k) 0).map plOf = acc := ⟨_, rfl⟩
      rw [hae] at hacc HTS hml
      clear hglc hwk hr3 hae
      go_wp2_with (at_builtin; refine wpList_acc (α := Pl) rfl _ _ 100 rfl w2.heap.size 102 32 _ Try.underlying100 Try.infoArg10 rfl (by decide) _ acc hacc.out (by rfl) _ #[.slice a3 u.flat.length c3, .int .i64 k] (⟨u.flat, k⟩ : Pl) ⟨⟨_, _, rfl, HRH.out⟩, by show _ ≤ (k : Int); omega, by show (k : Int) ≤ _; omega⟩ (by rfl) (by omega) hsz ?_; intro v' w6 hacc6 hb6)
      go_round
      case rel => exact ⟨k + 1, by omega, by go_num, by rw [HTS.out]; exact hacc6, hbl.trans hb6⟩
      case measure => simp [intOf]; omega
    · have HTA : Hid ((rowOf (h.args.take k) 0).map plOf = (rowOf h.args 0).map plOf) := by rw [Hid, List.take_of_length_le (by omega)]
      rw [HTA.out] at hacc
      obtain ⟨aA, cA, rfl, hrA⟩ := hacc.out.row
      clear HSL HLA HWL HTA hacc
      obtain rfl : k = h.args.length := by omega
      have hsum := rowOf_sums h.args 0
      have HSC := mkHid (sumC_le (rowOf h.args 0))
      have hfl : (flats h.args).length + 1 ≤ 200 := by
        have e : h.flat.length = (flats h.args).length + 1 := by rw [flat_cons]; simp
        omega
      have HFE : Hid (h.flat.length = (flats h.args).length + 1) := by rw [Hid, flat_cons]; simp
      have HRO : Hid (RowOkN (rowOf h.args 0)) := rowOf_ok ((ok_iff h).1 HOK.out).2.2 (fun u hu => by have := mem_short hu; omega) 0 (by omega)
      have hkd : ∀ p ∈ rowOf h.args 0, Kinds p.1 := fun p hp => ok_kinds _ (HRO.out p hp).1
      have hcl2 : (rowS (2 * h.flat.length + 1) (rowOf h.args 0) ⟨[], h.hd.n, fun _ => none⟩).code.length ≤ 800 := by
        rw [rowS_len _ _ _ hkd (by have := HFE.out; omega)]
        have := HSC.out
        simp only [List.length_nil]
        omega
      have hf0 : (⟨[], h.hd.n, fun _ => none⟩ : MkS).fit := ⟨by rw [HNA.out]; show (0 : Int) ≤ (h.args.length : Int); omega, fun n r hr => by cases hr⟩
      have hfit0 : (rowS (2 * h.flat.length + 1) (rowOf h.args 0) ⟨[], h.hd.n, fun _ => none⟩).fit := (rowS_lays _ _ _ (fun p hp => ⟨hkd p hp, (HRO.out p hp).2.2.1, by have h8 := rowOf_low h.args 0 p hp; have h9 := HNA.out; show p.2 < h.hd.n; omega⟩) hf0).1
      have HST : Hid (StR [] wr none 0 none 0 none 0 (⟨[], h.hd.n, fun _ => none⟩ : MkS) [] []) := ⟨Row.empty _ _ _ (by omega) (fun _ => rfl), Row.empty _ _ _ (by omega) (fun _ => rfl), Row.empty _ _ _ (by omega) (fun _ => rfl)⟩
      have HBJ : Hid (Bj 0 (⟨[], h.hd.n, fun _ => none⟩ : MkS) [] []) := ⟨hf0.1, by rw [HNA.out]; show (h.args.length : Int) ≤ 0 + 10 + 0; omega, rfl, by show (0 : Int) ≤ 0 + 0; omega, fun n => rfl⟩
      have HHD := mkHid (heads_any [] wr none 0 none 0 none 0 ⟨[], h.hd.n, fun _ => none⟩ [] [] HST.out HBJ.out aA cA (rowOf h.args 0) (2 * h.flat.length + 1) (fun k hk => by cases hk) (hrA.keeps (veil_fresh (Keeps.of (Below.refl wr.heap.size wr)) fun k hk => by cases hk)) HRO.out (by rw [hsum]; have := HFE.out; omega) (by omega) (by omega))
      have HCL2 := mkHid hcl2
      have HFT := mkHid hfit0
      have HCS : Hid (compS h bl = ((bl.foldl (fun m x => litS x m) (rowS (2 * h.flat.length + 1) (rowOf h.args 0) ⟨[], h.hd.n, fun _ => none⟩)).lay ⟨13, 0, 0, h.hd.s, h.hd.n, false⟩).code) := rfl
      have e9 : h.hd.n = (h.args.length : Int) := HNA.out
      clear hcl2 hfit0 hf0 hkd HST HBJ hsum hfl
      generalize rowS (2 * h.flat.length + 1) (rowOf h.args 0) ⟨[], h.hd.n, fun _ => none⟩ = m0 at *
      dsimp only [List.length_nil] at HHD
      rw [e9] at HHD
      clear e9 hlt hk
      generalize List.map plOf (rowOf h.args 0) = pq at *
      go_wp2_with fail
      refine HHD.out.mono ?_
      rintro e w4 ⟨ac1, cc1, av1, cv1, ar1, cr1, vs1, rs1, rfl, hs1, hb4⟩
      have k0 := keep (keep c0 hbl) hb4
      have k1 := keep (keep c1 hbl) hb4
      have hb24 : Below w2.heap.size w2 w4 := hbl.then hb4
      have HR4 := mkHid (HR2.out.below hb24)
      have HR4' := mkHid (HR2'.out.below hb24)
      have HB4 := mkHid (HB2.out.then hb24)
      have HS1 := mkHid hs1
      obtain ⟨D, hDe⟩ : ∃ D, w4.heap.size = D := ⟨_, rfl⟩
      obtain ⟨W5, hW5⟩ : ∃ X, w4.alloc (.cells #[.slice ac1 m0.code.length cc1, .int .i64 m0.next, .slice av1 vs1.length cv1, .slice ar1 rs1.length cr1] 104) = X := ⟨_, rfl⟩
      have hb5 : Below w4.heap.size w4 W5 := by rw [← hW5]; exact (Below.refl _ _).new _
      have hD : W5.heap[D]? = some (.cells #[.slice ac1 m0.code.length cc1, .int .i64 m0.next, .slice av1 vs1.length cv1, .slice ar1 rs1.length cr1] 104 (0, 0)) := by rw [← hW5, ← hDe]; exact heap_alloc_new _ _
      have HSB0 : Hid (SB 0 [D] W5 D m0) := ⟨ac1, cc1, av1, cv1, ar1, cr1, vs1, rs1, hD, HS1.out.to (Fr.of hb5) fun k hk => by simp at hk; right; omega⟩
      have HZ5 : Hid (D < W5.heap.size) := (Array.getElem?_eq_some_iff.1 hD).1
      have HB45 := mkHid hb5
      have hCD : C < D := by have := cell_lt k0; omega
      have j0 := keep k0 hb5
      have j1 := keep k1 hb5
      go_wp2_with fail
      first | rw [hW5] | skip
      first | rw [hDe] | skip
      clear hW5 hb5 hD hs1 HS1 HHD hb4 hb24 k0 k1 hrA c0 c1 hbl HR2 HR2' HB2 HFE HRO HSC HPF HTK HMA
      go_loopw [8] (fun i wr => ∃ k : Nat, k ≤ bl.length ∧ i = .int .i64 k ∧ Hid (SB 0 [D] wr D ((bl.take k).foldl (fun m x => litS x m) m0)) ∧ Hid (Fr [D] W5 wr)) (fun i wr => bl.length - (intOf i).toNat)
      case atStart => exact ⟨0, Nat.zero_le _, rfl, HSB0, Fr.refl _ _⟩
      case round =>
        clear HSB0
        obtain ⟨k, hk, rfl, HSB, HF⟩ := hrel
        have i0 := (World.cell?_of_block (w := W5) (a := ⟨C, 0, none⟩) (HF.out.block C (by have := HZ5.out; omega) (by simp; omega))).trans j0
        have i1 := (World.cell?_of_block (w := W5) (a := ⟨C, 1, none⟩) (HF.out.block C (by have := HZ5.out; omega) (by simp; omega))).trans j1
        have HZR : Hid (D < wr.heap.size) := by have := HZ5.out; have := HF.out.size; rw [Hid]; omega
        obtain ⟨mk, hmk⟩ : ∃ mk, (bl.take k).foldl (fun m x => litS x m) m0 = mk := ⟨_, rfl⟩
        rw [hmk] at HSB
        have hfk : mk.fit := by rw [← hmk]; exact foldl_fit _ _ (fun p hp => ok_kinds _ (HLIT.out p (List.mem_of_mem_take hp)).1) HFT.out
        have hls := lits_short (bl.take k) m0 fun p hp => (HLIT.out p (List.mem_of_mem_take hp)).2.2
        rw [hmk, List.length_take] at hls
        have hml : mk.code.length ≤ 4000 := by have := HCL2.out; have := HXL.out; omega
        clear hls
        obtain ⟨ac2, cc2, av2, cv2, ar2, cr2, vs2, rs2, hx, hsx⟩ := HSB.out
        have HX := mkHid hx
        have HSX := mkHid hsx
        clear hx hsx HSB
        by_cases hlt : k < bl.length
        · have hltx : k < xb.length := by have := HXL.out; omega
          obtain ⟨b4, off4, rfl, hb4, hat⟩ := HR4'.out.cases.resolve_left (fun e => by simp [e] at hltx)
          obtain ⟨a5, c5, l0, l1, hr5⟩ := lt_at hat (Below.refl _ _) hltx
          have HXK : xb[k] = litOf bl[k] := by
            have := HEB.out
            simp [this]
          obtain ⟨hu1, hu2, hu3⟩ := HLIT.out _ (List.getElem_mem hlt)
          have hFK : (bl.take (k + 1)).foldl (fun m x => litS x m) m0 = litS bl[k] mk := by
            rw [List.take_succ_eq_append_getElem hlt, List.foldl_append, hmk]; rfl
          rw [HXK] at l0 l1 hr5
          clear HXK hmk
          obtain ⟨⟨ng, tt⟩, pt⟩ : ∃ p, bl[k] = p := ⟨_, rfl⟩
          rw [pt] at hu1 hu2 hu3 hFK l0 l1 hr5
          clear pt
          dsimp only [litOf] at l0 l1 hr5 hu1 hu2 hu3 hFK
          have hbD : b4 < D := by have := cell_lt l0; omega
          have q0 := (World.cell?_of_block (w := W5) (a := ⟨b4, off4 + k * 2, none⟩) (HF.out.block b4 (by have := HZ5.out; omega) (by simp; omega))).trans (keep l0 HB45.out)
          have q1 := (World.cell?_of_block (w := W5) (a := ⟨b4, off4 + k * 2 + 1, none⟩) (HF.out.block b4 (by have := HZ5.out; omega) (by simp; omega))).trans (keep l1 HB45.out)
          have HBQ : Hid (Below w4.heap.size w4 wr) := HB45.out.trans (HF.out.below (by have := HZ5.out; omega) fun k hk => by simp at hk; omega)
          have HT5 : Hid (Row (veil [D] wr) a5 c5 tt.flat) := hr5.keeps (veil_fresh (Keeps.of HBQ.out) fun k hk => by simp at hk; omega)
          have hle5 := hr5.le
          have hmx5 := hr5.max
          obtain ⟨M, hM⟩ : ∃ M, structS tt mk = M := ⟨_, rfl⟩
          obtain ⟨M, R⟩ := M
          have hlays := structS_lays tt mk (ok_kinds _ hu1) hfk
          have hMs := structS_short' tt mk
          rw [hM] at hlays hMs
          have hMl : M.code.length ≤ 5000 := by dsimp only at hMs; omega
          have hFK2 : (bl.take (k + 1)).foldl (fun m x => litS x m) m0 = M.lay ⟨12, 0, R, ⟨#[]⟩, 0, ng⟩ := by rw [hFK]; unfold litS; rw [hM]
          have HFK := mkHid hFK2
          have HM := mkHid hM
          have HU1 := mkHid hu1
          have hR0 : 0 ≤ R := hlays.2.1
          have hRn : R < M.next := hlays.2.2
          have HFK0 := mkHid hfk
          clear hFK hFK2 hM hu1 hlays hMs hat hr5 l0 l1 hfk
          go_wp2_with fail
          refine wp_region_noPanic ?_
          obtain ⟨y0, hv0⟩ : ∃ X, wr.drew = X := ⟨_, rfl⟩
          have hbd : Below wr.heap.size wr y0 := by rw [← hv0]; exact (Below.refl _ _).drew
          have HXY := mkHid ((hbd.block D HZR.out).trans HX.out)
          have HSY := mkHid (HSX.out.on (Fr.of hbd))
          have HTY := mkHid (HT5.out.keeps (veil_toR (us := [D]) (Fr.of hbd) fun k hk => .inl hk))
          have HFY := mkHid (HF.out.trans (Fr.of hbd))
          have HZY : Hid (D < y0.heap.size) := by have := HZR.out; have := hbd.size; rw [Hid]; omega
          have dd0 := mkHid (keep i1 hbd)
          have dd1 := mkHid (keep q1 hbd)
          have dd2 := mkHid (keep q0 hbd)
          have dd3 := mkHid (keep i0 hbd)
          have HS : Hid (∀ X, Below y0.heap.size y0 X → (fun X : World => (X.cell? ⟨D, 0, none⟩ = some (.slice ac2 mk.code.length cc2) ∧ X.cell? ⟨D, 1, none⟩ = some (.int .i64 mk.next) ∧ X.cell? ⟨D, 2, none⟩ = some (.slice av2 vs2.length cv2) ∧ X.cell? ⟨D, 3, none⟩ = some (.slice ar2 rs2.length cr2)) ∧ X.cell? ⟨C, 1, none⟩ = some (.slice (some ⟨b4, off4, none⟩) xb.length cap') ∧ X.cell? ⟨b4, off4 + k * 2 + 1, none⟩ = some (.slice a5 tt.flat.length c5)) X) := fun X h => by
            obtain ⟨q0, q1, q2, q3⟩ := st_cells HXY.out
            exact ⟨⟨keep q0 h, keep q1 h, keep q2 h, keep q3 h⟩, keep dd0.out h, keep dd1.out h⟩
          refine wp_region_held_drew (S := fun X : World => (X.cell? ⟨D, 0, none⟩ = some (.slice ac2 mk.code.length cc2) ∧ X.cell? ⟨D, 1, none⟩ = some (.int .i64 mk.next) ∧ X.cell? ⟨D, 2, none⟩ = some (.slice av2 vs2.length cv2) ∧ X.cell? ⟨D, 3, none⟩ = some (.slice ar2 rs2.length cr2)) ∧ X.cell? ⟨C, 1, none⟩ = some (.slice (some ⟨b4, off4, none⟩) xb.length cap') ∧ X.cell? ⟨b4, off4 + k * 2 + 1, none⟩ = some (.slice a5 tt.flat.length c5)) (by kernel_rfl) (by rw [hv0]; exact HS.out _ (Below.refl _ _)) (fun hSd => ?_)
          rw [hv0] at hSd ⊢
          have HB0 := mkHid (Below.refl y0.heap.size y0)
          clear hv0 hbd i0 i1 q0 q1 HX HSX HT5 HF HZR
          refine wpAnyH_take (i := 0) (oi := _) (v := ?_) rfl (by kernel_rfl) (by kernel_rfl) (by kernel_rfl) (fun _ _ _ h => h) (Or.inl ⟨by rfl, ?_⟩) (by assumption) ?_
          rotate_left
          · (intro w' hSw; obtain ⟨⟨z0, z1, z2, z3⟩, z4, z5⟩ := hSw; go_simp; try with_reducible rfl)
          (try simp only [List.getElem_toArray, List.getElem_cons_succ, List.getElem_cons_zero, Act.put, List.setIfInBounds_toArray, List.set_cons_zero, List.set_cons_succ])
          refine wpAnyH_take (i := 1) (oi := _) (v := ?_) rfl (by kernel_rfl) (by kernel_rfl) (by kernel_rfl) (fun _ _ _ h => h) (Or.inl ⟨by rfl, ?_⟩) (by assumption) ?_
          rotate_left
          · (intro w' hSw; obtain ⟨⟨z0, z1, z2, z3⟩, z4, z5⟩ := hSw; go_simp; try with_reducible rfl)
          (try simp only [List.getElem_toArray, List.getElem_cons_succ, List.getElem_cons_zero, Act.put, List.setIfInBounds_toArray, List.set_cons_zero, List.set_cons_succ])
          refine wpAnyH_take (i := 2) (oi := _) (v := ?_) rfl (by kernel_rfl) (by kernel_rfl) (by kernel_rfl) (fun _ _ _ h => h) (Or.inl ⟨by rfl, ?_⟩) (by assumption) ?_
          rotate_left
          · (intro w' hSw; obtain ⟨⟨z0, z1, z2, z3⟩, z4, z5⟩ := hSw; go_simp; try with_reducible rfl)
          (try simp only [List.getElem_toArray, List.getElem_cons_succ, List.getElem_cons_zero, Act.put, List.setIfInBounds_toArray, List.set_cons_zero, List.set_cons_succ])
          refine wpAnyH_take (i := 3) (oi := _) (v := ?_) rfl (by kernel_rfl) (by kernel_rfl) (by kernel_rfl) (fun _ _ _ h => h) (Or.inl ⟨by rfl, ?_⟩) (by assumption) ?_
          rotate_left
          · (intro w' hSw; obtain ⟨⟨z0, z1, z2, z3⟩, z4, z5⟩ := hSw; go_simp; try with_reducible rfl)
          (try simp only [List.getElem_toArray, List.getElem_cons_succ, List.getElem_cons_zero, Act.put, List.setIfInBounds_toArray, List.set_cons_zero, List.set_cons_succ])
          refine wpAnyH_take (i := 4) (oi := _) (v := ?_) rfl (by kernel_rfl) (by kernel_rfl) (by kernel_rfl) (fun _ _ _ h => h) (Or.inl ⟨by rfl, ?_⟩) (by assumption) ?_
          rotate_left
          · (intro w' hSw; obtain ⟨⟨z0, z1, z2, z3⟩, z4, z5⟩ := hSw; go_simp; try with_reducible rfl)
          (try simp only [List.getElem_toArray, List.getElem_cons_succ, List.getElem_cons_zero, Act.put, List.setIfInBounds_toArray, List.set_cons_zero, List.set_cons_succ])
          refine wpAnyH_take (i := 5) (oi := _) (v := ?_) rfl (by kernel_rfl) (by kernel_rfl) (by kernel_rfl) (fun _ _ _ h => h) (Or.inl ⟨by rfl, ?_⟩) (by assumption) ?_
          rotate_left
          · (intro w' hSw; obtain ⟨⟨z0, z1, z2, z3⟩, z4, z5⟩ := hSw; go_simp; try with_reducible rfl)
          (try simp only [List.getElem_toArray, List.getElem_cons_succ, List.getElem_cons_zero, Act.put, List.setIfInBounds_toArray, List.set_cons_zero, List.set_cons_succ])
          refine wpAnyH_take (i := 6) (oi := _) (v := ?_) rfl (by kernel_rfl) (by kernel_rfl) (by kernel_rfl) (fun _ _ _ h => h) (Or.inl ⟨by rfl, ?_⟩) (by assumption) ?_
          rotate_left
          · (intro w' hSw; obtain ⟨⟨z0, z1, z2, z3⟩, z4, z5⟩ := hSw; go_simp; try with_reducible rfl)
          (try simp only [List.getElem_toArray, List.getElem_cons_succ, List.getElem_cons_zero, Act.put, List.setIfInBounds_toArray, List.set_cons_zero, List.set_cons_succ])
          refine wpAnyH_ready (rs := [7, 11]) (by kernel_rfl) (by simp) ?_
          refine AllReadyH.cons (o := _) rfl (fun K hK => ?_) ?_
          · go_simp
            refine (build_all tt.flat.length [D] y0 ac2 cc2 av2 cv2 ar2 cr2 mk vs2 rs2 a5 c5 tt (fun k hk => by have := HZY.out; simp at hk; omega) HSY.out HFK0.out HTY.out HU1.out hu2 hu3 (Nat.le_refl _) (by rw [HM.out]; dsimp only; omega)).mono ?_
            rintro r y1 ⟨ac4, cc4, av4, cv4, ar4, cr4, vs4, rs4, rfl, hs4, hb4⟩
            rw [HM.out] at hs4 ⊢
            dsimp only at hs4 ⊢
            have HBC := mkHid (HB0.out.trans (hb4.mono HB0.out.size))
            have HS1 := mkHid hs4
            clear hs4 hb4
            try dsimp only
            refine hK.out _ _ (HS.out _ HBC.out) (fun _ => ?_)
            clear hK K
            (try simp only [List.getElem_toArray, List.getElem_cons_succ, List.getElem_cons_zero, Act.put, List.setIfInBounds_toArray, List.set_cons_zero, List.set_cons_succ])
            refine wpAnyH_take (i := 8) (oi := _) (v := ?_) rfl (by kernel_rfl) (by kernel_rfl) (by kernel_rfl) (fun _ _ _ h => h) (Or.inl ⟨by rfl, ?_⟩) (by assumption) ?_
            rotate_left
            · (intro w' hSw; obtain ⟨⟨z0, z1, z2, z3⟩, z4, z5⟩ := hSw; go_simp; try with_reducible rfl)
            (try simp only [List.getElem_toArray, List.getElem_cons_succ, List.getElem_cons_zero, Act.put, List.setIfInBounds_toArray, List.set_cons_zero, List.set_cons_succ])
            refine wpAnyH_take (i := 9) (oi := _) (v := ?_) rfl (by kernel_rfl) (by kernel_rfl) (by kernel_rfl) (fun _ _ _ h => h) (Or.inl ⟨by rfl, ?_⟩) (by assumption) ?_
            rotate_left
            · (intro w' hSw; obtain ⟨⟨z0, z1, z2, z3⟩, z4, z5⟩ := hSw; go_simp; try with_reducible rfl)
            (try simp only [List.getElem_toArray, List.getElem_cons_succ, List.getElem_cons_zero, Act.put, List.setIfInBounds_toArray, List.set_cons_zero, List.set_cons_succ])
            refine wpAnyH_take (i := 10) (oi := _) (v := ?_) rfl (by kernel_rfl) (by kernel_rfl) (by kernel_rfl) (fun _ _ _ h => h) (Or.inl ⟨by rfl, ?_⟩) (by assumption) ?_
            rotate_left
            · (intro w' hSw; obtain ⟨⟨z0, z1, z2, z3⟩, z4, z5⟩ := hSw; go_simp; try with_reducible rfl)
            (try simp only [List.getElem_toArray, List.getElem_cons_succ, List.getElem_cons_zero, Act.put, List.setIfInBounds_toArray, List.set_cons_zero, List.set_cons_succ])
            refine wpAnyH_ready (rs := [11]) (by kernel_rfl) (by simp) ?_
            refine AllReadyH.cons (o := _) rfl (fun K hK => ?_) AllReadyH.nil
            go_simp
            have HBN := mkHid (HBC.out.trans ((Below.refl y1.heap.size y1).new (.cells #[.slice none 0 0, .int .i64 0, .slice none 0 0, .slice none 0 0] 104) |>.mono HBC.out.size))
            have HG : Hid ((y1.alloc (.cells #[.slice none 0 0, .int .i64 0, .slice none 0 0, .slice none 0 0] 104)).heap[y1.heap.size]? = some (.cells #[.slice none 0 0, .int .i64 0, .slice none 0 0, .slice none 0 0] 104 (0, 0))) := heap_alloc_new _ _
            have HGY : Hid (y0.heap.size ≤ y1.heap.size) := HBC.out.size
            have HSN : Hid (SX 0 (y1.heap.size :: [D]) (y1.alloc (.cells #[.slice none 0 0, .int .i64 0, .slice none 0 0, .slice none 0 0] 104)) ac4 cc4 av4 cv4 ar4 cr4 M vs4 rs4) := HS1.out.to (Fr.of ((Below.refl _ _).new _)) fun k hk => by
              rcases List.mem_cons.1 hk with rfl | hk
              · right; exact Nat.le_refl _
              · exact .inl hk
            clear HS1 HBC
            try dsimp only
            refine hK.out _ _ (HS.out _ HBN.out) (fun _ => ?_)
            clear hK K
            (try simp only [List.getElem_toArray, List.getElem_cons_succ, List.getElem_cons_zero, Act.put, List.setIfInBounds_toArray, List.set_cons_zero, List.set_cons_succ])
            generalize (y1.alloc (.cells #[.slice none 0 0, .int .i64 0, .slice none 0 0, .slice none 0 0] 104)) = yz at *
            refine wpAnyH_ready (rs := [12]) (by kernel_rfl) (by simp) ?_
            refine AllReadyH.cons (o := _) rfl (fun K hK => ?_) AllReadyH.nil
            obtain ⟨f0, f1, f2, f3⟩ := st_free HG.out
            obtain ⟨k0, k1, k2, k3⟩ := st_cells HG.out
            have HY4 := mkHid (below_four HBN.out (g := y1.heap.size) HGY.out (.slice ac4 M.code.length cc4) (.int .i64 M.next) (.slice av4 vs4.length cv4) (.slice ar4 rs4.length cr4))
            have HX4 := mkHid ((HY4.out.block D HZY.out).trans HXY.out)
            have HG4 := mkHid (st_all HG.out (.slice ac4 M.code.length cc4) (.int .i64 M.next) (.slice av4 vs4.length cv4) (.slice ar4 rs4.length cr4))
            have HS4 := mkHid (HSN.out.on ((Fr.refl (y1.heap.size :: [D]) yz).four (List.mem_cons_self) (.slice ac4 M.code.length cc4) (.int .i64 M.next) (.slice av4 vs4.length cv4) (.slice ar4 rs4.length cr4)))
            go_simp
            try dsimp only
            refine hK.out _ _ (HS.out _ HY4.out) (fun hSz => ?_)
            clear hK K f0 f1 f2 f3 k0 k1 k2 k3
            (try simp only [List.getElem_toArray, List.getElem_cons_succ, List.getElem_cons_zero, Act.put, List.setIfInBounds_toArray, List.set_cons_zero, List.set_cons_succ])
            refine wpAnyH_take (i := 13) (oi := _) (v := ?_) rfl (by kernel_rfl) (by kernel_rfl) (by kernel_rfl) (fun _ _ _ h => h) (Or.inl ⟨by rfl, ?_⟩) (by assumption) ?_
            rotate_left
            · (intro w' hSw; obtain ⟨⟨z0, z1, z2, z3⟩, z4, z5⟩ := hSw; go_simp; try with_reducible rfl)
            (try simp only [List.getElem_toArray, List.getElem_cons_succ, List.getElem_cons_zero, Act.put, List.setIfInBounds_toArray, List.set_cons_zero, List.set_cons_succ])
            refine wpAnyH_done (by kernel_rfl) (NoPanic.normal ?_) _
            have HF4 := mkHid (HFY.out.trans (Fr.of HY4.out))
            have HGB : Hid (D < y1.heap.size) := by have := HGY.out; have := HZY.out; rw [Hid]; omega
            have HZ4 : Hid (D < ((((yz.setCell ⟨y1.heap.size, 0, none⟩ (.slice ac4 M.code.length cc4)).setCell ⟨y1.heap.size, 1, none⟩ (.int .i64 M.next)).setCell ⟨y1.heap.size, 2, none⟩ (.slice av4 vs4.length cv4)).setCell ⟨y1.heap.size, 3, none⟩ (.slice ar4 rs4.length cr4)).heap.size) := by have := HY4.out.size; have := HZY.out; rw [Hid]; omega
            have hh0 := mkHid (keep dd0.out HY4.out)
            have hh2 := mkHid (keep dd2.out HY4.out)
            generalize ((((yz.setCell ⟨y1.heap.size, 0, none⟩ (.slice ac4 M.code.length cc4)).setCell ⟨y1.heap.size, 1, none⟩ (.int .i64 M.next)).setCell ⟨y1.heap.size, 2, none⟩ (.slice av4 vs4.length cv4)).setCell ⟨y1.heap.size, 3, none⟩ (.slice ar4 rs4.length cr4)) = zz at *
            generalize y1.heap.size = g10 at *
            clear HG HSN HBN hSz hSd HS HY4 HSY HXY HTY HFY HZY dd0 dd1 dd2 dd3 HGY
            go_wp2_with fail
            refine wp_region_noPanic ?_
            obtain ⟨x0, hv0⟩ : ∃ X, zz.drew = X := ⟨_, rfl⟩
            have hbd : Below zz.heap.size zz x0 := by rw [← hv0]; exact (Below.refl _ _).drew
            have hgz : g10 < zz.heap.size := (Array.getElem?_eq_some_iff.1 HG4.out).1
            have HXX := mkHid ((hbd.block D HZ4.out).trans HX4.out)
            have HGX := mkHid ((hbd.block g10 hgz).trans HG4.out)
            have HSX := mkHid (HS4.out.on (Fr.of hbd))
            have HFX := mkHid (HF4.out.trans (Fr.of hbd))
            have HZX : Hid (D < x0.heap.size ∧ g10 < x0.heap.size) := by have := HZ4.out; have := hbd.size; rw [Hid]; omega
            have ee0 := mkHid (keep hh0.out hbd)
            have ee2 := mkHid (keep hh2.out hbd)
            have hRn2 : R ≤ 20000 := by have := HSX.out.b.n1; omega
            have HFI : Hid (Ins.fit ⟨12, 0, R, ⟨#[]⟩, 0, ng⟩) := fit_n 12 0 R 0 ng (by omega) (by omega) (by omega) (by omega)
            have HS : Hid (∀ X, Fr [D] x0 X → (fun X : World => (X.cell? ⟨g10, 0, none⟩ = some (.slice ac4 M.code.length cc4) ∧ X.cell? ⟨g10, 1, none⟩ = some (.int .i64 M.next) ∧ X.cell? ⟨g10, 2, none⟩ = some (.slice av4 vs4.length cv4) ∧ X.cell? ⟨g10, 3, none⟩ = some (.slice ar4 rs4.length cr4)) ∧ X.cell? ⟨C, 1, none⟩ = some (.slice (some ⟨b4, off4, none⟩) xb.length cap') ∧ X.cell? ⟨b4, off4 + k * 2, none⟩ = some (.bool ng)) X) := fun X h => by
              have h1 := HZX.out
              have h2 := HGB.out
              exact ⟨st_cells ((h.block g10 h1.2 (by simp; omega)).trans HGX.out), (World.cell?_of_block (w := x0) (a := ⟨C, 1, none⟩) (h.block C (by omega) (by simp; omega))).trans ee0.out, (World.cell?_of_block (w := x0) (a := ⟨b4, off4 + k * 2, none⟩) (h.block b4 (by omega) (by simp; omega))).trans ee2.out⟩
            refine wp_region_held_drew (S := fun X : World => (X.cell? ⟨g10, 0, none⟩ = some (.slice ac4 M.code.length cc4) ∧ X.cell? ⟨g10, 1, none⟩ = some (.int .i64 M.next) ∧ X.cell? ⟨g10, 2, none⟩ = some (.slice av4 vs4.length cv4) ∧ X.cell? ⟨g10, 3, none⟩ = some (.slice ar4 rs4.length cr4)) ∧ X.cell? ⟨C, 1, none⟩ = some (.slice (some ⟨b4, off4, none⟩) xb.length cap') ∧ X.cell? ⟨b4, off4 + k * 2, none⟩ = some (.bool ng)) (by kernel_rfl) (by rw [hv0]; exact HS.out _ (Fr.refl _ _)) (fun hSd => ?_)
            rw [hv0] at hSd ⊢
            have HB0 : Hid (Fr [D] x0 x0) := Fr.refl _ _
            clear hv0 hbd HX4 HG4 HS4 HF4 HZ4 hh0 hh2
            refine wpAnyH_take (i := 0) (oi := _) (v := ?_) rfl (by kernel_rfl) (by kernel_rfl) (by kernel_rfl) (fun _ _ _ h => h) (Or.inl ⟨by rfl, ?_⟩) (by assumption) ?_
            rotate_left
            · (intro w' hSw; obtain ⟨⟨z0, z1, z2, z3⟩, z4, z5⟩ := hSw; go_simp; try with_reducible rfl)
            (try simp only [List.getElem_toArray, List.getElem_cons_succ, List.getElem_cons_zero, Act.put, List.setIfInBounds_toArray, List.set_cons_zero, List.set_cons_succ])
            refine wpAnyH_take (i := 1) (oi := _) (v := ?_) rfl (by kernel_rfl) (by kernel_rfl) (by kernel_rfl) (fun _ _ _ h => h) (Or.inl ⟨by rfl, ?_⟩) (by assumption) ?_
            rotate_left
            · (intro w' hSw; obtain ⟨⟨z0, z1, z2, z3⟩, z4, z5⟩ := hSw; go_simp; try with_reducible rfl)
            (try simp only [List.getElem_toArray, List.getElem_cons_succ, List.getElem_cons_zero, Act.put, List.setIfInBounds_toArray, List.set_cons_zero, List.set_cons_succ])
            refine wpAnyH_take (i := 2) (oi := _) (v := ?_) rfl (by kernel_rfl) (by kernel_rfl) (by kernel_rfl) (fun _ _ _ h => h) (Or.inl ⟨by rfl, ?_⟩) (by assumption) ?_
            rotate_left
            · (intro w' hSw; obtain ⟨⟨z0, z1, z2, z3⟩, z4, z5⟩ := hSw; go_simp; try with_reducible rfl)
            (try simp only [List.getElem_toArray, List.getElem_cons_succ, List.getElem_cons_zero, Act.put, List.setIfInBounds_toArray, List.set_cons_zero, List.set_cons_succ])
            refine wpAnyH_take (i := 3) (oi := _) (v := ?_) rfl (by kernel_rfl) (by kernel_rfl) (by kernel_rfl) (fun _ _ _ h => h) (Or.inl ⟨by rfl, ?_⟩) (by assumption) ?_
            rotate_left
            · (intro w' hSw; obtain ⟨⟨z0, z1, z2, z3⟩, z4, z5⟩ := hSw; go_simp; try with_reducible rfl)
            (try simp only [List.getElem_toArray, List.getElem_cons_succ, List.getElem_cons_zero, Act.put, List.setIfInBounds_toArray, List.set_cons_zero, List.set_cons_succ])
            refine wpAnyH_take (i := 4) (oi := _) (v := ?_) rfl (by kernel_rfl) (by kernel_rfl) (by kernel_rfl) (fun _ _ _ h => h) (Or.inl ⟨by rfl, ?_⟩) (by assumption) ?_
            rotate_left
            · (intro w' hSw; obtain ⟨⟨z0, z1, z2, z3⟩, z4, z5⟩ := hSw; go_simp; try with_reducible rfl)
            (try simp only [List.getElem_toArray, List.getElem_cons_succ, List.getElem_cons_zero, Act.put, List.setIfInBounds_toArray, List.set_cons_zero, List.set_cons_succ])
            refine wpAnyH_take (i := 5) (oi := _) (v := ?_) rfl (by kernel_rfl) (by kernel_rfl) (by kernel_rfl) (fun _ _ _ h => h) (Or.inl ⟨by rfl, ?_⟩) (by assumption) ?_
            rotate_left
            · (intro w' hSw; obtain ⟨⟨z0, z1, z2, z3⟩, z4, z5⟩ := hSw; go_simp; try with_reducible rfl)
            (try simp only [List.getElem_toArray, List.getElem_cons_succ, List.getElem_cons_zero, Act.put, List.setIfInBounds_toArray, List.set_cons_zero, List.set_cons_succ])
            refine wpAnyH_take (i := 6) (oi := _) (v := ?_) rfl (by kernel_rfl) (by kernel_rfl) (by kernel_rfl) (fun _ _ _ h => h) (Or.inl ⟨by rfl, ?_⟩) (by assumption) ?_
            rotate_left
            · (intro w' hSw; obtain ⟨⟨z0, z1, z2, z3⟩, z4, z5⟩ := hSw; go_simp; try with_reducible rfl)
            (try simp only [List.getElem_toArray, List.getElem_cons_succ, List.getElem_cons_zero, Act.put, List.setIfInBounds_toArray, List.set_cons_zero, List.set_cons_succ])
            refine wpAnyH_take (i := 7) (oi := _) (v := ?_) rfl (by kernel_rfl) (by kernel_rfl) (by kernel_rfl) (fun _ _ _ h => h) (Or.inl ⟨by rfl, ?_⟩) (by assumption) ?_
            rotate_left
            · (intro w' hSw; obtain ⟨⟨z0, z1, z2, z3⟩, z4, z5⟩ := hSw; go_simp; try with_reducible rfl)
            (try simp only [List.getElem_toArray, List.getElem_cons_succ, List.getElem_cons_zero, Act.put, List.setIfInBounds_toArray, List.set_cons_zero, List.set_cons_succ])
            refine wpAnyH_take (i := 8) (oi := _) (v := ?_) rfl (by kernel_rfl) (by kernel_rfl) (by kernel_rfl) (fun _ _ _ h => h) (Or.inl ⟨by rfl, ?_⟩) (by assumption) ?_
            rotate_left
            · (intro w' hSw; obtain ⟨⟨z0, z1, z2, z3⟩, z4, z5⟩ := hSw; go_simp; try with_reducible rfl)
            (try simp only [List.getElem_toArray, List.getElem_cons_succ, List.getElem_cons_zero, Act.put, List.setIfInBounds_toArray, List.set_cons_zero, List.set_cons_succ])
            refine wpAnyH_ready (rs := [9]) (by kernel_rfl) (by simp) ?_
            refine AllReadyH.cons (o := _) rfl (fun K hK => ?_) AllReadyH.nil
            go_simp
            refine (emit_sx 0 [D] x0 ac4 cc4 av4 cv4 ar4 cr4 M vs4 rs4 ⟨12, 0, R, ⟨#[]⟩, 0, ng⟩ HFI.out (fun k hk => by have := HZX.out; simp at hk; omega) (HSX.out.sub fun k hk => List.mem_cons_of_mem _ hk) (by omega)).mono ?_
            rintro r z6 ⟨a6, c6, rfl, hs6, hb6⟩
            have HX6 := mkHid ((hb6.block D HZX.out.1).trans HXX.out)
            have HS6 := mkHid hs6
            have HF7 := mkHid (HFX.out.trans (Fr.of hb6))
            have HB6 : Hid (Fr [D] x0 z6) := Fr.of hb6
            clear hs6 hb6 HXX HSX HFX
            try dsimp only
            refine hK.out _ _ (HS.out _ HB6.out) (fun _ => ?_)
            clear hK K
            (try simp only [List.getElem_toArray, List.getElem_cons_succ, List.getElem_cons_zero, Act.put, List.setIfInBounds_toArray, List.set_cons_zero, List.set_cons_succ])
            refine wpAnyH_ready (rs := [10]) (by kernel_rfl) (by simp) ?_
            refine AllReadyH.cons (o := _) rfl (fun K hK => ?_) AllReadyH.nil
            obtain ⟨k0, k1, k2, k3⟩ := st_cells HX6.out
            obtain ⟨f0, f1, f2, f3⟩ := st_free HX6.out
            have HSB7 := mkHid (SB.mono (SB.stored HX6.out (by simp) HS6.out) (show (0 : Int) - 1 ≤ 0 by omega))
            have HSB8 : Hid (SB 0 [D] ((((z6.setCell ⟨D, 0, none⟩ (.slice a6 (M.lay ⟨12, 0, R, ⟨#[]⟩, 0, ng⟩).code.length c6)).setCell ⟨D, 1, none⟩ (.int .i64 (M.lay ⟨12, 0, R, ⟨#[]⟩, 0, ng⟩).next)).setCell ⟨D, 2, none⟩ (.slice av4 vs4.length cv4)).setCell ⟨D, 3, none⟩ (.slice ar4 rs4.length cr4)) D ((bl.take (k + 1)).foldl (fun m x => litS x m) m0)) := by rw [Hid, HFK.out]; exact HSB7.out
            have HFF := mkHid ((Fr.refl [D] z6).four (g := D) (by simp) (.slice a6 (M.lay ⟨12, 0, R, ⟨#[]⟩, 0, ng⟩).code.length c6) (.int .i64 (M.lay ⟨12, 0, R, ⟨#[]⟩, 0, ng⟩).next) (.slice av4 vs4.length cv4) (.slice ar4 rs4.length cr4))
            have HF8 := mkHid (HF7.out.trans HFF.out)
            have HB8 := mkHid (HB6.out.trans HFF.out)
            go_simp
            clear k0 k1 k2 k3 f0 f1 f2 f3
            try dsimp only
            refine hK.out _ _ (HS.out _ HB8.out) (fun _ => ?_)
            clear hK K
            (try simp only [List.getElem_toArray, List.getElem_cons_succ, List.getElem_cons_zero, Act.put, List.setIfInBounds_toArray, List.set_cons_zero, List.set_cons_succ])
            refine wpAnyH_done (by kernel_rfl) (NoPanic.normal ?_) _
            clear HS hSd HX6 HS6 HF7 HB6 HSB7 HFF HB8 HB0 ee0 ee2 HZX HGX
            go_wp2_with fail
            go_round
            case rel => exact ⟨k + 1, by omega, by go_num, HSB8, HF8⟩
            case measure => simp [intOf]; omega
          refine AllReadyH.cons (o := _) rfl (fun K hK => ?_) AllReadyH.nil
          go_simp
          have HB1' := mkHid (HB0.out.new (.cells #[.slice none 0 0, .int .i64 0, .slice none 0 0, .slice none 0 0] 104))
          have HG0 : Hid ((y0.alloc (.cells #[.slice none 0 0, .int .i64 0, .slice none 0 0, .slice none 0 0] 104)).heap[y0.heap.size]? = some (.cells #[.slice none 0 0, .int .i64 0, .slice none 0 0, .slice none 0 0] 104 (0, 0))) := heap_alloc_new _ _
          have HSN0 : Hid (SX 0 (y0.heap.size :: [D]) (y0.alloc (.cells #[.slice none 0 0, .int .i64 0, .slice none 0 0, .slice none 0 0] 104)) ac2 cc2 av2 cv2 ar2 cr2 mk vs2 rs2) := HSY.out.to (Fr.of ((Below.refl _ _).new _)) fun k hk => by
            rcases List.mem_cons.1 hk with rfl | hk
            · right; exact Nat.le_refl _
            · exact .inl hk
          have HTN : Hid (Row (veil (y0.heap.size :: [D]) (y0.alloc (.cells #[.slice none 0 0, .int .i64 0, .slice none 0 0, .slice none 0 0] 104))) a5 c5 tt.flat) := HTY.out.keeps (veil_toR (us := [D]) (Fr.of ((Below.refl _ _).new _)) fun k hk => by
            rcases List.mem_cons.1 hk with rfl | hk
            · right; exact Nat.le_refl _
            · exact .inl hk)
          have HUN : Hid (∀ k ∈ y0.heap.size :: [D], k < (y0.alloc (.cells #[.slice none 0 0, .int .i64 0, .slice none 0 0, .slice none 0 0] 104)).heap.size) := by
            intro k hk
            have := HZY.out
            rw [World.size_alloc]
            simp at hk
            omega
          have hsz' : (y0.alloc (.cells #[.slice none 0 0, .int .i64 0, .slice none 0 0, .slice none 0 0] 104)).heap.size = y0.heap.size + 1 := World.size_alloc _ _
          have HSZ := mkHid hsz'
          clear hsz'
          try dsimp only
          refine hK.out _ _ (HS.out _ HB1'.out) (fun _ => ?_)
          clear hK K
          (try simp only [List.getElem_toArray, List.getElem_cons_succ, List.getElem_cons_zero, Act.put, List.setIfInBounds_toArray, List.set_cons_zero, List.set_cons_succ])
          refine wpAnyH_ready (rs := [7]) (by kernel_rfl) (by simp) ?_
          refine AllReadyH.cons (o := _) rfl (fun K hK => ?_) AllReadyH.nil
          go_simp
          refine (build_all tt.flat.length (y0.heap.size :: [D]) (y0.alloc (.cells #[.slice none 0 0, .int .i64 0, .slice none 0 0, .slice none 0 0] 104)) ac2 cc2 av2 cv2 ar2 cr2 mk vs2 rs2 a5 c5 tt HUN.out HSN0.out HFK0.out HTN.out HU1.out hu2 hu3 (Nat.le_refl _) (by rw [HM.out]; dsimp only; omega)).mono ?_
          rintro r y1 ⟨ac4, cc4, av4, cv4, ar4, cr4, vs4, rs4, rfl, hs4, hb4⟩
          rw [HM.out] at hs4 ⊢
          dsimp only at hs4 ⊢
          have HBC := mkHid (HB1'.out.trans (hb4.mono HB1'.out.size))
          have HS1 := mkHid hs4
          have HG : Hid (y1.heap[y0.heap.size]? = some (.cells #[.slice none 0 0, .int .i64 0, .slice none 0 0, .slice none 0 0] 104 (0, 0))) := (hb4.block y0.heap.size (by rw [HSZ.out]; omega)).trans HG0.out
          have HGY : Hid (y0.heap.size ≤ y0.heap.size) := Nat.le_refl _
          have HSN := HS1
          have HBN := HBC
          clear HS1 HG0 HSN0 HTN hs4 hb4 HUN HSZ
          try dsimp only
          refine hK.out _ _ (HS.out _ HBC.out) (fun _ => ?_)
          clear hK K
          (try simp only [List.getElem_toArray, List.getElem_cons_succ, List.getElem_cons_zero, Act.put, List.setIfInBounds_toArray, List.set_cons_zero, List.set_cons_succ])
          clear HBC
          refine wpAnyH_take (i := 8) (oi := _) (v := ?_) rfl (by kernel_rfl) (by kernel_rfl) (by kernel_rfl) (fun _ _ _ h => h) (Or.inl ⟨by rfl, ?_⟩) (by assumption) ?_
          rotate_left
          · (intro w' hSw; obtain ⟨⟨z0, z1, z2, z3⟩, z4, z5⟩ := hSw; go_simp; try with_reducible rfl)
          (try simp only [List.getElem_toArray, List.getElem_cons_succ, List.getElem_cons_zero, Act.put, List.setIfInBounds_toArray, List.set_cons_zero, List.set_cons_succ])
          refine wpAnyH_take (i := 9) (oi := _) (v := ?_) rfl (by kernel_rfl) (by kernel_rfl) (by kernel_rfl) (fun _ _ _ h => h) (Or.inl ⟨by rfl, ?_⟩) (by assumption) ?_
          rotate_left
          · (intro w' hSw; obtain ⟨⟨z0, z1, z2, z3⟩, z4, z5⟩ := hSw; go_simp; try with_reducible rfl)
          (try simp only [List.getElem_toArray, List.getElem_cons_succ, List.getElem_cons_zero, Act.put, List.setIfInBounds_toArray, List.set_cons_zero, List.set_cons_succ])
          refine wpAnyH_take (i := 10) (oi := _) (v := ?_) rfl (by kernel_rfl) (by kernel_rfl) (by kernel_rfl) (fun _ _ _ h => h) (Or.inl ⟨by rfl, ?_⟩) (by assumption) ?_
          rotate_left
          · (intro w' hSw; obtain ⟨⟨z0, z1, z2, z3⟩, z4, z5⟩ := hSw; go_simp; try with_reducible rfl)
          (try simp only [List.getElem_toArray, List.getElem_cons_succ, List.getElem_cons_zero, Act.put, List.setIfInBounds_toArray, List.set_cons_zero, List.set_cons_succ])
          refine wpAnyH_ready (rs := [12]) (by kernel_rfl) (by simp) ?_
          refine AllReadyH.cons (o := _) rfl (fun K hK => ?_) AllReadyH.nil
          obtain ⟨f0, f1, f2, f3⟩ := st_free HG.out
          obtain ⟨k0, k1, k2, k3⟩ := st_cells HG.out
          have HY4 := mkHid (below_four HBN.out (g := y0.heap.size) HGY.out (.slice ac4 M.code.length cc4) (.int .i64 M.next) (.slice av4 vs4.length cv4) (.slice ar4 rs4.length cr4))
          have HX4 := mkHid ((HY4.out.block D HZY.out).trans HXY.out)
          have HG4 := mkHid (st_all HG.out (.slice ac4 M.code.length cc4) (.int .i64 M.next) (.slice av4 vs4.length cv4) (.slice ar4 rs4.length cr4))
          have HS4 := mkHid (HSN.out.on ((Fr.refl (y0.heap.size :: [D]) y1).four (List.mem_cons_self) (.slice ac4 M.code.length cc4) (.int .i64 M.next) (.slice av4 vs4.length cv4) (.slice ar4 rs4.length cr4)))
          go_simp
          try dsimp only
          refine hK.out _ _ (HS.out _ HY4.out) (fun hSz => ?_)
          clear hK K f0 f1 f2 f3 k0 k1 k2 k3
          (try simp only [List.getElem_toArray, List.getElem_cons_succ, List.getElem_cons_zero, Act.put, List.setIfInBounds_toArray, List.set_cons_zero, List.set_cons_succ])
          refine wpAnyH_take (i := 13) (oi := _) (v := ?_) rfl (by kernel_rfl) (by kernel_rfl) (by kernel_rfl) (fun _ _ _ h => h) (Or.inl ⟨by rfl, ?_⟩) (by assumption) ?_
          rotate_left
          · (intro w' hSw; obtain ⟨⟨z0, z1, z2, z3⟩, z4, z5⟩ := hSw; go_simp; try with_reducible rfl)
          (try simp only [List.getElem_toArray, List.getElem_cons_succ, List.getElem_cons_zero, Act.put, List.setIfInBounds_toArray, List.set_cons_zero, List.set_cons_succ])
          refine wpAnyH_done (by kernel_rfl) (NoPanic.normal ?_) _
          have HF4 := mkHid (HFY.out.trans (Fr.of HY4.out))
          have HGB : Hid (D < y0.heap.size) := by have := HGY.out; have := HZY.out; rw [Hid]; omega
          have HZ4 : Hid (D < ((((y1.setCell ⟨y0.heap.size, 0, none⟩ (.slice ac4 M.code.length cc4)).setCell ⟨y0.heap.size, 1, none⟩ (.int .i64 M.next)).setCell ⟨y0.heap.size, 2, none⟩ (.slice av4 vs4.length cv4)).setCell ⟨y0.heap.size, 3, none⟩ (.slice ar4 rs4.length cr4)).heap.size) := by have := HY4.out.size; have := HZY.out; rw [Hid]; omega
          have hh0 := mkHid (keep dd0.out HY4.out)
          have hh2 := mkHid (keep dd2.out HY4.out)
          generalize ((((y1.setCell ⟨y0.heap.size, 0, none⟩ (.slice ac4 M.code.length cc4)).setCell ⟨y0.heap.size, 1, none⟩ (.int .i64 M.next)).setCell ⟨y0.heap.size, 2, none⟩ (.slice av4 vs4.length cv4)).setCell ⟨y0.heap.size, 3, none⟩ (.slice ar4 rs4.length cr4)) = zz at *
          generalize y0.heap.size = g10 at *
          clear HG HSN HBN hSz hSd HS HY4 HSY HXY HTY HFY HZY dd0 dd1 dd2 dd3 HGY
          go_wp2_with fail
          refine wp_region_noPanic ?_
          obtain ⟨x0, hv0⟩ : ∃ X, zz.drew = X := ⟨_, rfl⟩
          have hbd : Below zz.heap.size zz x0 := by rw [← hv0]; exact (Below.refl _ _).drew
          have hgz : g10 < zz.heap.size := (Array.getElem?_eq_some_iff.1 HG4.out).1
          have HXX := mkHid ((hbd.block D HZ4.out).trans HX4.out)
          have HGX := mkHid ((hbd.block g10 hgz).trans HG4.out)
          have HSX := mkHid (HS4.out.on (Fr.of hbd))
          have HFX := mkHid (HF4.out.trans (Fr.of hbd))
          have HZX : Hid (D < x0.heap.size ∧ g10 < x0.heap.size) := by have := HZ4.out; have := hbd.size; rw [Hid]; omega
          have ee0 := mkHid (keep hh0.out hbd)
          have ee2 := mkHid (keep hh2.out hbd)
          have hRn2 : R ≤ 20000 := by have := HSX.out.b.n1; omega
          have HFI : Hid (Ins.fit ⟨12, 0, R, ⟨#[]⟩, 0, ng⟩) := fit_n 12 0 R 0 ng (by omega) (by omega) (by omega) (by omega)
          have HS : Hid (∀ X, Fr [D] x0 X → (fun X : World => (X.cell? ⟨g10, 0, none⟩ = some (.slice ac4 M.code.length cc4) ∧ X.cell? ⟨g10, 1, none⟩ = some (.int .i64 M.next) ∧ X.cell? ⟨g10, 2, none⟩ = some (.slice av4 vs4.length cv4) ∧ X.cell? ⟨g10, 3, none⟩ = some (.slice ar4 rs4.length cr4)) ∧ X.cell? ⟨C, 1, none⟩ = some (.slice (some ⟨b4, off4, none⟩) xb.length cap') ∧ X.cell? ⟨b4, off4 + k * 2, none⟩ = some (.bool ng)) X) := fun X h => by
            have h1 := HZX.out
            have h2 := HGB.out
            exact ⟨st_cells ((h.block g10 h1.2 (by simp; omega)).trans HGX.out), (World.cell?_of_block (w := x0) (a := ⟨C, 1, none⟩) (h.block C (by omega) (by simp; omega))).trans ee0.out, (World.cell?_of_block (w := x0) (a := ⟨b4, off4 + k * 2, none⟩) (h.block b4 (by omega) (by simp; omega))).trans ee2.out⟩
          refine wp_region_held_drew (S := fun X : World => (X.cell? ⟨g10, 0, none⟩ = some (.slice ac4 M.code.length cc4) ∧ X.cell? ⟨g10, 1, none⟩ = some (.int .i64 M.next) ∧ X.cell? ⟨g10, 2, none⟩ = some (.slice av4 vs4.length cv4) ∧ X.cell? ⟨g10, 3, none⟩ = some (.slice ar4 rs4.length cr4)) ∧ X.cell? ⟨C, 1, none⟩ = some (.slice (some ⟨b4, off4, none⟩) xb.length cap') ∧ X.cell? ⟨b4, off4 + k * 2, none⟩ = some (.bool ng)) (by kernel_rfl) (by rw [hv0]; exact HS.out _ (Fr.refl _ _)) (fun hSd => ?_)
          rw [hv0] at hSd ⊢
          have HB0 : Hid (Fr [D] x0 x0) := Fr.refl _ _
          clear hv0 hbd HX4 HG4 HS4 HF4 HZ4 hh0 hh2
          refine wpAnyH_take (i := 0) (oi := _) (v := ?_) rfl (by kernel_rfl) (by kernel_rfl) (by kernel_rfl) (fun _ _ _ h => h) (Or.inl ⟨by rfl, ?_⟩) (by assumption) ?_
          rotate_left
          · (intro w' hSw; obtain ⟨⟨z0, z1, z2, z3⟩, z4, z5⟩ := hSw; go_simp; try with_reducible rfl)
          (try simp only [List.getElem_toArray, List.getElem_cons_succ, List.getElem_cons_zero, Act.put, List.setIfInBounds_toArray, List.set_cons_zero, List.set_cons_succ])
          refine wpAnyH_take (i := 1) (oi := _) (v := ?_) rfl (by kernel_rfl) (by kernel_rfl) (by kernel_rfl) (fun _ _ _ h => h) (Or.inl ⟨by rfl, ?_⟩) (by assumption) ?_
          rotate_left
          · (intro w' hSw; obtain ⟨⟨z0, z1, z2, z3⟩, z4, z5⟩ := hSw; go_simp; try with_reducible rfl)
          (try simp only [List.getElem_toArray, List.getElem_cons_succ, List.getElem_cons_zero, Act.put, List.setIfInBounds_toArray, List.set_cons_zero, List.set_cons_succ])
          refine wpAnyH_take (i := 2) (oi := _) (v := ?_) rfl (by kernel_rfl) (by kernel_rfl) (by kernel_rfl) (fun _ _ _ h => h) (Or.inl ⟨by rfl, ?_⟩) (by assumption) ?_
          rotate_left
          · (intro w' hSw; obtain ⟨⟨z0, z1, z2, z3⟩, z4, z5⟩ := hSw; go_simp; try with_reducible rfl)
          (try simp only [List.getElem_toArray, List.getElem_cons_succ, List.getElem_cons_zero, Act.put, List.setIfInBounds_toArray, List.set_cons_zero, List.set_cons_succ])
          refine wpAnyH_take (i := 3) (oi := _) (v := ?_) rfl (by kernel_rfl) (by kernel_rfl) (by kernel_rfl) (fun _ _ _ h => h) (Or.inl ⟨by rfl, ?_⟩) (by assumption) ?_
          rotate_left
          · (intro w' hSw; obtain ⟨⟨z0, z1, z2, z3⟩, z4, z5⟩ := hSw; go_simp; try with_reducible rfl)
          (try simp only [List.getElem_toArray, List.getElem_cons_succ, List.getElem_cons_zero, Act.put, List.setIfInBounds_toArray, List.set_cons_zero, List.set_cons_succ])
          refine wpAnyH_take (i := 4) (oi := _) (v := ?_) rfl (by kernel_rfl) (by kernel_rfl) (by kernel_rfl) (fun _ _ _ h => h) (Or.inl ⟨by rfl, ?_⟩) (by assumption) ?_
          rotate_left
          · (intro w' hSw; obtain ⟨⟨z0, z1, z2, z3⟩, z4, z5⟩ := hSw; go_simp; try with_reducible rfl)
          (try simp only [List.getElem_toArray, List.getElem_cons_succ, List.getElem_cons_zero, Act.put, List.setIfInBounds_toArray, List.set_cons_zero, List.set_cons_succ])
          refine wpAnyH_take (i := 5) (oi := _) (v := ?_) rfl (by kernel_rfl) (by kernel_rfl) (by kernel_rfl) (fun _ _ _ h => h) (Or.inl ⟨by rfl, ?_⟩) (by assumption) ?_
          rotate_left
          · (intro w' hSw; obtain ⟨⟨z0, z1, z2, z3⟩, z4, z5⟩ := hSw; go_simp; try with_reducible rfl)
          (try simp only [List.getElem_toArray, List.getElem_cons_succ, List.getElem_cons_zero, Act.put, List.setIfInBounds_toArray, List.set_cons_zero, List.set_cons_succ])
          refine wpAnyH_take (i := 6) (oi := _) (v := ?_) rfl (by kernel_rfl) (by kernel_rfl) (by kernel_rfl) (fun _ _ _ h => h) (Or.inl ⟨by rfl, ?_⟩) (by assumption) ?_
          rotate_left
          · (intro w' hSw; obtain ⟨⟨z0, z1, z2, z3⟩, z4, z5⟩ := hSw; go_simp; try with_reducible rfl)
          (try simp only [List.getElem_toArray, List.getElem_cons_succ, List.getElem_cons_zero, Act.put, List.setIfInBounds_toArray, List.set_cons_zero, List.set_cons_succ])
          refine wpAnyH_take (i := 7) (oi := _) (v := ?_) rfl (by kernel_rfl) (by kernel_rfl) (by kernel_rfl) (fun _ _ _ h => h) (Or.inl ⟨by rfl, ?_⟩) (by assumption) ?_
          rotate_left
          · (intro w' hSw; obtain ⟨⟨z0, z1, z2, z3⟩, z4, z5⟩ := hSw; go_simp; try with_reducible rfl)
          (try simp only [List.getElem_toArray, List.getElem_cons_succ, List.getElem_cons_zero, Act.put, List.setIfInBounds_toArray, List.set_cons_zero, List.set_cons_succ])
          refine wpAnyH_take (i := 8) (oi := _) (v := ?_) rfl (by kernel_rfl) (by kernel_rfl) (by kernel_rfl) (fun _ _ _ h => h) (Or.inl ⟨by rfl, ?_⟩) (by assumption) ?_
          rotate_left
          · (intro w' hSw; obtain ⟨⟨z0, z1, z2, z3⟩, z4, z5⟩ := hSw; go_simp; try with_reducible rfl)
          (try simp only [List.getElem_toArray, List.getElem_cons_succ, List.getElem_cons_zero, Act.put, List.setIfInBounds_toArray, List.set_cons_zero, List.set_cons_succ])
          refine wpAnyH_ready (rs := [9]) (by kernel_rfl) (by simp) ?_
          refine AllReadyH.cons (o := _) rfl (fun K hK => ?_) AllReadyH.nil
          go_simp
          refine (emit_sx 0 [D] x0 ac4 cc4 av4 cv4 ar4 cr4 M vs4 rs4 ⟨12, 0, R, ⟨#[]⟩, 0, ng⟩ HFI.out (fun k hk => by have := HZX.out; simp at hk; omega) (HSX.out.sub fun k hk => List.mem_cons_of_mem _ hk) (by omega)).mono ?_
          rintro r z6 ⟨a6, c6, rfl, hs6, hb6⟩
          have HX6 := mkHid ((hb6.block D HZX.out.1).trans HXX.out)
          have HS6 := mkHid hs6
          have HF7 := mkHid (HFX.out.trans (Fr.of hb6))
          have HB6 : Hid (Fr [D] x0 z6) := Fr.of hb6
          clear hs6 hb6 HXX HSX HFX
          try dsimp only
          refine hK.out _ _ (HS.out _ HB6.out) (fun _ => ?_)
          clear hK K
          (try simp only [List.getElem_toArray, List.getElem_cons_succ, List.getElem_cons_zero, Act.put, List.setIfInBounds_toArray, List.set_cons_zero, List.set_cons_succ])
          refine wpAnyH_ready (rs := [10]) (by kernel_rfl) (by simp) ?_
          refine AllReadyH.cons (o := _) rfl (fun K hK => ?_) AllReadyH.nil
          obtain ⟨k0, k1, k2, k3⟩ := st_cells HX6.out
          obtain ⟨f0, f1, f2, f3⟩ := st_free HX6.out
          have HSB7 := mkHid (SB.mono (SB.stored HX6.out (by simp) HS6.out) (show (0 : Int) - 1 ≤ 0 by omega))
          have HSB8 : Hid (SB 0 [D] ((((z6.setCell ⟨D, 0, none⟩ (.slice a6 (M.lay ⟨12, 0, R, ⟨#[]⟩, 0, ng⟩).code.length c6)).setCell ⟨D, 1, none⟩ (.int .i64 (M.lay ⟨12, 0, R, ⟨#[]⟩, 0, ng⟩).next)).setCell ⟨D, 2, none⟩ (.slice av4 vs4.length cv4)).setCell ⟨D, 3, none⟩ (.slice ar4 rs4.length cr4)) D ((bl.take (k + 1)).foldl (fun m x => litS x m) m0)) := by rw [Hid, HFK.out]; exact HSB7.out
          have HFF := mkHid ((Fr.refl [D] z6).four (g := D) (by simp) (.slice a6 (M.lay ⟨12, 0, R, ⟨#[]⟩, 0, ng⟩).code.length c6) (.int .i64 (M.lay ⟨12, 0, R, ⟨#[]⟩, 0, ng⟩).next) (.slice av4 vs4.length cv4) (.slice ar4 rs4.length cr4))
          have HF8 := mkHid (HF7.out.trans HFF.out)
          have HB8 := mkHid (HB6.out.trans HFF.out)
          go_simp
          clear k0 k1 k2 k3 f0 f1 f2 f3
          try dsimp only
          refine hK.out _ _ (HS.out _ HB8.out) (fun _ => ?_)
          clear hK K
          (try simp only [List.getElem_toArray, List.getElem_cons_succ, List.getElem_cons_zero, Act.put, List.setIfInBounds_toArray, List.set_cons_zero, List.set_cons_succ])
          refine wpAnyH_done (by kernel_rfl) (NoPanic.normal ?_) _
          clear HS hSd HX6 HS6 HF7 HB6 HSB7 HFF HB8 HB0 ee0 ee2 HZX HGX
          go_wp2_with fail
          go_round
          case rel => exact ⟨k + 1, by omega, by go_num, HSB8, HF8⟩
          case measure => simp [intOf]; omega
        · obtain rfl : k = bl.length := by omega
          have hmk9 : bl.foldl (fun m x => litS x m) m0 = mk := by rw [← hmk, List.take_length]
          have HCS2 : Hid (compS h bl = (mk.lay ⟨13, 0, 0, h.hd.s, h.hd.n, false⟩).code) := by rw [Hid, HCS.out, hmk9]
          obtain ⟨b, off, rfl, _, p1, p2, hfp⟩ := row_hdN HR4.out
          have hbD : b < D := by have := cell_lt p1; omega
          have hfs : h.hd.s.size ≤ 9223372036854775807 := by obtain ⟨_, _, _, _, _, _, hf⟩ := row_hdN HR4.out; exact hf.s
          have p1' := (World.cell?_of_block (w := W5) (a := ⟨b, off + 1, none⟩) (HF.out.block b (by have := HZ5.out; omega) (by simp; omega))).trans (keep p1 HB45.out)
          have p2' := (World.cell?_of_block (w := W5) (a := ⟨b, off + 2, none⟩) (HF.out.block b (by have := HZ5.out; omega) (by simp; omega))).trans (keep p2 HB45.out)
          have hnx : ¬ bl.length < xb.length := by have := HXL.out; omega
          clear hmk9 hmk p1 p2 hlt hk
          go_wp2_with fail
          refine wp_region_noPanic ?_
          obtain ⟨y0, hv0⟩ : ∃ X, wr.drew = X := ⟨_, rfl⟩
          have hbd : Below wr.heap.size wr y0 := by rw [← hv0]; exact (Below.refl _ _).drew
          have HXY := mkHid ((hbd.block D HZR.out).trans HX.out)
          have HSY := mkHid (HSX.out.on (Fr.of hbd))
          have HFY := mkHid (HF.out.trans (Fr.of hbd))
          have HZY : Hid (D < y0.heap.size) := by have := HZR.out; have := hbd.size; rw [Hid]; omega
          have dd0 := mkHid (keep i0 hbd)
          have dd1 := mkHid (keep p1' hbd)
          have dd2 := mkHid (keep p2' hbd)
          have HFI : Hid (Ins.fit ⟨13, 0, 0, h.hd.s, h.hd.n, false⟩) := fit_s 13 0 0 h.hd.s h.hd.n (by omega) (by omega) (by omega) hfs (by rw [HNA.out]; omega)
          have HS : Hid (∀ X, Fr [D] y0 X → (fun X : World => X.cell? ⟨C, 0, none⟩ = some (.slice (some ⟨b, off, none⟩) h.flat.length cap) ∧ X.cell? ⟨b, off + 1, none⟩ = some (.string h.hd.s) ∧ X.cell? ⟨b, off + 2, none⟩ = some (.int .i64 h.hd.n)) X) := fun X h => by
            have h1 := HZY.out
            exact ⟨(World.cell?_of_block (w := y0) (a := ⟨C, 0, none⟩) (h.block C (by omega) (by simp; omega))).trans dd0.out, (World.cell?_of_block (w := y0) (a := ⟨b, off + 1, none⟩) (h.block b (by omega) (by simp; omega))).trans dd1.out, (World.cell?_of_block (w := y0) (a := ⟨b, off + 2, none⟩) (h.block b (by omega) (by simp; omega))).trans dd2.out⟩
          refine wp_region_held_drew (S := fun X : World => X.cell? ⟨C, 0, none⟩ = some (.slice (some ⟨b, off, none⟩) h.flat.length cap) ∧ X.cell? ⟨b, off + 1, none⟩ = some (.string h.hd.s) ∧ X.cell? ⟨b, off + 2, none⟩ = some (.int .i64 h.hd.n)) (by kernel_rfl) (by rw [hv0]; exact HS.out _ (Fr.refl _ _)) (fun hSd => ?_)
          rw [hv0] at hSd ⊢
          have HB0 : Hid (Fr [D] y0 y0) := Fr.refl _ _
          clear hv0 hbd HX HSX HF HZR i0 i1 p1' p2'
          refine wpAnyH_take (i := 1) (oi := _) (v := ?_) rfl (by kernel_rfl) (by kernel_rfl) (by kernel_rfl) (fun _ _ _ h => h) (Or.inl ⟨by rfl, ?_⟩) (by assumption) ?_
          rotate_left
          · (intro w' hSw; obtain ⟨z0, z1, z2⟩ := hSw; go_simp; try with_reducible rfl)
          (try simp only [List.getElem_toArray, List.getElem_cons_succ, List.getElem_cons_zero, Act.put, List.setIfInBounds_toArray, List.set_cons_zero, List.set_cons_succ])
          refine wpAnyH_take (i := 2) (oi := _) (v := ?_) rfl (by kernel_rfl) (by kernel_rfl) (by kernel_rfl) (fun _ _ _ h => h) (Or.inl ⟨by rfl, ?_⟩) (by assumption) ?_
          rotate_left
          · (intro w' hSw; obtain ⟨z0, z1, z2⟩ := hSw; go_simp; try with_reducible rfl)
          (try simp only [List.getElem_toArray, List.getElem_cons_succ, List.getElem_cons_zero, Act.put, List.setIfInBounds_toArray, List.set_cons_zero, List.set_cons_succ])
          refine wpAnyH_take (i := 3) (oi := _) (v := ?_) rfl (by kernel_rfl) (by kernel_rfl) (by kernel_rfl) (fun _ _ _ h => h) (Or.inl ⟨by rfl, ?_⟩) (by assumption) ?_
          rotate_left
          · (intro w' hSw; obtain ⟨z0, z1, z2⟩ := hSw; go_simp; try with_reducible rfl)
          (try simp only [List.getElem_toArray, List.getElem_cons_succ, List.getElem_cons_zero, Act.put, List.setIfInBounds_toArray, List.set_cons_zero, List.set_cons_succ])
          refine wpAnyH_take (i := 4) (oi := _) (v := ?_) rfl (by kernel_rfl) (by kernel_rfl) (by kernel_rfl) (fun _ _ _ h => h) (Or.inl ⟨by rfl, ?_⟩) (by assumption) ?_
          rotate_left
          · (intro w' hSw; obtain ⟨z0, z1, z2⟩ := hSw; go_simp; try with_reducible rfl)
          (try simp only [List.getElem_toArray, List.getElem_cons_succ, List.getElem_cons_zero, Act.put, List.setIfInBounds_toArray, List.set_cons_zero, List.set_cons_succ])
          refine wpAnyH_take (i := 5) (oi := _) (v := ?_) rfl (by kernel_rfl) (by kernel_rfl) (by kernel_rfl) (fun _ _ _ h => h) (Or.inl ⟨by rfl, ?_⟩) (by assumption) ?_
          rotate_left
          · (intro w' hSw; obtain ⟨z0, z1, z2⟩ := hSw; go_simp; try with_reducible rfl)
          (try simp only [List.getElem_toArray, List.getElem_cons_succ, List.getElem_cons_zero, Act.put, List.setIfInBounds_toArray, List.set_cons_zero, List.set_cons_succ])
          refine wpAnyH_take (i := 6) (oi := _) (v := ?_) rfl (by kernel_rfl) (by kernel_rfl) (by kernel_rfl) (fun _ _ _ h => h) (Or.inl ⟨by rfl, ?_⟩) (by assumption) ?_
          rotate_left
          · (intro w' hSw; obtain ⟨z0, z1, z2⟩ := hSw; go_simp; try with_reducible rfl)
          (try simp only [List.getElem_toArray, List.getElem_cons_succ, List.getElem_cons_zero, Act.put, List.setIfInBounds_toArray, List.set_cons_zero, List.set_cons_succ])
          refine wpAnyH_take (i := 7) (oi := _) (v := ?_) rfl (by kernel_rfl) (by kernel_rfl) (by kernel_rfl) (fun _ _ _ h => h) (Or.inl ⟨by rfl, ?_⟩) (by assumption) ?_
          rotate_left
          · (intro w' hSw; obtain ⟨z0, z1, z2⟩ := hSw; go_simp; try with_reducible rfl)
          (try simp only [List.getElem_toArray, List.getElem_cons_succ, List.getElem_cons_zero, Act.put, List.setIfInBounds_toArray, List.set_cons_zero, List.set_cons_succ])
          refine wpAnyH_take (i := 8) (oi := _) (v := ?_) rfl (by kernel_rfl) (by kernel_rfl) (by kernel_rfl) (fun _ _ _ h => h) (Or.inl ⟨by rfl, ?_⟩) (by assumption) ?_
          rotate_left
          · (intro w' hSw; obtain ⟨z0, z1, z2⟩ := hSw; go_simp; try with_reducible rfl)
          (try simp only [List.getElem_toArray, List.getElem_cons_succ, List.getElem_cons_zero, Act.put, List.setIfInBounds_toArray, List.set_cons_zero, List.set_cons_succ])
          refine wpAnyH_take (i := 9) (oi := _) (v := ?_) rfl (by kernel_rfl) (by kernel_rfl) (by kernel_rfl) (fun _ _ _ h => h) (Or.inl ⟨by rfl, ?_⟩) (by assumption) ?_
          rotate_left
          · (intro w' hSw; obtain ⟨z0, z1, z2⟩ := hSw; go_simp; try with_reducible rfl)
          (try simp only [List.getElem_toArray, List.getElem_cons_succ, List.getElem_cons_zero, Act.put, List.setIfInBounds_toArray, List.set_cons_zero, List.set_cons_succ])
          refine wpAnyH_take (i := 10) (oi := _) (v := ?_) rfl (by kernel_rfl) (by kernel_rfl) (by kernel_rfl) (fun _ _ _ h => h) (Or.inl ⟨by rfl, ?_⟩) (by assumption) ?_
          rotate_left
          · (intro w' hSw; obtain ⟨z0, z1, z2⟩ := hSw; go_simp; try with_reducible rfl)
          (try simp only [List.getElem_toArray, List.getElem_cons_succ, List.getElem_cons_zero, Act.put, List.setIfInBounds_toArray, List.set_cons_zero, List.set_cons_succ])
          refine wpAnyH_take (i := 11) (oi := _) (v := ?_) rfl (by kernel_rfl) (by kernel_rfl) (by kernel_rfl) (fun _ _ _ h => h) (Or.inl ⟨by rfl, ?_⟩) (by assumption) ?_
          rotate_left
          · (intro w' hSw; obtain ⟨z0, z1, z2⟩ := hSw; go_simp; try with_reducible rfl)
          (try simp only [List.getElem_toArray, List.getElem_cons_succ, List.getElem_cons_zero, Act.put, List.setIfInBounds_toArray, List.set_cons_zero, List.set_cons_succ])
          refine wpAnyH_ready (rs := [0]) (by kernel_rfl) (by simp) ?_
          refine AllReadyH.cons (o := _) rfl (fun K hK => ?_) AllReadyH.nil
          obtain ⟨k0, k1, k2, k3⟩ := st_cells HXY.out
          go_simp
          clear k0 k1 k2 k3
          try dsimp only
          refine hK.out _ _ (HS.out _ HB0.out) (fun _ => ?_)
          clear hK K
          (try simp only [List.getElem_toArray, List.getElem_cons_succ, List.getElem_cons_zero, Act.put, List.setIfInBounds_toArray, List.set_cons_zero, List.set_cons_succ])
          refine wpAnyH_ready (rs := [12]) (by kernel_rfl) (by simp) ?_
          refine AllReadyH.cons (o := _) rfl (fun K hK => ?_) AllReadyH.nil
          go_simp
          refine (emit_sx 0 [D] y0 ac2 cc2 av2 cv2 ar2 cr2 mk vs2 rs2 ⟨13, 0, 0, h.hd.s, h.hd.n, false⟩ HFI.out (fun k hk => by have := HZY.out; simp at hk; omega) HSY.out (by omega)).mono ?_
          rintro r z6 ⟨a6, c6, rfl, hs6, hb6⟩
          have HX6 := mkHid ((hb6.block D HZY.out).trans HXY.out)
          have HS6 := mkHid hs6
          have HF7 := mkHid (HFY.out.trans (Fr.of hb6))
          have HB6 : Hid (Fr [D] y0 z6) := Fr.of hb6
          clear hs6 hb6 HXY HSY HFY
          try dsimp only
          refine hK.out _ _ (HS.out _ HB6.out) (fun _ => ?_)
          clear hK K
          (try simp only [List.getElem_toArray, List.getElem_cons_succ, List.getElem_cons_zero, Act.put, List.setIfInBounds_toArray, List.set_cons_zero, List.set_cons_succ])
          refine wpAnyH_ready (rs := [13]) (by kernel_rfl) (by simp) ?_
          refine AllReadyH.cons (o := _) rfl (fun K hK => ?_) AllReadyH.nil
          obtain ⟨k0, k1, k2, k3⟩ := st_cells HX6.out
          obtain ⟨f0, f1, f2, f3⟩ := st_free HX6.out
          have HX8 := mkHid (st_all HX6.out (.slice a6 (mk.lay ⟨13, 0, 0, h.hd.s, h.hd.n, false⟩).code.length c6) (.int .i64 (mk.lay ⟨13, 0, 0, h.hd.s, h.hd.n, false⟩).next) (.slice av2 vs2.length cv2) (.slice ar2 rs2.length cr2))
          have HFF := mkHid ((Fr.refl [D] z6).four (g := D) (by simp) (.slice a6 (mk.lay ⟨13, 0, 0, h.hd.s, h.hd.n, false⟩).code.length c6) (.int .i64 (mk.lay ⟨13, 0, 0, h.hd.s, h.hd.n, false⟩).next) (.slice av2 vs2.length cv2) (.slice ar2 rs2.length cr2))
          have HS8 := mkHid (HS6.out.on HFF.out)
          have HF8 := mkHid (HF7.out.trans HFF.out)
          have HB8 := mkHid (HB6.out.trans HFF.out)
          go_simp
          clear k0 k1 k2 k3 f0 f1 f2 f3
          try dsimp only
          refine hK.out _ _ (HS.out _ HB8.out) (fun _ => ?_)
          clear hK K
          (try simp only [List.getElem_toArray, List.getElem_cons_succ, List.getElem_cons_zero, Act.put, List.setIfInBounds_toArray, List.set_cons_zero, List.set_cons_succ])
          refine wpAnyH_done (by kernel_rfl) (NoPanic.normal ?_) _
          clear HS hSd HX6 HS6 HF7 HB6 HFF HB8 HB0 dd0 dd1 dd2 HZY
          generalize ((((z6.setCell ⟨D, 0, none⟩ (.slice a6 (mk.lay ⟨13, 0, 0, h.hd.s, h.hd.n, false⟩).code.length c6)).setCell ⟨D, 1, none⟩ (.int .i64 (mk.lay ⟨13, 0, 0, h.hd.s, h.hd.n, false⟩).next)).setCell ⟨D, 2, none⟩ (.slice av2 vs2.length cv2)).setCell ⟨D, 3, none⟩ (.slice ar2 rs2.length cr2)) = zf at *
          obtain ⟨k0, k1, k2, k3⟩ := st_cells HX8.out
          have hbz : Below w4.heap.size w4 zf := HB45.out.trans (HF8.out.below (by have := HZ5.out; omega) fun k hk => by simp at hk; omega)
          have HBE := mkHid (HB4.out.then hbz)
          clear hbz
          go_wp2_with fail
          refine bodyPost_ret (v := .tuple #[.slice a6 (mk.lay ⟨13, 0, 0, h.hd.s, h.hd.n, false⟩).code.length c6, .int .i64 0]) (by simp [results, Try.results17, go_sem, *]) rfl ?_
          refine ⟨a6, c6, by rw [HCS2.out], ?_, ?_⟩
          · rw [HCS2.out]; exact HS8.out.st.c.keeps (veil_keeps [D] zf)
          · first | exact HBE.out | (rw [← HC.out]; exact HBE.out)
end Go.Proofs.Ytmmnfkggfnokjaa
set_option linter.unusedVariables false
namespace Go.Proofs.Ytmmnfkggfnokjaa
open Go.RowKit
/-! ### the document's Compile of what may not be -/
theorem refcomp_no (a : Option Addr) (cap : Nat) (a' : Option Addr) (cap' : Nat) (w : World) (hs : List Cel) (bs : List Lt) (hr : Row w a cap hs) (hr' : Row w a' cap' bs) (hm : mayB ⟨hs, bs⟩ = false) :
    Calls Try.prog 17 #[.agg #[.slice a hs.length cap, .slice a' bs.length cap']] w fun e w' => e = .returned (.tuple #[.slice none 0 0, .int .i64 1]) ∧ Below w.heap.size w w' := by
  have hb0 := (Below.refl w.heap.size w).new (.cells #[.slice a hs.length cap, .slice a' bs.length cap'] 25)
  have HM := mkHid hm
  clear hm
  go_enter Try.func17, Try.ntmps17
  go_wp2_with fail
  refine (refmay_any a cap a' cap' _ hs bs (hr.below hb0) (hr'.below hb0)).mono ?_
  rintro e w1 ⟨rfl, hb1⟩
  rw [HM.out]
  go_wp2_with fail
  refine bodyPost_ret (v := .tuple #[.slice none 0 0, .int .i64 1]) (by simp [results, Try.results17, go_sem, *]) rfl ?_
  exact ⟨rfl, hb0.then hb1⟩
end Go.Proofs.Ytmmnfkggfnokjaa
set_option linter.unusedVariables false
namespace Go.Proofs.Ytmmnfkggfnokjaa
open Go.RowKit
/-! ### numbering by a row of variables -/
def addL (V w : List Int) : List Int := w.foldl (fun V x => if x ∈ V then V else V ++ [x]) V
def valsC (xs : List Cel) : List Int := (xs.filter fun c => decide (c.k = 1)).map Cel.n
structure NumV (s : NumS) (V : List Int) : Prop where
  cnt : s.2 = V.length
  at_ : ∀ j, s.1 j = if j ∈ V then some (placeI V j) else none
theorem NumV.nil : NumV nu0 [] := ⟨rfl, fun j => by simp [nu0]⟩
theorem place_snoc (V : List Int) (x j : Int) (hx : x ∉ V) : placeI (V ++ [x]) j = if j ∈ V then placeI V j else if j = x then (V.length : Int) else -1 := by
  unfold placeI
  by_cases h1 : j ∈ V
  · rw [if_pos (List.mem_append_left _ h1), if_pos h1, if_pos h1, List.idxOf_append, if_pos h1]
  · rw [if_neg h1]
    by_cases h2 : j = x
    · subst h2
      rw [if_pos (by simp), if_pos rfl, List.idxOf_append, if_neg h1]
      simp
    · rw [if_neg (by simp [h1, h2]), if_neg h2]
theorem NumV.one {s : NumS} {V : List Int} (h : NumV s V) (c : Cel) : NumV (nuC s c).2 (if c.k = 1 ∧ c.n ∉ V then V ++ [c.n] else V) := by
  unfold nuC
  by_cases hk : c.k = 1
  · rw [if_pos hk]
    by_cases hm : c.n ∈ V
    · have e := h.at_ c.n
      rw [if_pos hm] at e
      rw [e, if_neg (fun x => x.2 hm)]
      exact h
    · have e := h.at_ c.n
      rw [if_neg hm] at e
      rw [e, if_pos ⟨hk, hm⟩]
      refine ⟨by simp [h.cnt], fun j => ?_⟩
      dsimp only
      rw [place_snoc V c.n j hm]
      by_cases h1 : j = c.n
      · subst h1
        rw [if_pos rfl, if_pos (by simp), if_neg hm, if_pos rfl, h.cnt]
      · rw [if_neg h1, h.at_ j]
        by_cases h2 : j ∈ V
        · rw [if_pos h2, if_pos (by simp [h2]), if_pos h2]
        · rw [if_neg h2, if_neg (by simp [h1, h2])]
  · rw [if_neg hk, if_neg (fun x => hk x.1)]
    exact h
theorem NumV.all : ∀ (xs : List Cel) {s : NumS} {V : List Int}, NumV s V → NumV (nuL s xs).2 (varsGo V xs)
  | [], s, V, h => h
  | c :: xs, s, V, h => by
    show NumV (nuL (nuC s c).2 xs).2 _
    unfold varsGo
    exact NumV.all xs (h.one c)
/-- the variables of a clause, as they first stand -/
def varsCl (h : List Cel) (cs : List (List Cel)) : List Int := cs.foldl varsGo (varsL h)
theorem NumV.alls : ∀ (cs : List (List Cel)) {s : NumS} {V : List Int}, NumV s V → NumV (nuLs s cs).2 (cs.foldl varsGo V)
  | [], s, V, h => h
  | c :: cs, s, V, h => by
    rw [List.foldl_cons]
    exact NumV.alls cs (h.all c)
/-- a clause numbered, cell by cell -/
def numClL (x : Cl) : Cl := ⟨x.h.map (numC (varsCl x.h (x.b.map Lt.t))), x.b.map fun y => ⟨y.neg, y.t.map (numC (varsCl x.h (x.b.map Lt.t)))⟩⟩
end Go.Proofs.Ytmmnfkggfnokjaa
set_option linter.unusedVariables false
namespace Go.Proofs.Ytmmnfkggfnokjaa
open Go.RowKit
/-! ### Source -/
theorem compileY (a : Option Addr) (cap : Nat) (a' : Option Addr) (cap' : Nat) (w : World) (x : Cl) (h : Tm) (bl : List (Bool × Tm)) (n m : Nat) (hT : ClT x h bl) (hn : x.h.length = n) (hm : x.b.length = m) (hr : Row w a cap x.h) (hr' : Row w a' cap' x.b) :
    Calls Try.prog 16 #[.agg #[.slice a n cap, .slice a' m cap']] w (compN w h bl) := by
  subst hn; subst hm
  exact compile_yes a cap a' cap' w x h bl hT hT.may hr hr'
theorem compileN (a : Option Addr) (cap : Nat) (a' : Option Addr) (cap' : Nat) (w : World) (x : Cl) (n m : Nat) (hM : mayB x = false) (hn : x.h.length = n) (hm : x.b.length = m) (hr : Row w a cap x.h) (hr' : Row w a' cap' x.b) :
    Calls Try.prog 16 #[.agg #[.slice a n cap, .slice a' m cap']] w fun e w' => e = .returned (.tuple #[.slice none 0 0, .int .i64 1]) ∧ Below w.heap.size w w' := by
  subst hn; subst hm
  exact compile_no a cap a' cap' w x.h x.b hr hr' hM
theorem equalK (a : Option Addr) (cap : Nat) (a' : Option Addr) (cap' : Nat) (w : World) (xs ys : List Ins) (n m : Nat) (r : Bool) (hn : xs.length = n) (hm : ys.length = m) (hrr : decide (xs = ys) = r) (hx : Row w a cap xs) (hy : Row w a' cap' ys) :
    Calls Try.prog 75 #[.slice a n cap, .slice a' m cap'] w fun e w' => e = .returned (.bool r) ∧ Below w.heap.size w w' := by
  subst hn; subst hm; subst hrr
  exact equal_any a cap a' cap' w xs ys hx hy
/-- what Source makes of a code -/
def SrcPost (w : World) (L : List Ins) (r : Ending) (W' : World) : Prop :=
  Below w.heap.size w W' ∧ ((r = .returned (.tuple #[.agg #[.slice none 0 0, .slice none 0 0], .bool false]) ∧ ∀ x h bl, ClT x h bl → compS h bl ≠ L) ∨
   ∃ (x : Cl) (h : Tm) (bl : List (Bool × Tm)) (a : Option Addr) (c : Nat) (a' : Option Addr) (c' : Nat), r = .returned (.tuple #[.agg #[.slice a x.h.length c, .slice a' x.b.length c'], .bool true]) ∧ Row W' a c x.h ∧ Row W' a' c' x.b ∧ ClT x h bl ∧ compS h bl = L ∧ numCl h bl = x ∧ ∀ x0 h0 bl0, ClT x0 h0 bl0 → compS h0 bl0 = L → numCl h0 bl0 = x)
theorem zero_cl {W : World} {k : Nat} (h : W.heap[k]? = some (.cells #[.slice none 0 0, .slice none 0 0] 25 (0, 0))) : W.cell? ⟨k, 0, none⟩ = some (.slice none 0 0) ∧ W.cell? ⟨k, 1, none⟩ = some (.slice none 0 0) ∧ W.frozen? ⟨k, 0, none⟩ = false ∧ W.frozen? ⟨k, 1, none⟩ = false :=
  ⟨by rw [cell_of_row W _ 0 _ _ _ h]; rfl, by rw [cell_of_row W _ 1 _ _ _ h]; rfl, by simp [World.frozen?, h], by simp [World.frozen?, h]⟩
theorem comp_pos {x : Cl} {h : Tm} {bl : List (Bool × Tm)} (hT : ClT x h bl) : 0 < (compS h bl).length := by
  rw [compS_len h bl hT.kinds hT.h3 fun p hp => ⟨(hT.litk p hp).1, (hT.litk p hp).2.1⟩]
  omega
theorem RowsN.rise {W W' : World} {B : Nat} {ls : List LitV} {cs : List (List Cel)} (h : RowsN W B ls cs) (hb : ∀ b, B ≤ b → b < W.heap.size → W'.heap[b]? = W.heap[b]?) : RowsN W' B ls cs :=
  ⟨fun k l c h1 h2 => (h.at_ k l c h1 h2).blockN (fun h => h) fun b e => hb b ((h.at_ k l c h1 h2).lt b e).1 ((h.at_ k l c h1 h2).lt b e).2⟩
set_option maxRecDepth 100000 in
set_option maxHeartbeats 3200000 in
theorem source_main (w : World) (b off c : Nat) (L0 : List Ins) (e : Ins) (hr : Row w (some ⟨b, off, none⟩) c (L0 ++ [e])) (h1 : L0.length ≤ 3600) :
    Calls Try.prog 21 #[.slice (some ⟨b, off, none⟩) (L0.length + 1) c] w (SrcPost w (L0 ++ [e])) := by
  have hb0 := (Below.refl w.heap.size w).new (.cells #[.slice none 0 0, .slice none 0 0] 25)
  have HR0 := mkHid (hr.below hb0)
  have h13 : ¬ (3601 : Int) < (L0.length : Int) + 1 := by omega
  have h14 : ¬ (L0.length : Int) + 1 = 0 := by omega
  have hc0 : (w.alloc (.cells #[.slice none 0 0, .slice none 0 0] 25)).heap[w.heap.size]? = some (.cells #[.slice none 0 0, .slice none 0 0] 25 (0, 0)) := heap_alloc_new _ _
  have HC0 := mkHid hc0
  have HB0 := mkHid hb0
  have hs0 : (w.alloc (.cells #[.slice none 0 0, .slice none 0 0] 25)).heap.size = w.heap.size + 1 := by simp
  have HS0 := mkHid hs0
  clear hr hb0 hc0 hs0
  go_enter Try.func21, Try.ntmps21
  go_wp2_with fail
  have HT := mkHid (told_any _ b off c L0 e HR0.out h1)
  refine HT.out.mono ?_
  clear HT
  rintro e1 w1 ⟨hb1, h⟩
  have hc1 := (hb1.block w.heap.size (by have := HS0.out; omega)).trans HC0.out
  have HC1 := mkHid hc1
  have HB1 := mkHid hb1
  have hbw : Below w.heap.size w w1 := HB0.out.then hb1
  have HBW := mkHid hbw
  have HR1 := mkHid (HR0.out.below hb1)
  clear hb1 hbw
  rcases h with ⟨rfl, hno⟩ | ⟨gh, ch, ab, cb, t, ls, lits, rfl, hH, hB, hR, hneg, hsum, hC⟩
  · obtain ⟨l0, l1, g0, g1⟩ := zero_cl (W := w1.alloc (.cells #[.slice none 0 0, .slice none 0 0] 25)) ((heap_alloc_old _ _ (by have := HS0.out; have := HB1.out.size; omega)).trans hc1)
    have HBN := mkHid (HBW.out.then ((Below.refl w1.heap.size w1).new (.cells #[.slice none 0 0, .slice none 0 0] 25)))
    have HNO := mkHid hno
    clear hno hc1
    go_wp2_with fail
    refine bodyPost_ret (v := .tuple #[.agg #[.slice none 0 0, .slice none 0 0], .bool false]) (by simp [results, Try.results21, go_sem, *]) rfl ⟨?_, .inl ⟨rfl, fun x h bl hT hL => ?_⟩⟩
    · exact (HBN.out.setCell (by simp) _).setCell (by simp) _
    · obtain ⟨q1, q2, chh, us, bs, r2, q3, q4, q5, q6, _⟩ := told_is hT hL
      have q8 := HNO.out chh us bs r2 q3 q4 q5 q6
      omega
  · have hll : ls.length = lits.length := by
      have := congrArg List.length hneg
      simpa using this
    have hxh : (numCl t lits).h.length = t.flat.length := nuL_len _ _
    have hxb : (numCl t lits).b.length = ls.length := by
      unfold numCl
      dsimp only
      rw [List.length_zipWith, numB_len, Nat.min_self, hll]
    have hbx : List.zipWith ltOf ls (numB t lits) = (numCl t lits).b := zip_map hneg _ (numB_len t lits)
    have HXH := mkHid hxh
    have HXB := mkHid hxb
    have HBX := mkHid hbx
    have HLL : Hid (ls.length = (numB t lits).length) := by rw [Hid, numB_len]; exact hll
    have HH := mkHid (show AccInv _ 79 (numH t) _ _ from hH)
    have HBB := mkHid hB
    have HRR := mkHid (show RowsN w1 _ ls (numB t lits) from hR)
    have HC := mkHid hC
    have hl1 : ls.length ≤ 20000 := by have := hl_le lits; omega
    have hl2 : t.flat.length ≤ 20000 := by omega
    clear hll hxh hxb hbx hH hB hR hneg hsum hC hc1
    have hb2 := (Below.refl w1.heap.size w1).new (.cells #[.slice (some ⟨gh, 0, none⟩) t.flat.length ch, .slice ab ls.length cb] 25)
    have HB2 := mkHid hb2
    have hcc : (w1.alloc (.cells #[.slice (some ⟨gh, 0, none⟩) t.flat.length ch, .slice ab ls.length cb] 25)).heap[w1.heap.size]? = some (.cells #[.slice (some ⟨gh, 0, none⟩) t.flat.length ch, .slice ab ls.length cb] 25 (0, 0)) := heap_alloc_new _ _
    have HCC := mkHid hcc
    -- the rows of what was told, in any later world
    have HROW : Hid (∀ W, (∀ k, w.heap.size + 1 ≤ k → k < w1.heap.size → W.heap[k]? = w1.heap[k]?) → w1.heap.size ≤ W.heap.size → Row W (some ⟨gh, 0, none⟩) ch (numCl t lits).h ∧ Row W ab cb (numCl t lits).b) := by
      rw [Hid]
      intro W hW hsz
      have hs := HS0.out
      have k1 : AccInv w.heap.size 79 (numH t) (.slice (some ⟨gh, 0, none⟩) t.flat.length ch) W := (HH.out.blockN (fun h => h) fun b9 e9 => hW b9 (by have := (HH.out.lt b9 e9).1; omega) (HH.out.lt b9 e9).2).baseN (by omega)
      have k2 : AccInv w.heap.size 88 ls (.slice ab ls.length cb) W := (HBB.out.blockN (fun h => h) fun b9 e9 => hW b9 (by have := (HBB.out.lt b9 e9).1; omega) (HBB.out.lt b9 e9).2).baseN (by omega)
      have k3 := HRR.out.rise (W' := W) fun b9 h9 h8 => hW b9 (by omega) h8
      obtain ⟨a9, c9, e9, r9⟩ := k1.row
      injection e9 with f1 f2 f3
      subst f1
      subst f3
      refine ⟨r9, ?_⟩
      have r8 := lits_row k2 k3 HLL.out
      rw [HBX.out] at r8
      exact r8
    clear hb2 hcc
    cases hM : mayB (numCl t lits) with
    | false =>
      have hrow := HROW.out (w1.alloc (.cells #[.slice (some ⟨gh, 0, none⟩) t.flat.length ch, .slice ab ls.length cb] 25)) (fun k _ hk => heap_alloc_old _ _ hk) (by simp)
      have HCN := mkHid (compileN _ _ _ _ _ (numCl t lits) _ _ hM HXH.out HXB.out hrow.1 hrow.2)
      have HM := mkHid hM
      clear hM hrow
      go_wp2_with fail
      refine HCN.out.mono ?_
      rintro e2 w2 ⟨rfl, hb3⟩
      obtain ⟨l0, l1, g0, g1⟩ := zero_cl ((hb3.block w.heap.size (by have := HBW.out.size; have := HS0.out; have := HB1.out.size; simp; omega)).trans ((heap_alloc_old _ _ (by have := HS0.out; have := HB1.out.size; omega)).trans HC1.out))
      have HB3 := mkHid hb3
      clear hb3 HCN
      go_wp2_with fail
      refine bodyPost_ret (v := .tuple #[.agg #[.slice none 0 0, .slice none 0 0], .bool false]) (by simp [results, Try.results21, go_sem, *]) rfl ⟨?_, .inl ⟨rfl, fun x h bl hT hL => ?_⟩⟩
      · exact (((HBW.out.then HB2.out).then HB3.out).setCell (by simp) _).setCell (by simp) _
      · obtain ⟨q1, q2, chh, us, bs, r2, q3, q4, q5, q6, q7⟩ := told_is hT hL
        obtain ⟨rfl, rfl⟩ := HC.out chh us bs r2 q3 q4 q5 q6
        obtain ⟨G, hG, _⟩ := num_clT hT
        have := HM.out
        rw [q7, hG.may] at this
        cases this
    | true =>
      obtain ⟨h', bl', hT'⟩ := may_trees hM
      have hrow := HROW.out (w1.alloc (.cells #[.slice (some ⟨gh, 0, none⟩) t.flat.length ch, .slice ab ls.length cb] 25)) (fun k _ hk => heap_alloc_old _ _ hk) (by simp)
      have HCY := mkHid (compileY _ _ _ _ _ (numCl t lits) h' bl' _ _ hT' HXH.out HXB.out hrow.1 hrow.2)
      have HT' := mkHid hT'
      have HSH := mkHid (compS_short hT')
      clear hM hrow hT'
      go_wp2_with fail
      refine HCY.out.mono ?_
      rintro e2 w2 ⟨a2, c2, rfl, hN, hb3⟩
      have HB3 := mkHid hb3
      have HBT := mkHid (HBW.out.then HB2.out |>.then hb3)
      have HZ := mkHid ((hb3.block w.heap.size (by have := HBW.out.size; have := HS0.out; have := HB1.out.size; simp; omega)).trans ((heap_alloc_old _ _ (by have := HS0.out; have := HB1.out.size; omega)).trans HC1.out))
      have HCC3 := mkHid ((hb3.block w1.heap.size (by simp)).trans HCC.out)
      have HR3 := mkHid ((HR1.out.below HB2.out).below hb3)
      have HN := mkHid hN.row
      have hsl : (compS h' bl').length ≤ 3601 := HSH.out
      clear hN hb3 HCY
      obtain ⟨C, hCe⟩ : ∃ C, compS h' bl' = C := ⟨_, rfl⟩
      rw [hCe] at HN hsl ⊢
      have HCE := mkHid hCe
      clear hCe
      obtain ⟨r, hrr⟩ : ∃ r, decide (C = L0 ++ [e]) = r := ⟨_, rfl⟩
      have HEQ := mkHid (equalK _ _ _ _ w2 C (L0 ++ [e]) C.length (L0.length + 1) r rfl (by simp) hrr HN.out HR3.out)
      have HRRR := mkHid hrr
      clear hrr
      go_wp2_with fail
      refine HEQ.out.mono ?_
      rintro e3 w3 ⟨rfl, hb4⟩
      have HB4 := mkHid hb4
      obtain ⟨l0, l1, g0, g1⟩ := zero_cl ((hb4.block w.heap.size (by have := HBT.out.size; have := HS0.out; have := HB1.out.size; have := HB2.out.size; have := HB3.out.size; omega)).trans HZ.out)
      have hcc4 := (hb4.block w1.heap.size (by have := HB2.out.size; have := HB3.out.size; simp at *; omega)).trans HCC3.out
      have k0 : w3.cell? ⟨w1.heap.size, 0, none⟩ = some (.slice (some ⟨gh, 0, none⟩) t.flat.length ch) := by rw [cell_of_row w3 _ 0 _ _ _ hcc4]; rfl
      have k1 : w3.cell? ⟨w1.heap.size, 1, none⟩ = some (.slice ab ls.length cb) := by rw [cell_of_row w3 _ 1 _ _ _ hcc4]; rfl
      clear hb4 hcc4 HEQ
      cases r with
      | false =>
        go_wp2_with fail
        refine bodyPost_ret (v := .tuple #[.agg #[.slice none 0 0, .slice none 0 0], .bool false]) (by simp [results, Try.results21, go_sem, *]) rfl ⟨?_, .inl ⟨rfl, fun x h bl hT hL => ?_⟩⟩
        · exact ((HBT.out.then HB4.out).setCell (by simp) _).setCell (by simp) _
        · obtain ⟨q1, q2, chh, us, bs, r2, q3, q4, q5, q6, q7⟩ := told_is hT hL
          obtain ⟨rfl, rfl⟩ := HC.out chh us bs r2 q3 q4 q5 q6
          obtain ⟨G, hG, hG2⟩ := num_clT hT
          have hT2 := HT'.out
          rw [q7] at hT2
          obtain ⟨e8, e9⟩ := hT2.one hG
          have := HRRR.out
          rw [decide_eq_false_iff_not] at this
          exact this (by rw [← HCE.out, e8, e9, hG2, hL])
      | true =>
        have hCL : C = L0 ++ [e] := by simpa using HRRR.out
        have HCL := mkHid hCL
        clear hCL
        go_wp2_with fail
        refine bodyPost_ret (v := .tuple #[.agg #[.slice (some ⟨gh, 0, none⟩) t.flat.length ch, .slice ab ls.length cb], .bool true]) (by simp [results, Try.results21, go_sem, *]) rfl ⟨?_, .inr ⟨numCl t lits, h', bl', _, ch, ab, cb, by rw [HXH.out, HXB.out], ?_, ?_, HT'.out, by rw [HCE.out, HCL.out], num_is HT'.out, fun x0 h0 bl0 hT hL => ?_⟩⟩
        · exact ((HBT.out.then HB4.out).setCell (by simp) _).setCell (by simp) _
        · refine (HROW.out _ (fun k h1 h2 => ?_) ?_).1
          · have z := HB2.out.size
            have z2 := HB3.out.size
            rw [World.size_alloc] at z2
            refine (Below.heap_setCell _ _ _ k (by show k ≠ w.heap.size; omega)).trans ((Below.heap_setCell _ _ _ k (by show k ≠ w.heap.size; omega)).trans ?_)
            rw [HB4.out.block k (by omega), HB3.out.block k (by simp at z ⊢; omega), heap_alloc_old _ _ h2]
          · have z := HB2.out.size
            have z2 := HB3.out.size
            have z3 := HB4.out.size
            rw [World.size_alloc] at z2
            simp only [World.size_setCell]
            omega
        · refine (HROW.out _ (fun k h1 h2 => ?_) ?_).2
          · have z := HB2.out.size
            have z2 := HB3.out.size
            rw [World.size_alloc] at z2
            refine (Below.heap_setCell _ _ _ k (by show k ≠ w.heap.size; omega)).trans ((Below.heap_setCell _ _ _ k (by show k ≠ w.heap.size; omega)).trans ?_)
            rw [HB4.out.block k (by omega), HB3.out.block k (by simp at z ⊢; omega), heap_alloc_old _ _ h2]
          · have z := HB2.out.size
            have z2 := HB3.out.size
            have z3 := HB4.out.size
            rw [World.size_alloc] at z2
            simp only [World.size_setCell]
            omega
        · obtain ⟨q1, q2, chh, us, bs, r2, q3, q4, q5, q6, q7⟩ := told_is hT hL
          obtain ⟨rfl, rfl⟩ := HC.out chh us bs r2 q3 q4 q5 q6
          exact q7.symm
theorem comp_shorts {x : Cl} {h : Tm} {bl : List (Bool × Tm)} (hT : ClT x h bl) : 0 < (compS h bl).length ∧ (compS h bl).length ≤ 3601 := ⟨comp_pos hT, compS_short hT⟩
set_option maxRecDepth 100000 in
set_option maxHeartbeats 3200000 in
/-- SOURCE -/
theorem source_any (w : World) (a : Option Addr) (c : Nat) (L : List Ins) (hr : Row w a c L) :
    Calls Try.prog 21 #[.slice a L.length c] w (SrcPost w L) := by
  by_cases h0 : L.length = 0
  · have hb0 := (Below.refl w.heap.size w).new (.cells #[.slice none 0 0, .slice none 0 0] 25)
    have HB0 := mkHid hb0
    have HN : Hid (∀ x h bl, ClT x h bl → compS h bl ≠ L) := fun x h bl hT e => by
      have := comp_pos hT
      rw [e] at this; omega
    clear hb0
    rw [h0]
    clear hr h0
    go_enter Try.func21, Try.ntmps21
    go_wp2_with fail
    refine bodyPost_ret (v := .tuple #[.agg #[.slice none 0 0, .slice none 0 0], .bool false]) (by simp [results, Try.results21, go_sem, *]) rfl ⟨?_, .inl ⟨rfl, HN.out⟩⟩
    exact HB0.out
  · by_cases h1 : 3601 < L.length
    · have hb0 := (Below.refl w.heap.size w).new (.cells #[.slice none 0 0, .slice none 0 0] 25)
      have HB0 := mkHid hb0
      have HN : Hid (∀ x h bl, ClT x h bl → compS h bl ≠ L) := fun x h bl hT e => by
        have := compS_short hT
        rw [e] at this; omega
      have hmx := hr.max
      have hle := hr.le
      clear hb0 hr
      generalize L.length = n at *
      go_enter Try.func21, Try.ntmps21
      go_wp2_with fail
      refine bodyPost_ret (v := .tuple #[.agg #[.slice none 0 0, .slice none 0 0], .bool false]) (by simp [results, Try.results21, go_sem, *]) rfl ⟨?_, .inl ⟨rfl, HN.out⟩⟩
      exact HB0.out
    · obtain ⟨b, off, rfl, _, _⟩ := hr.cases.resolve_left (fun e => h0 (by simp [e]))
      rcases List.eq_nil_or_concat L with rfl | ⟨L0, e, rfl⟩
      · simp at h0
      · rw [List.concat_eq_append] at *
        rw [List.length_append, List.length_singleton]
        exact source_main w b off c L0 e hr (by simp at h1; omega)
end Go.Proofs.Ytmmnfkggfnokjaa
set_option linter.unusedVariables false
namespace Go.Proofs.Ytmmnfkggfnokjaa
open Go.RowKit
/-! ### the head's clauses, and their codes -/
def hp10 : Tm := .mk ⟨3, ⟨#[112]⟩, 2⟩ [.mk ⟨1, ⟨#[]⟩, 7⟩ [], .mk ⟨3, ⟨#[102]⟩, 1⟩ [.mk ⟨1, ⟨#[]⟩, 7⟩ []]]
def ho10 : Tm := .mk ⟨3, ⟨#[112]⟩, 0⟩ []
def hq10 : Tm := .mk ⟨3, ⟨#[113]⟩, 1⟩ [.mk ⟨3, ⟨#[103]⟩, 1⟩ [.mk ⟨2, ⟨#[]⟩, 1⟩ []]]
def fL10 : List Cel := [⟨3, ⟨#[112]⟩, 2⟩, ⟨1, ⟨#[]⟩, 7⟩, ⟨3, ⟨#[102]⟩, 1⟩, ⟨1, ⟨#[]⟩, 7⟩]
def qL10 : List Cel := [⟨3, ⟨#[113]⟩, 1⟩, ⟨3, ⟨#[103]⟩, 1⟩, ⟨2, ⟨#[]⟩, 1⟩]
def pL10 : List Cel := [⟨3, ⟨#[112]⟩, 0⟩]
def want10 : List Ins := [⟨1, 2, 0, ⟨#[]⟩, 0, false⟩, ⟨4, 0, 1, ⟨#[102]⟩, 1, false⟩, ⟨6, 2, 0, ⟨#[]⟩, 0, false⟩, ⟨13, 0, 0, ⟨#[112]⟩, 2, false⟩]
def less10 : List Ins := [⟨4, 0, 1, ⟨#[102]⟩, 1, false⟩, ⟨6, 2, 0, ⟨#[]⟩, 0, false⟩, ⟨13, 0, 0, ⟨#[112]⟩, 2, false⟩]
def more10 : List Ins := [⟨8, 0, 0, ⟨#[103]⟩, 1, false⟩, ⟨11, 0, 0, ⟨#[]⟩, 1, false⟩, ⟨8, 0, 1, ⟨#[113]⟩, 1, false⟩, ⟨10, 0, 0, ⟨#[]⟩, 0, false⟩, ⟨12, 0, 1, ⟨#[]⟩, 0, true⟩, ⟨13, 0, 0, ⟨#[112]⟩, 0, false⟩]
theorem comp_want : compS hp10 [] = want10 := by rfl
theorem comp_more : compS ho10 [(true, hq10)] = more10 := by rfl
theorem clt_p : ClT ⟨fL10, []⟩ hp10 [] where
  eh := rfl
  eb := rfl
  ok := by simp [hp10, Tm.ok, oks, cellOk, ar, nameOk, okByte]; decide
  h3 := rfl
  h200 := by decide
  few := by simp
  lits := fun p hp => by cases hp
theorem clt_q : ClT ⟨pL10, [⟨true, qL10⟩]⟩ ho10 [(true, hq10)] where
  eh := rfl
  eb := rfl
  ok := by simp [ho10, Tm.ok, oks, cellOk, ar, nameOk, okByte]; decide
  h3 := rfl
  h200 := by decide
  few := by simp
  lits := fun p hp => by
    rw [List.mem_singleton] at hp
    subst hp
    exact ⟨(by simp [hq10, Tm.ok, oks, cellOk, ar, nameOk, okByte]; decide), rfl, by decide⟩
theorem may_none : mayB ⟨[], []⟩ = false := by decide +kernel
/-- code without its first instruction is no clause's -/
theorem less_no (x : Cl) (h : Tm) (bl : List (Bool × Tm)) (hT : ClT x h bl) : compS h bl ≠ less10 := by
  intro e
  obtain ⟨ch, e1, _, _⟩ := compS_calls h bl
  obtain ⟨K, _, ho, _⟩ := compS_regs h bl hT.kinds (ok_aris h hT.ok) hT.h3 fun p hp => (hT.litk p hp).1
  rw [e] at ho e1
  have e2 := congrArg List.getLast? e1
  rw [List.getLast?_append] at e2
  simp [less10] at e2
  rw [← e2.2] at ho
  simp [less10, onceGo, isVal, isArg, setsX] at ho
/-- what the clause of want is -/
theorem num_want : numCl hp10 [] = ⟨[⟨3, ⟨#[112]⟩, 2⟩, ⟨1, ⟨#[]⟩, 0⟩, ⟨3, ⟨#[102]⟩, 1⟩, ⟨1, ⟨#[]⟩, 0⟩], []⟩ := by rfl
theorem regs_want : regsL want10 = 3 := by decide +kernel
theorem regs_more : regsL more10 = 2 := by decide +kernel
theorem fit_want : ∀ i ∈ want10, i.x < 9223372036854775807 ∧ i.a < 9223372036854775807 := by
  intro i hi
  simp only [want10, List.mem_cons, List.not_mem_nil, or_false] at hi
  rcases hi with rfl | rfl | rfl | rfl <;> exact ⟨by decide, by decide⟩
theorem fit_more : ∀ i ∈ more10, i.x < 9223372036854775807 ∧ i.a < 9223372036854775807 := by
  intro i hi
  simp only [more10, List.mem_cons, List.not_mem_nil, or_false] at hi
  rcases hi with rfl | rfl | rfl | rfl | rfl | rfl <;> exact ⟨by decide, by decide⟩
end Go.Proofs.Ytmmnfkggfnokjaa
set_option linter.unusedVariables false
namespace Go.Proofs.Ytmmnfkggfnokjaa
open Go.RowKit
/-! ### the head -/
theorem rowL {α : Type} [RepC α] (w : World) (vs : Array Value) (T : TypeId) (xs : List α) (n : Nat) (hn : xs.length = n) (h : CRows w vs.toList xs) (hl : n ≤ 1000) : Row (w.alloc (.cells vs T)) (some ⟨w.heap.size, 0, none⟩) n xs := by
  subst hn
  exact row_new w vs (T, 0) (h.keeps (Keeps.of ((Below.refl _ _).new _))) (by omega)
theorem compK (a : Option Addr) (cap : Nat) (a' : Option Addr) (cap' : Nat) (w : World) (x : Cl) (h : Tm) (bl : List (Bool × Tm)) (n m k : Nat) (L : List Ins) (hT : ClT x h bl) (hn : x.h.length = n) (hm : x.b.length = m) (hL : compS h bl = L) (hk : L.length = k) (hr : Row w a cap x.h) (hr' : Row w a' cap' x.b) :
    Calls Try.prog 16 #[.agg #[.slice a n cap, .slice a' m cap']] w fun e w' => ∃ a2 c2, e = .returned (.tuple #[.slice a2 k c2, .int .i64 0]) ∧ Row w' a2 c2 L ∧ Below w.heap.size w w' := by
  subst hL; subst hk
  refine (compileY a cap a' cap' w x h bl n m hT hn hm hr hr').mono ?_
  rintro e w' ⟨a2, c2, rfl, hr, hb⟩
  exact ⟨a2, c2, rfl, hr.row, hb⟩
theorem srcK_want (a : Option Addr) (c : Nat) (w : World) (hr : Row w a c want10) :
    Calls Try.prog 21 #[.slice a 4 c] w fun e w' => ∃ a2 c2 a3 c3, e = .returned (.tuple #[.agg #[.slice a2 4 c2, .slice a3 0 c3], .bool true]) ∧ Row w' a2 c2 ([⟨3, ⟨#[112]⟩, 2⟩, ⟨1, ⟨#[]⟩, 0⟩, ⟨3, ⟨#[102]⟩, 1⟩, ⟨1, ⟨#[]⟩, 0⟩] : List Cel) ∧ Below w.heap.size w w' := by
  refine (source_any w a c want10 hr).mono ?_
  rintro e w' ⟨hb, h⟩
  rcases h with ⟨rfl, hno⟩ | ⟨x, h, bl, a2, c2, a3, c3, rfl, h1, h2, _, _, _, hu⟩
  · exact absurd comp_want (hno _ _ _ clt_p)
  · have e := hu _ _ _ clt_p comp_want
    rw [num_want] at e
    subst e
    exact ⟨a2, c2, a3, c3, rfl, h1, hb⟩
theorem srcK_less (a : Option Addr) (c : Nat) (w : World) (hr : Row w a c less10) :
    Calls Try.prog 21 #[.slice a 3 c] w fun e w' => e = .returned (.tuple #[.agg #[.slice none 0 0, .slice none 0 0], .bool false]) ∧ Below w.heap.size w w' := by
  refine (source_any w a c less10 hr).mono ?_
  rintro e w' ⟨hb, h⟩
  rcases h with ⟨rfl, hno⟩ | ⟨x, h, bl, a2, c2, a3, c3, rfl, h1, h2, hT, hc, _⟩
  · exact ⟨rfl, hb⟩
  · exact absurd hc (less_no x h bl hT)
theorem sameIK (a : Option Addr) (cap : Nat) (a' : Option Addr) (cap' : Nat) (w : World) (xs ys : List Ins) (n m : Nat) (r : Bool) (hn : xs.length = n) (hm : ys.length = m) (hrr : decide (xs = ys) = r) (hx : Row w a cap xs) (hy : Row w a' cap' ys) :
    Calls Try.prog 18 #[.slice a n cap, .slice a' m cap'] w fun e w' => e = .returned (.bool r) ∧ Below w.heap.size w w' := by
  subst hn; subst hm; subst hrr
  exact refsamei_any a cap a' cap' w xs ys hx hy
theorem regsK (a : Option Addr) (cap : Nat) (w : World) (xs : List Ins) (n : Nat) (r : Int) (hn : xs.length = n) (hrr : regsL xs = r) (hb : ∀ i ∈ xs, i.x < 9223372036854775807 ∧ i.a < 9223372036854775807) (hx : Row w a cap xs) :
    Calls Try.prog 19 #[.slice a n cap] w fun e w' => e = .returned (.int .i64 r) ∧ Below w.heap.size w w' := by
  subst hn; subst hrr
  exact regs_any a cap w xs hx hb
theorem fit_i (op x a : Int) (s : ByteArray) (n : Int) (neg : Bool) (h : (decide (-1000 ≤ op) && decide (op ≤ 1000) && decide (-1000 ≤ x) && decide (x ≤ 1000) && decide (-1000 ≤ a) && decide (a ≤ 1000) && decide (-1000 ≤ n) && decide (n ≤ 1000) && decide (s.size ≤ 1000)) = true) : Ins.fit ⟨op, x, a, s, n, neg⟩ := by
  simp only [Bool.and_eq_true, decide_eq_true_eq] at h
  exact ⟨by simp only; omega, by simp only; omega, by simp only; omega, by simp only; omega, by simp only; omega, by simp only; omega, by simp only; omega, by simp only; omega, by simp only; omega⟩
theorem fit_c (k : Int) (s : ByteArray) (n : Int) (h : (decide (-1000 ≤ k) && decide (k ≤ 1000) && decide (-1000 ≤ n) && decide (n ≤ 1000) && decide (s.size ≤ 1000)) = true) : Cel.fit ⟨k, s, n⟩ := by
  simp only [Bool.and_eq_true, decide_eq_true_eq] at h
  exact ⟨by simp only; omega, by simp only; omega, by simp only; omega, by simp only; omega, by simp only; omega⟩
theorem ins_c {w : World} (i : Ins) (h : i.fit) : RepC.C w [.int .i64 i.op, .int .i64 i.x, .int .i64 i.a, .string i.s, .int .i64 i.n, .bool i.neg] i := ⟨rfl, h⟩
theorem cel_c {w : World} (c : Cel) (h : c.fit) : RepC.C w [.int .i64 c.k, .string c.s, .int .i64 c.n] c := ⟨rfl, h⟩
set_option maxRecDepth 100000 in
theorem row_f (w : World) : Row (w.alloc (.cells #[.int .i64 3, .string ⟨#[112]⟩, .int .i64 2, .int .i64 1, .string ⟨#[]⟩, .int .i64 7, .int .i64 3, .string ⟨#[102]⟩, .int .i64 1, .int .i64 1, .string ⟨#[]⟩, .int .i64 7] 79)) (some ⟨w.heap.size, 0, none⟩) 4 fL10 :=
  rowL w _ _ fL10 4 rfl (.cons (cel_c ⟨3, ⟨#[112]⟩, 2⟩ (fit_c _ _ _ (by decide))) (.cons (cel_c ⟨1, ⟨#[]⟩, 7⟩ (fit_c _ _ _ (by decide))) (.cons (cel_c ⟨3, ⟨#[102]⟩, 1⟩ (fit_c _ _ _ (by decide))) (.cons (cel_c ⟨1, ⟨#[]⟩, 7⟩ (fit_c _ _ _ (by decide))) .nil)))) (by omega)
theorem row_q (w : World) : Row (w.alloc (.cells #[.int .i64 3, .string ⟨#[113]⟩, .int .i64 1, .int .i64 3, .string ⟨#[103]⟩, .int .i64 1, .int .i64 2, .string ⟨#[]⟩, .int .i64 1] 79)) (some ⟨w.heap.size, 0, none⟩) 3 qL10 :=
  rowL w _ _ qL10 3 rfl (.cons (cel_c ⟨3, ⟨#[113]⟩, 1⟩ (fit_c _ _ _ (by decide))) (.cons (cel_c ⟨3, ⟨#[103]⟩, 1⟩ (fit_c _ _ _ (by decide))) (.cons (cel_c ⟨2, ⟨#[]⟩, 1⟩ (fit_c _ _ _ (by decide))) .nil))) (by omega)
theorem row_p (w : World) : Row (w.alloc (.cells #[.int .i64 3, .string ⟨#[112]⟩, .int .i64 0] 79)) (some ⟨w.heap.size, 0, none⟩) 1 pL10 :=
  rowL w _ _ pL10 1 rfl (.cons (cel_c ⟨3, ⟨#[112]⟩, 0⟩ (fit_c _ _ _ (by decide))) .nil) (by omega)
theorem row_l (w : World) (g : Nat) (h : Row w (some ⟨g, 0, none⟩) 3 qL10) : Row (w.alloc (.cells #[.bool true, .slice (some ⟨g, 0, none⟩) 3 3] 88)) (some ⟨w.heap.size, 0, none⟩) 1 ([⟨true, qL10⟩] : List Lt) :=
  rowL w _ _ ([⟨true, qL10⟩] : List Lt) 1 rfl (.cons (α := Lt) (cs := [.bool true, .slice (some ⟨g, 0, none⟩) 3 3]) (show RepC.C w [.bool true, .slice (some ⟨g, 0, none⟩) 3 3] (⟨true, qL10⟩ : Lt) from ⟨some ⟨g, 0, none⟩, 3, rfl, h⟩) .nil) (by omega)
theorem row_want (w : World) : Row (w.alloc (.cells #[.int .i64 1, .int .i64 2, .int .i64 0, .string ⟨#[]⟩, .int .i64 0, .bool false, .int .i64 4, .int .i64 0, .int .i64 1, .string ⟨#[102]⟩, .int .i64 1, .bool false, .int .i64 6, .int .i64 2, .int .i64 0, .string ⟨#[]⟩, .int .i64 0, .bool false, .int .i64 13, .int .i64 0, .int .i64 0, .string ⟨#[112]⟩, .int .i64 2, .bool false] 90)) (some ⟨w.heap.size, 0, none⟩) 4 want10 :=
  rowL w _ _ want10 4 rfl (.cons (ins_c ⟨1, 2, 0, ⟨#[]⟩, 0, false⟩ (fit_i _ _ _ _ _ _ (by decide))) (.cons (ins_c ⟨4, 0, 1, ⟨#[102]⟩, 1, false⟩ (fit_i _ _ _ _ _ _ (by decide))) (.cons (ins_c ⟨6, 2, 0, ⟨#[]⟩, 0, false⟩ (fit_i _ _ _ _ _ _ (by decide))) (.cons (ins_c ⟨13, 0, 0, ⟨#[112]⟩, 2, false⟩ (fit_i _ _ _ _ _ _ (by decide))) .nil)))) (by omega)
theorem row_more (w : World) : Row (w.alloc (.cells #[.int .i64 8, .int .i64 0, .int .i64 0, .string ⟨#[103]⟩, .int .i64 1, .bool false, .int .i64 11, .int .i64 0, .int .i64 0, .string ⟨#[]⟩, .int .i64 1, .bool false, .int .i64 8, .int .i64 0, .int .i64 1, .string ⟨#[113]⟩, .int .i64 1, .bool false, .int .i64 10, .int .i64 0, .int .i64 0, .string ⟨#[]⟩, .int .i64 0, .bool false, .int .i64 12, .int .i64 0, .int .i64 1, .string ⟨#[]⟩, .int .i64 0, .bool true, .int .i64 13, .int .i64 0, .int .i64 0, .string ⟨#[112]⟩, .int .i64 0, .bool false] 90)) (some ⟨w.heap.size, 0, none⟩) 6 more10 :=
  rowL w _ _ more10 6 rfl (.cons (ins_c ⟨8, 0, 0, ⟨#[103]⟩, 1, false⟩ (fit_i _ _ _ _ _ _ (by decide))) (.cons (ins_c ⟨11, 0, 0, ⟨#[]⟩, 1, false⟩ (fit_i _ _ _ _ _ _ (by decide))) (.cons (ins_c ⟨8, 0, 1, ⟨#[113]⟩, 1, false⟩ (fit_i _ _ _ _ _ _ (by decide))) (.cons (ins_c ⟨10, 0, 0, ⟨#[]⟩, 0, false⟩ (fit_i _ _ _ _ _ _ (by decide))) (.cons (ins_c ⟨12, 0, 1, ⟨#[]⟩, 0, true⟩ (fit_i _ _ _ _ _ _ (by decide))) (.cons (ins_c ⟨13, 0, 0, ⟨#[112]⟩, 0, false⟩ (fit_i _ _ _ _ _ _ (by decide))) .nil)))))) (by omega)
theorem row_nine (w : World) : Row (w.alloc (.cells #[.int .i64 13, .int .i64 9, .int .i64 0, .string ⟨#[]⟩, .int .i64 0, .bool false] 90)) (some ⟨w.heap.size, 0, none⟩) 1 ([⟨13, 9, 0, ⟨#[]⟩, 0, false⟩] : List Ins) :=
  rowL w _ _ _ 1 rfl (.cons (ins_c ⟨13, 9, 0, ⟨#[]⟩, 0, false⟩ (fit_i _ _ _ _ _ _ (by decide))) .nil) (by omega)
theorem row_less {w : World} {g : Nat} (h : Row w (some ⟨g, 0, none⟩) 4 want10) : Row w (some ⟨g, 6, none⟩) 3 less10 :=
  ⟨by simp [less10], by omega, (fun e => by cases e), fun i x hi => by
    obtain ⟨b, o, e, hE⟩ := h.at_ (i + 1) x hi
    injection e with e
    injection e with e1 e2 e3
    subst e1
    subst e2
    refine ⟨g, 6, rfl, ?_⟩
    have e4 : 6 + i * Rep.sz Ins = 0 + (i + 1) * Rep.sz Ins := by
      show 6 + i * 6 = 0 + (i + 1) * 6
      omega
    rw [e4]
    exact hE⟩
theorem row_nil {α : Type} [Rep α] (w : World) : Row w none 0 ([] : List α) := Row.empty _ _ _ (by omega) (fun _ => rfl)
set_option maxRecDepth 100000 in
set_option maxHeartbeats 12800000 in
theorem head10_any (w : World) : Calls Try.prog 13 #[] w fun e w' => e = .returned (.bool true) ∧ Below w.heap.size w w' := by
  obtain ⟨W, hW⟩ : ∃ W, ((w.alloc (.cells #[.int .i64 3, .string ⟨#[112]⟩, .int .i64 2, .int .i64 1, .string ⟨#[]⟩, .int .i64 7, .int .i64 3, .string ⟨#[102]⟩, .int .i64 1, .int .i64 1, .string ⟨#[]⟩, .int .i64 7] 79)).alloc (.cells #[.int .i64 3, .string ⟨#[113]⟩, .int .i64 1, .int .i64 3, .string ⟨#[103]⟩, .int .i64 1, .int .i64 2, .string ⟨#[]⟩, .int .i64 1] 79)).alloc (.cells #[.int .i64 3, .string ⟨#[112]⟩, .int .i64 0] 79) = W := ⟨_, rfl⟩
  have hb0 : Below w.heap.size w W := by rw [← hW]; exact (((Below.refl w.heap.size w).new _).new _).new _
  have rf : Row W (some ⟨w.heap.size, 0, none⟩) 4 fL10 := by
    rw [← hW]; exact (row_f w).below (((Below.refl _ _).new _).new _)
  have rq : Row W (some ⟨w.heap.size + 1, 0, none⟩) 3 qL10 := by
    rw [← hW]
    have h := (row_q (w.alloc (.cells #[.int .i64 3, .string ⟨#[112]⟩, .int .i64 2, .int .i64 1, .string ⟨#[]⟩, .int .i64 7, .int .i64 3, .string ⟨#[102]⟩, .int .i64 1, .int .i64 1, .string ⟨#[]⟩, .int .i64 7] 79))).below ((Below.refl _ _).new (.cells #[.int .i64 3, .string ⟨#[112]⟩, .int .i64 0] 79))
    rw [World.size_alloc] at h
    exact h
  have rp : Row W (some ⟨w.heap.size + 1 + 1, 0, none⟩) 1 pL10 := by
    rw [← hW]
    have h := row_p ((w.alloc (.cells #[.int .i64 3, .string ⟨#[112]⟩, .int .i64 2, .int .i64 1, .string ⟨#[]⟩, .int .i64 7, .int .i64 3, .string ⟨#[102]⟩, .int .i64 1, .int .i64 1, .string ⟨#[]⟩, .int .i64 7] 79)).alloc (.cells #[.int .i64 3, .string ⟨#[113]⟩, .int .i64 1, .int .i64 3, .string ⟨#[103]⟩, .int .i64 1, .int .i64 2, .string ⟨#[]⟩, .int .i64 1] 79))
    rw [World.size_alloc, World.size_alloc] at h
    exact h
  have HB0 := mkHid hb0
  have HF := mkHid rf
  have HQ := mkHid rq
  have HP := mkHid rp
  clear hb0 rf rq rp
  go_enter Try.func13, Try.ntmps13
  go_wp2_with fail
  first | rw [hW] | skip
  clear hW
  have HT1 := mkHid (compK (some ⟨w.heap.size, 0, none⟩) 4 none 0 W ⟨fL10, []⟩ hp10 [] 4 0 4 want10 clt_p rfl rfl comp_want rfl HF.out (row_nil W))
  refine HT1.out.mono ?_
  clear HT1
  rintro e w1 ⟨a1, c1, rfl, rA, hb1⟩
  have HA := mkHid rA
  have HB1 := mkHid (HB0.out.then hb1)
  have HQ1 := mkHid (HQ.out.below hb1)
  have HP1 := mkHid (HP.out.below hb1)
  clear rA hb1 HQ HP HF
  go_wp2_with fail
  have hbl := (Below.refl w1.heap.size w1).new (.cells #[.bool true, .slice (some ⟨w.heap.size + 1, 0, none⟩) 3 3] 88)
  have HT1 := mkHid (compK (some ⟨w.heap.size + 1 + 1, 0, none⟩) 1 (some ⟨w1.heap.size, 0, none⟩) 1 _ ⟨pL10, [⟨true, qL10⟩]⟩ ho10 [(true, hq10)] 1 1 6 more10 clt_q rfl rfl comp_more rfl (HP1.out.below hbl) (row_l w1 _ HQ1.out))
  refine HT1.out.mono ?_
  clear HT1
  rintro e w2 ⟨a2, c2, rfl, rM, hb2⟩
  have hb2' := hbl.then hb2
  have HM := mkHid rM
  have HB2 := mkHid (HB1.out.then hb2')
  have HA2 := mkHid (HA.out.below hb2')
  clear rM hb2 hbl HQ1 HP1 hb2' HA HB1
  go_wp2_with fail
  have HT1 := mkHid (compileN none 0 none 0 w2 ⟨[], []⟩ 0 0 may_none rfl rfl (row_nil w2) (row_nil w2))
  refine HT1.out.mono ?_
  clear HT1
  rintro e w3 ⟨rfl, hb3⟩
  have HA3 := mkHid (HA2.out.below hb3)
  have HM3 := mkHid (HM.out.below hb3)
  have HB3 := mkHid (HB2.out.then hb3)
  clear hb3 HA2 HM HB2
  go_wp2_with fail
  have hn1 := (Below.refl w3.heap.size w3).new (.cells #[.int .i64 1, .int .i64 2, .int .i64 0, .string ⟨#[]⟩, .int .i64 0, .bool false, .int .i64 4, .int .i64 0, .int .i64 1, .string ⟨#[102]⟩, .int .i64 1, .bool false, .int .i64 6, .int .i64 2, .int .i64 0, .string ⟨#[]⟩, .int .i64 0, .bool false, .int .i64 13, .int .i64 0, .int .i64 0, .string ⟨#[112]⟩, .int .i64 2, .bool false] 90)
  have rw3 := row_want w3
  have rm3 := row_more (w3.alloc (.cells #[.int .i64 1, .int .i64 2, .int .i64 0, .string ⟨#[]⟩, .int .i64 0, .bool false, .int .i64 4, .int .i64 0, .int .i64 1, .string ⟨#[102]⟩, .int .i64 1, .bool false, .int .i64 6, .int .i64 2, .int .i64 0, .string ⟨#[]⟩, .int .i64 0, .bool false, .int .i64 13, .int .i64 0, .int .i64 0, .string ⟨#[112]⟩, .int .i64 2, .bool false] 90))
  rw [World.size_alloc] at rm3
  have hn2 := hn1.new (.cells #[.int .i64 8, .int .i64 0, .int .i64 0, .string ⟨#[103]⟩, .int .i64 1, .bool false, .int .i64 11, .int .i64 0, .int .i64 0, .string ⟨#[]⟩, .int .i64 1, .bool false, .int .i64 8, .int .i64 0, .int .i64 1, .string ⟨#[113]⟩, .int .i64 1, .bool false, .int .i64 10, .int .i64 0, .int .i64 0, .string ⟨#[]⟩, .int .i64 0, .bool false, .int .i64 12, .int .i64 0, .int .i64 1, .string ⟨#[]⟩, .int .i64 0, .bool true, .int .i64 13, .int .i64 0, .int .i64 0, .string ⟨#[112]⟩, .int .i64 0, .bool false] 90)
  have rw4 := rw3.below ((Below.refl _ _).new (.cells #[.int .i64 8, .int .i64 0, .int .i64 0, .string ⟨#[103]⟩, .int .i64 1, .bool false, .int .i64 11, .int .i64 0, .int .i64 0, .string ⟨#[]⟩, .int .i64 1, .bool false, .int .i64 8, .int .i64 0, .int .i64 1, .string ⟨#[113]⟩, .int .i64 1, .bool false, .int .i64 10, .int .i64 0, .int .i64 0, .string ⟨#[]⟩, .int .i64 0, .bool false, .int .i64 12, .int .i64 0, .int .i64 1, .string ⟨#[]⟩, .int .i64 0, .bool true, .int .i64 13, .int .i64 0, .int .i64 0, .string ⟨#[112]⟩, .int .i64 0, .bool false] 90))
  generalize ((w3.alloc (.cells #[.int .i64 1, .int .i64 2, .int .i64 0, .string ⟨#[]⟩, .int .i64 0, .bool false, .int .i64 4, .int .i64 0, .int .i64 1, .string ⟨#[102]⟩, .int .i64 1, .bool false, .int .i64 6, .int .i64 2, .int .i64 0, .string ⟨#[]⟩, .int .i64 0, .bool false, .int .i64 13, .int .i64 0, .int .i64 0, .string ⟨#[112]⟩, .int .i64 2, .bool false] 90)).alloc (.cells #[.int .i64 8, .int .i64 0, .int .i64 0, .string ⟨#[103]⟩, .int .i64 1, .bool false, .int .i64 11, .int .i64 0, .int .i64 0, .string ⟨#[]⟩, .int .i64 1, .bool false, .int .i64 8, .int .i64 0, .int .i64 1, .string ⟨#[113]⟩, .int .i64 1, .bool false, .int .i64 10, .int .i64 0, .int .i64 0, .string ⟨#[]⟩, .int .i64 0, .bool false, .int .i64 12, .int .i64 0, .int .i64 1, .string ⟨#[]⟩, .int .i64 0, .bool true, .int .i64 13, .int .i64 0, .int .i64 0, .string ⟨#[112]⟩, .int .i64 0, .bool false] 90)) = w4 at rw4 rm3 hn2 ⊢
  have HW4 := mkHid rw4
  have HM4 := mkHid rm3
  have HA4 := mkHid (HA3.out.below hn2)
  have HMM := mkHid (HM3.out.below hn2)
  have HB4 := mkHid (HB3.out.then hn2)
  clear rw3 rw4 rm3 hn1 hn2 HA3 HM3 HB3
  generalize w3.heap.size = g3 at HW4 HM4 ⊢
  refine (srcK_want _ _ _ HW4.out).mono ?_
  rintro e w5 ⟨a5, c5, a6, c6, rfl, rS, hb5⟩
  have HS := mkHid rS
  have HW5 := mkHid (HW4.out.below hb5)
  have HM5 := mkHid (HM4.out.below hb5)
  have HA5 := mkHid (HA4.out.below hb5)
  have HMM5 := mkHid (HMM.out.below hb5)
  have HB5 := mkHid (HB4.out.then hb5)
  clear rS hb5 HW4 HM4 HA4 HMM HB4
  go_wp2_with fail
  have hn5 := (Below.refl w5.heap.size w5).new (.cells #[.slice a5 4 c5, .slice a6 0 c6] 25)
  have b0 : (w5.alloc (.cells #[.slice a5 4 c5, .slice a6 0 c6] 25)).cell? ⟨w5.heap.size, 0, none⟩ = some (.slice a5 4 c5) := World.cell?_alloc_at _ _ w5.heap.size 0 rfl
  refine (srcK_less _ _ _ (row_less (HW5.out.below hn5))).mono ?_
  rintro e w6 ⟨rfl, hb6⟩
  have hb7 := (hn5.then hb6).then ((Below.refl w6.heap.size w6).new (.cells #[.slice none 0 0, .slice none 0 0] 25))
  have b1 := keep (keep b0 hb6) ((Below.refl w6.heap.size w6).new (.cells #[.slice none 0 0, .slice none 0 0] 25))
  have HW7 := mkHid (HW5.out.below hb7)
  have HM7 := mkHid (HM5.out.below hb7)
  have HA7 := mkHid (HA5.out.below hb7)
  have HMM7 := mkHid (HMM5.out.below hb7)
  have HB7 := mkHid (HB5.out.then hb7)
  have HS7 := mkHid (HS.out.below hb7)
  clear b0 hb6 hb7 hn5 HW5 HM5 HA5 HMM5 HB5 HS
  go_wp2_with fail
  generalize (w6.alloc (.cells #[.slice none 0 0, .slice none 0 0] 25)) = w7 at *
  refine (sameIK _ _ _ _ _ want10 want10 4 4 true rfl rfl (by simp) HA7.out HW7.out).mono ?_
  rintro e w8 ⟨rfl, hb8⟩
  have b2 := keep b1 hb8
  have HW8 := mkHid (HW7.out.below hb8)
  have HM8 := mkHid (HM7.out.below hb8)
  have HMM8 := mkHid (HMM7.out.below hb8)
  have HB8 := mkHid (HB7.out.then hb8)
  have HS8 := mkHid (HS7.out.below hb8)
  clear b1 hb8 HW7 HM7 HA7 HMM7 HB7 HS7
  go_wp2_with fail
  refine (sameIK _ _ _ _ _ more10 more10 6 6 true rfl rfl (by simp) HMM8.out HM8.out).mono ?_
  rintro e w9 ⟨rfl, hb9⟩
  have b3 := keep b2 hb9
  have HW9 := mkHid (HW8.out.below hb9)
  have HM9 := mkHid (HM8.out.below hb9)
  have HB9 := mkHid (HB8.out.then hb9)
  have hs9 := HS8.out.below hb9
  clear b2 hb9 HW8 HM8 HMM8 HB8 HS8
  obtain ⟨g5, o5, rfl, _, hat⟩ := hs9.cases.resolve_left (fun e => by cases e)
  have hc9 := cel_at hat (Below.refl _ _) (k := 3) (by decide)
  have s2 : w9.cell? ⟨g5, o5 + 9 + 2, none⟩ = some (.int .i64 0) := hc9.c2
  have hsl := hs9.le
  have hsm := hs9.max
  clear hs9 hat hc9
  go_wp2_with fail
  refine (regsK _ _ _ want10 4 3 rfl regs_want fit_want HW9.out).mono ?_
  rintro e w10 ⟨rfl, hb10⟩
  have HM10 := mkHid (HM9.out.below hb10)
  have HB10 := mkHid (HB9.out.then hb10)
  clear hb10 HW9 HM9 HB9 s2 b3
  go_wp2_with fail
  refine (regsK _ _ _ more10 6 2 rfl regs_more fit_more HM10.out).mono ?_
  rintro e w11 ⟨rfl, hb11⟩
  have HB11 := mkHid (HB10.out.then hb11)
  clear hb11 HM10 HB10
  go_wp2_with fail
  refine (regsK _ _ _ [] 0 0 rfl (by rfl) (fun i h => by cases h) (row_nil _)).mono ?_
  rintro e w12 ⟨rfl, hb12⟩
  have HB12 := mkHid (HB11.out.then hb12)
  clear hb12 HB11
  go_wp2_with fail
  have hn12 := (Below.refl w12.heap.size w12).new (.cells #[.int .i64 13, .int .i64 9, .int .i64 0, .string ⟨#[]⟩, .int .i64 0, .bool false] 90)
  refine (regsK _ _ _ [⟨13, 9, 0, ⟨#[]⟩, 0, false⟩] 1 0 rfl (by decide +kernel) (fun i h => by rw [List.mem_singleton] at h; subst h; exact ⟨by decide, by decide⟩) (row_nine w12)).mono ?_
  rintro e w13 ⟨rfl, hb13⟩
  have HB13 := mkHid ((HB12.out.then hn12).then hb13)
  clear hn12 hb13 HB12
  go_wp2_with fail
  go_ret
  exact ⟨rfl, HB13.out⟩
end Go.Proofs.Ytmmnfkggfnokjaa
set_option linter.unusedVariables false
namespace Go.Proofs.Ytmmnfkggfnokjaa
open Go.RowKit
theorem all_any10 {α : Type} {xs : List α} {f : α → Bool} (h : xs.all (fun x => !f x) = true) : xs.any f = false := by
  rw [List.any_eq_false]
  intro x hx
  have := List.all_eq_true.1 h x hx
  simpa using this
/-! ### Great -/
def greatC10 (c : Cl) : Bool := decide (300 < c.h.length) || decide (10 < c.b.length) || c.b.any fun x => decide (300 < x.t.length)
theorem great_eq10 (l : List Cl) : greatB l = (decide (70 < l.length) || l.any greatC10) := rfl
theorem great_hit10 {l : List Cl} {k : Nat} (hk : k < l.length) (h : greatC10 l[k] = true) : greatB l = true := by
  rw [great_eq10, List.any_eq_true.2 ⟨l[k], List.getElem_mem hk, h⟩]; simp
set_option maxHeartbeats 1600000 in
theorem great10c_any (a : Option Addr) (cap : Nat) (w : World) (l : List Cl) (hr : Row w a cap l) :
    Calls Try.prog 14 #[.slice a l.length cap] w fun e w' => e = .returned (.bool (greatB l)) ∧ w = w' := by
  have hm := hr.max
  have hm2 := hr.le
  by_cases h70 : l.length ≤ 70
  · go_enter Try.func14, Try.ntmps14
    go_wp2
    go_loop [3, 4] (fun i _ => ∃ k : Nat, k ≤ l.length ∧ i = .int .i64 k ∧ Hid ((l.take k).all (fun c => !greatC10 c) = true)) (fun i _ => l.length - (intOf i).toNat)
    case atStart => exact ⟨0, Nat.zero_le _, rfl, rfl⟩
    case round =>
      obtain ⟨k, hk, rfl, HS⟩ := hrel
      by_cases hlt : k < l.length
      · obtain ⟨b, off, rfl, hb, hat⟩ := hr.cases.resolve_left (fun e => by simp [e] at hlt)
        obtain ⟨a1, cap1, a2, cap2, c0, c1, hr1, hr2⟩ := cl_at hat (Below.refl _ _) hlt
        have x1 := hr1.max
        have x2 := hr1.le
        have x3 := hr2.max
        have x4 := hr2.le
        by_cases h3 : 300 < l[k].h.length
        · have HT : Hid (greatB l = true) := great_hit10 hlt (by simp [greatC10, h3])
          clear HS
          go_wp2
          go_ret
          exact ⟨ret_bool HT.out.symm, rfl⟩
        · by_cases h10 : 10 < l[k].b.length
          · have HT : Hid (greatB l = true) := great_hit10 hlt (by simp [greatC10, h10])
            clear HS
            go_wp2
            go_ret
            exact ⟨ret_bool HT.out.symm, rfl⟩
          · go_wp2
            go_loop [4] (fun i => ∃ j : Nat, j ≤ l[k].b.length ∧ i = .int .i64 j ∧ Hid ((l[k].b.take j).all (fun x => !decide (300 < x.t.length)) = true)) (fun i => l[k].b.length - (intOf i).toNat)
            case atStart => exact ⟨0, Nat.zero_le _, rfl, rfl⟩
            case round =>
              obtain ⟨j, hj, rfl, HJ⟩ := hrel
              by_cases hjl : j < l[k].b.length
              · obtain ⟨b2, off2, rfl, hb2, hat2⟩ := hr2.cases.resolve_left (fun e => by simp [e] at hjl)
                obtain ⟨a4, cap4, d0, d1, hr4⟩ := lt_at hat2 (Below.refl _ _) hjl
                have y1 := hr4.max
                have y2 := hr4.le
                by_cases h5 : 300 < l[k].b[j].t.length
                · have HT : Hid (greatB l = true) := great_hit10 hlt (by
                    unfold greatC10
                    rw [List.any_eq_true.2 ⟨l[k].b[j], List.getElem_mem hjl, by simpa using h5⟩]; simp)
                  clear HS HJ
                  go_wp2
                  go_ret
                  exact ⟨ret_bool HT.out.symm, rfl⟩
                · have HJ2 := mkHid (scan_next (p := fun x : Lt => !decide (300 < x.t.length)) HJ.out hjl (by simpa using h5))
                  clear HJ
                  go_wp2
                  go_round
                  case rel => exact ⟨j + 1, by omega, by go_num, HJ2⟩
                  case measure => simp [intOf]; omega
              · have HT := mkHid (scan_next (p := fun c => !greatC10 c) HS.out hlt (by
                  have := all_any10 (scan_end HJ.out (by omega))
                  unfold greatC10; rw [this]; simp; omega))
                clear HS HJ
                go_wp2
                go_round
                case rel => exact ⟨k + 1, by omega, by go_num, HT⟩
                case measure => simp [intOf]; omega
      · have HT : Hid (greatB l = false) := by
          rw [Hid, great_eq10, all_any10 (scan_end HS.out (by omega))]; simp; omega
        clear HS
        go_wp2
        go_ret
        exact ⟨ret_bool HT.out.symm, rfl⟩
  · have HT : Hid (greatB l = true) := by rw [Hid, great_eq10]; simp; omega
    go_enter Try.func14, Try.ntmps14
    go_wp2
    go_ret
    exact ⟨ret_bool HT.out.symm, rfl⟩
end Go.Proofs.Ytmmnfkggfnokjaa
set_option linter.unusedVariables false
namespace Go.Proofs.Ytmmnfkggfnokjaa
open Go.RowKit
/-! ### contracts at known answers, for the laws -/
theorem great7K (a : Option Addr) (cap : Nat) (w : World) (l : List Cl) (n : Nat) (r : Bool) (hr : Row w a cap l) (hn : l.length = n) (hrr : greatB l = r) :
    Calls Try.prog 14 #[.slice a n cap] w fun e w' => e = .returned (.bool r) ∧ Below w.heap.size w w' := by
  subst hn; subst hrr
  refine (great10c_any a cap w l hr).mono ?_
  rintro e w' ⟨rfl, rfl⟩
  exact ⟨rfl, Below.refl _ _⟩
theorem row_cl {w : World} {a a' : Option Addr} {c c' : Nat} (x : Cl) (h : Row w a c x.h) (h' : Row w a' c' x.b) : Row (w.alloc (.cells #[.slice a x.h.length c, .slice a' x.b.length c'] 25)) (some ⟨w.heap.size, 0, none⟩) 1 [x] :=
  rowL w _ _ [x] 1 rfl (.cons (cs := [.slice a x.h.length c, .slice a' x.b.length c']) ⟨a, c, a', c', rfl, h, h'⟩ .nil) (by omega)
/-- a clause's code with what is known of its length -/
theorem compQ (a : Option Addr) (cap : Nat) (a' : Option Addr) (cap' : Nat) (w : World) (x : Cl) (h : Tm) (bl : List (Bool × Tm)) (hT : ClT x h bl) (hr : Row w a cap x.h) (hr' : Row w a' cap' x.b) :
    Calls Try.prog 16 #[.agg #[.slice a x.h.length cap, .slice a' x.b.length cap']] w fun e w' => ∃ (a2 : Option Addr) (c2 : Nat) (L : List Ins), e = .returned (.tuple #[.slice a2 L.length c2, .int .i64 0]) ∧ Row w' a2 c2 L ∧ L = compS h bl ∧ Below w.heap.size w w' := by
  refine (compileY a cap a' cap' w x h bl _ _ hT rfl rfl hr hr').mono ?_
  rintro e w' ⟨a2, c2, rfl, hr, hb⟩
  exact ⟨a2, c2, _, rfl, hr.row, rfl, hb⟩
end Go.Proofs.Ytmmnfkggfnokjaa
set_option linter.unusedVariables false
namespace Go.Proofs.Ytmmnfkggfnokjaa
open Go.RowKit
/-! ### the document's Regs -/
set_option maxHeartbeats 3200000 in
theorem uses_any (w : World) (op : Int) : Calls Try.prog 73 #[.int .i64 op] w fun e w' => e = .returned (.tuple #[.bool (op == 1 || op == 2 || op == 5 || op == 6 || op == 9 || op == 10), .bool (op == 1 || op == 2 || op == 3 || op == 4 || op == 8 || op == 12)]) ∧ w' = w := by
  by_cases h1 : op = 1
  · subst h1
    go_enter Try.func73, Try.ntmps73
    go_wp2_with fail
    refine bodyPost_ret (v := .tuple #[.bool true, .bool true]) (by simp [results, Try.results73, go_sem, *]) rfl ⟨rfl, rfl⟩
  · have t1 : (op == 1) = false := by simp [h1]
    by_cases h2 : op = 2
    · subst h2
      go_enter Try.func73, Try.ntmps73
      go_wp2_with fail
      refine bodyPost_ret (v := .tuple #[.bool true, .bool true]) (by simp [results, Try.results73, go_sem, *]) rfl ⟨rfl, rfl⟩
    · have t2 : (op == 2) = false := by simp [h2]
      by_cases h5 : op = 5
      · subst h5
        go_enter Try.func73, Try.ntmps73
        go_wp2_with fail
        refine bodyPost_ret (v := .tuple #[.bool true, .bool false]) (by simp [results, Try.results73, go_sem, *]) rfl ⟨rfl, rfl⟩
      · have t5 : (op == 5) = false := by simp [h5]
        by_cases h6 : op = 6
        · subst h6
          go_enter Try.func73, Try.ntmps73
          go_wp2_with fail
          refine bodyPost_ret (v := .tuple #[.bool true, .bool false]) (by simp [results, Try.results73, go_sem, *]) rfl ⟨rfl, rfl⟩
        · have t6 : (op == 6) = false := by simp [h6]
          by_cases h9 : op = 9
          · subst h9
            go_enter Try.func73, Try.ntmps73
            go_wp2_with fail
            refine bodyPost_ret (v := .tuple #[.bool true, .bool false]) (by simp [results, Try.results73, go_sem, *]) rfl ⟨rfl, rfl⟩
          · have t9 : (op == 9) = false := by simp [h9]
            by_cases h10 : op = 10
            · subst h10
              go_enter Try.func73, Try.ntmps73
              go_wp2_with fail
              refine bodyPost_ret (v := .tuple #[.bool true, .bool false]) (by simp [results, Try.results73, go_sem, *]) rfl ⟨rfl, rfl⟩
            · have t10 : (op == 10) = false := by simp [h10]
              by_cases h3 : op = 3
              · subst h3
                go_enter Try.func73, Try.ntmps73
                go_wp2_with fail
                refine bodyPost_ret (v := .tuple #[.bool false, .bool true]) (by simp [results, Try.results73, go_sem, *]) rfl ⟨rfl, rfl⟩
              · have t3 : (op == 3) = false := by simp [h3]
                by_cases h4 : op = 4
                · subst h4
                  go_enter Try.func73, Try.ntmps73
                  go_wp2_with fail
                  refine bodyPost_ret (v := .tuple #[.bool false, .bool true]) (by simp [results, Try.results73, go_sem, *]) rfl ⟨rfl, rfl⟩
                · have t4 : (op == 4) = false := by simp [h4]
                  by_cases h8 : op = 8
                  · subst h8
                    go_enter Try.func73, Try.ntmps73
                    go_wp2_with fail
                    refine bodyPost_ret (v := .tuple #[.bool false, .bool true]) (by simp [results, Try.results73, go_sem, *]) rfl ⟨rfl, rfl⟩
                  · have t8 : (op == 8) = false := by simp [h8]
                    by_cases h12 : op = 12
                    · subst h12
                      go_enter Try.func73, Try.ntmps73
                      go_wp2_with fail
                      refine bodyPost_ret (v := .tuple #[.bool false, .bool true]) (by simp [results, Try.results73, go_sem, *]) rfl ⟨rfl, rfl⟩
                    · have t12 : (op == 12) = false := by simp [h12]
                      rw [t1, t2, t5, t6, t9, t10, t3, t4, t8, t12]
                      go_enter Try.func73, Try.ntmps73
                      go_wp2_with fail
                      refine bodyPost_ret (v := .tuple #[.bool false, .bool false]) (by simp [results, Try.results73, go_sem, *]) rfl ⟨rfl, rfl⟩
set_option maxRecDepth 100000 in
set_option maxHeartbeats 6400000 in
theorem refregs_any (a : Option Addr) (cap : Nat) (w : World) (xs : List Ins) (hx : Row w a cap xs) (hb : ∀ i ∈ xs, i.x < 9223372036854775807 ∧ i.a < 9223372036854775807) :
    Calls Try.prog 20 #[.slice a xs.length cap] w fun e w' => e = .returned (.int .i64 (regsL xs)) ∧ Below w.heap.size w w' := by
  have hm := hx.max
  have hm2 := hx.le
  have HBB := mkHid hb
  clear hb
  go_enter Try.func20, Try.ntmps20
  go_wp2_with fail
  go_loop [3, 4] (fun m i => ∃ (k : Nat) (n : Int), k ≤ xs.length ∧ i = .int .i64 k ∧ m = .int .i64 n ∧ Hid (regsL (xs.take k) = n)) (fun _ i => xs.length - (intOf i).toNat)
  case atStart => exact ⟨0, 0, Nat.zero_le _, rfl, rfl, rfl⟩
  case round =>
    obtain ⟨k, m, hk, rfl, rfl, HS⟩ := hrel
    by_cases hlt : k < xs.length
    · obtain ⟨b, off, rfl, hb, hat⟩ := hx.cases.resolve_left (fun e => by simp [e] at hlt)
      obtain ⟨c0, c1, c2, c3, c4, c5, hfx⟩ := ins_at hat (Below.refl _ _) hlt
      have hbb := HBB.out xs[k] (List.getElem_mem hlt)
      have hnx := regsL_next hlt
      rw [HS.out] at hnx
      have HNX := mkHid hnx
      obtain ⟨x, hxx⟩ : ∃ x, xs[k] = x := ⟨_, rfl⟩
      rw [hxx] at c0 c1 c2 c3 c4 c5 hfx hbb HNX
      clear hxx hnx c3 c4 c5 HS hat
      obtain ⟨o1, o2, x1, x2, a1, a2, _, _, _⟩ := hfx
      obtain ⟨hb1, hb2⟩ := hbb
      have E1 : Hid ((x.op == 1 || x.op == 2 || x.op == 5 || x.op == 6 || x.op == 9 || x.op == 10) = inX x) := rfl
      have E2 : Hid ((x.op == 1 || x.op == 2 || x.op == 3 || x.op == 4 || x.op == 8 || x.op == 12) = inA x) := rfl
      go_wp2_with fail
      refine (uses_any _ x.op).mono ?_
      rintro e w5 ⟨rfl, rfl⟩
      rw [E1.out, E2.out]
      cases hX : inX x with
      | true =>
        by_cases hm1 : m ≤ x.x
        · cases hA : inA x with
          | true =>
            by_cases hm3 : x.x + 1 ≤ x.a
            · go_wp2_with fail
              go_round
              case rel => exact ⟨k + 1, _, by omega, by go_num, rfl, by rw [Hid, HNX.out]; unfold regs1; simp only [hX, hA, if_true, Bool.false_eq_true, if_false]; try omega⟩
              case measure => simp [intOf]; omega
            · go_wp2_with fail
              go_round
              case rel => exact ⟨k + 1, _, by omega, by go_num, rfl, by rw [Hid, HNX.out]; unfold regs1; simp only [hX, hA, if_true, Bool.false_eq_true, if_false]; try omega⟩
              case measure => simp [intOf]; omega
          | false =>
            go_wp2_with fail
            go_round
            case rel => exact ⟨k + 1, _, by omega, by go_num, rfl, by rw [Hid, HNX.out]; unfold regs1; simp only [hX, hA, if_true, Bool.false_eq_true, if_false]; try omega⟩
            case measure => simp [intOf]; omega
        · cases hA : inA x with
          | true =>
            by_cases hm3 : m ≤ x.a
            · go_wp2_with fail
              go_round
              case rel => exact ⟨k + 1, _, by omega, by go_num, rfl, by rw [Hid, HNX.out]; unfold regs1; simp only [hX, hA, if_true, Bool.false_eq_true, if_false]; try omega⟩
              case measure => simp [intOf]; omega
            · go_wp2_with fail
              go_round
              case rel => exact ⟨k + 1, _, by omega, by go_num, rfl, by rw [Hid, HNX.out]; unfold regs1; simp only [hX, hA, if_true, Bool.false_eq_true, if_false]; try omega⟩
              case measure => simp [intOf]; omega
          | false =>
            go_wp2_with fail
            go_round
            case rel => exact ⟨k + 1, _, by omega, by go_num, rfl, by rw [Hid, HNX.out]; unfold regs1; simp only [hX, hA, if_true, Bool.false_eq_true, if_false]; try omega⟩
            case measure => simp [intOf]; omega
      | false =>
        cases hA : inA x with
        | true =>
          by_cases hm3 : m ≤ x.a
          · go_wp2_with fail
            go_round
            case rel => exact ⟨k + 1, _, by omega, by go_num, rfl, by rw [Hid, HNX.out]; unfold regs1; simp only [hX, hA, if_true, Bool.false_eq_true, if_false]; try omega⟩
            case measure => simp [intOf]; omega
          · go_wp2_with fail
            go_round
            case rel => exact ⟨k + 1, _, by omega, by go_num, rfl, by rw [Hid, HNX.out]; unfold regs1; simp only [hX, hA, if_true, Bool.false_eq_true, if_false]; try omega⟩
            case measure => simp [intOf]; omega
        | false =>
          go_wp2_with fail
          go_round
          case rel => exact ⟨k + 1, _, by omega, by go_num, rfl, by rw [Hid, HNX.out]; unfold regs1; simp only [hX, hA, if_true, Bool.false_eq_true, if_false]; try omega⟩
          case measure => simp [intOf]; omega
    · have HT : Hid (m = regsL xs) := by rw [Hid, ← HS.out, List.take_of_length_le (by omega)]
      clear HS
      go_wp2_with fail
      go_ret
      exact ⟨by rw [HT.out]; rfl, Below.refl _ _⟩
end Go.Proofs.Ytmmnfkggfnokjaa
set_option linter.unusedVariables false
namespace Go.Proofs.Ytmmnfkggfnokjaa
open Go.RowKit
/-! ### the law's great -/
def bad10 (i : Ins) : Bool := decide (i.x < 0) || decide (i.a < 0) || decide (1000000 < i.x) || decide (1000000 < i.a)
def greatI (l : List Ins) : Bool := decide (3000 < l.length) || l.any bad10
theorem greatI_hit {l : List Ins} {k : Nat} (hk : k < l.length) (h : bad10 l[k] = true) : greatI l = true := by
  unfold greatI
  rw [List.any_eq_true.2 ⟨l[k], List.getElem_mem hk, h⟩]; simp
theorem greatI_no {l : List Ins} (h : greatI l = false) : l.length ≤ 3000 ∧ ∀ i ∈ l, 0 ≤ i.x ∧ 0 ≤ i.a ∧ i.x ≤ 1000000 ∧ i.a ≤ 1000000 := by
  unfold greatI at h
  rw [Bool.or_eq_false_iff] at h
  refine ⟨by simpa using h.1, fun i hi => ?_⟩
  have h2 := List.any_eq_false.1 h.2 i hi
  simp [bad10] at h2
  omega
set_option maxRecDepth 100000 in
set_option maxHeartbeats 3200000 in
theorem greati_any (a : Option Addr) (cap : Nat) (w : World) (l : List Ins) (hr : Row w a cap l) :
    Calls Try.prog 15 #[.slice a l.length cap] w fun e w' => e = .returned (.bool (greatI l)) ∧ w = w' := by
  have hm := hr.max
  have hm2 := hr.le
  by_cases h70 : l.length ≤ 3000
  · go_enter Try.func15, Try.ntmps15
    go_wp2
    go_loop [3] (fun i => ∃ k : Nat, k ≤ l.length ∧ i = .int .i64 k ∧ Hid ((l.take k).all (fun c => !bad10 c) = true)) (fun i => l.length - (intOf i).toNat)
    case atStart => exact ⟨0, Nat.zero_le _, rfl, rfl⟩
    case round =>
      obtain ⟨k, hk, rfl, HS⟩ := hrel
      by_cases hlt : k < l.length
      · obtain ⟨b, off, rfl, hb, hat⟩ := hr.cases.resolve_left (fun e => by simp [e] at hlt)
        obtain ⟨c0, c1, c2, c3, c4, c5, hf⟩ := ins_at hat (Below.refl _ _) hlt
        clear c0 c3 c4 c5
        have q1 := hf.x1
        have q2 := hf.x2
        have q3 := hf.a1
        have q4 := hf.a2
        by_cases h1 : l[k].x < 0
        · have HT : Hid (greatI l = true) := greatI_hit hlt (by simp [bad10, h1])
          clear HS
          go_wp2
          go_ret
          exact ⟨ret_bool HT.out.symm, rfl⟩
        · by_cases h2 : l[k].a < 0
          · have HT : Hid (greatI l = true) := greatI_hit hlt (by simp [bad10, h2])
            clear HS
            go_wp2
            go_ret
            exact ⟨ret_bool HT.out.symm, rfl⟩
          · by_cases h3 : 1000000 < l[k].x
            · have HT : Hid (greatI l = true) := greatI_hit hlt (by simp [bad10, h3])
              clear HS
              go_wp2
              go_ret
              exact ⟨ret_bool HT.out.symm, rfl⟩
            · by_cases h4 : 1000000 < l[k].a
              · have HT : Hid (greatI l = true) := greatI_hit hlt (by simp [bad10, h4])
                clear HS
                go_wp2
                go_ret
                exact ⟨ret_bool HT.out.symm, rfl⟩
              · have HT := mkHid (scan_next (p := fun c => !bad10 c) HS.out hlt (by simp [bad10]; omega))
                clear HS
                go_wp2
                go_round
                case rel => exact ⟨k + 1, by omega, by go_num, HT⟩
                case measure => simp [intOf]; omega
      · have HT : Hid (greatI l = false) := by
          rw [Hid, greatI, all_any10 (scan_end HS.out (by omega))]; simp; omega
        clear HS
        go_wp2
        go_ret
        exact ⟨ret_bool HT.out.symm, rfl⟩
  · have HT : Hid (greatI l = true) := by rw [Hid, greatI]; simp; omega
    go_enter Try.func15, Try.ntmps15
    go_wp2
    go_ret
    exact ⟨ret_bool HT.out.symm, rfl⟩
end Go.Proofs.Ytmmnfkggfnokjaa
set_option linter.unusedVariables false
namespace Go.Proofs.Ytmmnfkggfnokjaa
open Go.RowKit
/-! ### a clause's code, the document's and the program's -/
theorem comp_both (x : Cl) : ∃ (L : List Ins) (E : Int), (∀ i ∈ L, i.x < 9223372036854775807 ∧ i.a < 9223372036854775807) ∧
    (∀ (a : Option Addr) (cap : Nat) (a' : Option Addr) (cap' : Nat) (w : World), Row w a cap x.h → Row w a' cap' x.b → Calls Try.prog 16 #[.agg #[.slice a x.h.length cap, .slice a' x.b.length cap']] w fun e w' => ∃ a2 c2, e = .returned (.tuple #[.slice a2 L.length c2, .int .i64 E]) ∧ Row w' a2 c2 L ∧ Below w.heap.size w w') ∧
    (∀ (a : Option Addr) (cap : Nat) (a' : Option Addr) (cap' : Nat) (w : World), Row w a cap x.h → Row w a' cap' x.b → Calls Try.prog 17 #[.agg #[.slice a x.h.length cap, .slice a' x.b.length cap']] w fun e w' => ∃ a2 c2, e = .returned (.tuple #[.slice a2 L.length c2, .int .i64 E]) ∧ Row w' a2 c2 L ∧ Below w.heap.size w w') := by
  obtain ⟨xh, xb⟩ := x
  cases hM : mayB ⟨xh, xb⟩ with
  | false =>
    refine ⟨[], 1, fun i hi => (by cases hi), fun a cap a' cap' w hr hr' => ?_, fun a cap a' cap' w hr hr' => ?_⟩
    · refine (compile_no a cap a' cap' w xh xb hr hr' hM).mono ?_
      rintro e w' ⟨rfl, hb⟩
      exact ⟨none, 0, rfl, Row.empty _ _ _ (by omega) (fun _ => rfl), hb⟩
    · refine (refcomp_no a cap a' cap' w xh xb hr hr' hM).mono ?_
      rintro e w' ⟨rfl, hb⟩
      exact ⟨none, 0, rfl, Row.empty _ _ _ (by omega) (fun _ => rfl), hb⟩
  | true =>
    obtain ⟨h, bl, hT⟩ := may_trees hM
    have hs := comp_shorts hT
    obtain ⟨K, hK1, hK2, hK3⟩ := compS_regs h bl hT.kinds (ok_aris h hT.ok) hT.h3 fun p hp => (hT.litk p hp).1
    have hz := compS_zero (h := h) (bl := bl)
    have hle := onceGo_le _ _ K hK2
    have hhn : h.hd.n ≤ 6 := by
      have h1 := (ok_iff h |>.1 hT.ok).1
      unfold cellOk at h1
      rw [hT.h3] at h1
      simp at h1
      omega
    have hup := (once_facts _ _ _ hK2).2.1
    have hbo : ∀ i ∈ compS h bl, i.x < 9223372036854775807 ∧ i.a < 9223372036854775807 := fun i hi => by
      have h1 := hup i hi
      have h2 := hz i hi
      constructor
      · cases e : inX i
        · rw [h2.1 e]; omega
        · have := h1.1 e; omega
      · cases e : inA i
        · rw [h2.2 e]; omega
        · have := h1.2 e; omega
    refine ⟨compS h bl, 0, hbo, fun a cap a' cap' w hr hr' => ?_, fun a cap a' cap' w hr hr' => ?_⟩
    · refine (compQ a cap a' cap' w _ h bl hT hr hr').mono ?_
      rintro e w' ⟨a2, c2, L, rfl, hr2, rfl, hb⟩
      exact ⟨a2, c2, rfl, hr2, hb⟩
    · exact refcomp_yes a cap a' cap' w _ h bl hT hM hr hr'
end Go.Proofs.Ytmmnfkggfnokjaa
set_option linter.unusedVariables false
namespace Go.Proofs.Ytmmnfkggfnokjaa
open Go.RowKit
/-! ### Tells -/
theorem refregsK (a : Option Addr) (cap : Nat) (w : World) (xs : List Ins) (n : Nat) (r : Int) (hn : xs.length = n) (hrr : regsL xs = r) (hb : ∀ i ∈ xs, i.x < 9223372036854775807 ∧ i.a < 9223372036854775807) (hx : Row w a cap xs) :
    Calls Try.prog 20 #[.slice a n cap] w fun e w' => e = .returned (.int .i64 r) ∧ Below w.heap.size w w' := by
  subst hn; subst hrr
  exact refregs_any a cap w xs hx hb
set_option maxRecDepth 100000 in
set_option maxHeartbeats 6400000 in
theorem lawTells_any (W : World) (x : Cl) (a : Option Addr) (b : Nat) (e : Option Addr) (c : Nat) (hu : Row W a b x.h) (hv : Row W e c x.b) (li : List Ins) (ai : Option Addr) (ci : Nat) (hI : Row W ai ci li) :
    Calls Try.prog 3 #[.agg #[.slice a x.h.length b, .slice e x.b.length c], .slice ai li.length ci] W fun r W' => r = .returned (.bool true) ∧ Below W.heap.size W W' := by
  have hb0 := (Below.refl W.heap.size W).new (.cells #[.slice a x.h.length b, .slice e x.b.length c] 25)
  have hm1 := hI.max
  have hm2 := hI.le
  have p0 : (W.alloc (.cells #[.slice a x.h.length b, .slice e x.b.length c] 25)).cell? ⟨W.heap.size, 0, none⟩ = some (.slice a x.h.length b) := World.cell?_alloc_at _ _ W.heap.size 0 rfl
  have p1 : (W.alloc (.cells #[.slice a x.h.length b, .slice e x.b.length c] 25)).cell? ⟨W.heap.size, 1, none⟩ = some (.slice e x.b.length c) := World.cell?_alloc_at _ _ W.heap.size 1 rfl
  have HX := mkHid (hu.below hb0)
  have HY := mkHid (hv.below hb0)
  have HI := mkHid (hI.below hb0)
  have HB := mkHid hb0
  obtain ⟨L, E, hbd, hC, hR⟩ := comp_both x
  have HBD := mkHid hbd
  have HC := mkHid hC
  have HR := mkHid hR
  obtain ⟨W0, hW⟩ : ∃ W0, W.alloc (.cells #[.slice a x.h.length b, .slice e x.b.length c] 25) = W0 := ⟨_, rfl⟩
  rw [hW] at p0 p1 HX HY HI HB
  clear hu hv hI hb0 hbd hC hR
  go_enter Try.func3, Try.ntmps3
  go_wp2_with fail
  first | rw [hW] | skip
  clear hW
  refine (head10_any _).mono ?_
  rintro r w1 ⟨rfl, hb1⟩
  have q0 := keep p0 hb1
  have q1 := keep p1 hb1
  replace HX := mkHid (HX.out.below hb1)
  replace HY := mkHid (HY.out.below hb1)
  replace HI := mkHid (HI.out.below hb1)
  replace HB := mkHid (HB.out.then hb1)
  clear hb1 p0 p1
  go_wp2_with fail
  have hn1 := (Below.refl w1.heap.size w1).new (.cells #[.slice a x.h.length b, .slice e x.b.length c] 25)
  refine (great7K _ _ _ [x] 1 _ (row_cl x HX.out HY.out) rfl rfl).mono ?_
  rintro r w2 ⟨rfl, hb2⟩
  have hb2' := hn1.then hb2
  have r0 := keep q0 hb2'
  have r1 := keep q1 hb2'
  replace HX := mkHid (HX.out.below hb2')
  replace HY := mkHid (HY.out.below hb2')
  replace HI := mkHid (HI.out.below hb2')
  replace HB := mkHid (HB.out.then hb2')
  clear hb2 hn1 hb2' q0 q1
  cases hG : greatB [x] with
  | true =>
    go_wp2_with fail
    go_ret
    exact ⟨rfl, HB.out⟩
  | false =>
    go_wp2_with fail
    refine (greati_any ai ci _ li HI.out).mono ?_
    rintro r w3 ⟨rfl, rfl⟩
    cases hGI : greatI li with
    | true =>
      go_wp2_with fail
      go_ret
      exact ⟨rfl, HB.out⟩
    | false =>
      have HLI : Hid (∀ i ∈ li, i.x < 9223372036854775807 ∧ i.a < 9223372036854775807) := fun i hi => by
        have := (greatI_no hGI).2 i hi
        omega
      clear hG hGI
      go_wp2_with fail
      refine (HC.out a b e c _ HX.out HY.out).mono ?_
      rintro r w4 ⟨a4, c4, rfl, h4, hb4⟩
      have s0 := keep r0 hb4
      have s1 := keep r1 hb4
      replace HX := mkHid (HX.out.below hb4)
      replace HY := mkHid (HY.out.below hb4)
      replace HI := mkHid (HI.out.below hb4)
      replace HB := mkHid (HB.out.then hb4)
      have H4 := mkHid h4
      clear hb4 r0 r1 h4
      go_wp2_with fail
      refine (HR.out a b e c _ HX.out HY.out).mono ?_
      rintro r w5 ⟨a5, c5, rfl, h5, hb5⟩
      replace HI := mkHid (HI.out.below hb5)
      replace H4 := mkHid (H4.out.below hb5)
      replace HB := mkHid (HB.out.then hb5)
      have H5 := mkHid h5
      clear hb5 s0 s1 h5 HX HY
      go_wp2_with fail
      refine (sameIK a4 c4 a5 c5 _ L L _ _ true rfl rfl (by simp) H4.out H5.out).mono ?_
      rintro r w6 ⟨rfl, hb6⟩
      replace HI := mkHid (HI.out.below hb6)
      replace H4 := mkHid (H4.out.below hb6)
      replace H5 := mkHid (H5.out.below hb6)
      replace HB := mkHid (HB.out.then hb6)
      clear hb6
      go_wp2_with fail
      refine (regsK ai ci _ li _ _ rfl rfl HLI.out HI.out).mono ?_
      rintro r w7 ⟨rfl, hb7⟩
      replace HI := mkHid (HI.out.below hb7)
      replace H4 := mkHid (H4.out.below hb7)
      replace H5 := mkHid (H5.out.below hb7)
      replace HB := mkHid (HB.out.then hb7)
      clear hb7
      go_wp2_with fail
      refine (refregsK ai ci _ li _ _ rfl rfl HLI.out HI.out).mono ?_
      rintro r w8 ⟨rfl, hb8⟩
      replace H4 := mkHid (H4.out.below hb8)
      replace H5 := mkHid (H5.out.below hb8)
      replace HB := mkHid (HB.out.then hb8)
      clear hb8
      go_wp2_with fail
      refine (regsK a4 c4 _ L _ _ rfl rfl HBD.out H4.out).mono ?_
      rintro r w9 ⟨rfl, hb9⟩
      replace H5 := mkHid (H5.out.below hb9)
      replace HB := mkHid (HB.out.then hb9)
      clear hb9
      go_wp2_with fail
      refine (refregsK a5 c5 _ L _ _ rfl rfl HBD.out H5.out).mono ?_
      rintro r w10 ⟨rfl, hb10⟩
      replace HB := mkHid (HB.out.then hb10)
      clear hb10
      go_wp2_with fail
      go_ret
      exact ⟨rfl, HB.out⟩
end Go.Proofs.Ytmmnfkggfnokjaa
namespace Go.Proofs.Ytmmnfkggfnokjaa
open Go.RowKit Go.ChangeShapes Go.WideShapes Go.Deep Go.ChangeAt
theorem Try.own : ownKnob Try.prog.godebug = none := by kernel_rfl
theorem Try.laidOut : laidOutB Try.prog = true := by kernel_rfl
theorem Try.cells79 : Try.prog.cellsOf 79 = 3 := by kernel_rfl
theorem Try.cells22 : Try.prog.cellsOf 22 = 1 := by kernel_rfl
theorem Try.cells3 : Try.prog.cellsOf 3 = 1 := by kernel_rfl
theorem Try.cells9 : Try.prog.cellsOf 9 = 1 := by kernel_rfl
theorem i64_wf {n : Int} (h : (Lit.int .i64 n).wf = true) : -9223372036854775808 ≤ n ∧ n ≤ 9223372036854775807 := by
  simp [Lit.wf, IntKind.min, IntKind.max, IntKind.signed, IntKind.bits] at h
  omega
theorem add_lit (b o j : Nat) : (Addr.mk b o none).add j = ⟨b, o + j, none⟩ := by unfold Addr.add; split <;> simp_all
section
variable {H : Type} {enc : TypeId × Value → H} {w : World} {spare : Nat → Bool} {held : Bool}
set_option maxRecDepth 100000 in
/-- three cells that read as a cell of a term -/
theorem open_cell {n : Nat} {cs : List Value} {x : DataW H × List MemPlace} (h : DataW.trod enc Try.prog w 0 spare held n 79 cs = some x) :
    ∃ c : Cel, cs = [.int .i64 c.k, .string c.s, .int .i64 c.n] ∧ c.fit := by
  obtain ⟨ys, m, _, _, hlen, hyl, hf⟩ := DataW.trod_struct Try.underlying79 h
  rw [Try.cells79] at hlen
  match cs, hlen with
  | [v0, v1, v2], _ =>
    have h0 : DataW.trod enc Try.prog w 0 spare held m 3 (([v0, v1, v2].drop 0).take (Try.prog.cellsOf 3)) = ys[0]? := hf 0 _ rfl
    have h1 : DataW.trod enc Try.prog w 0 spare held m 9 (([v0, v1, v2].drop 1).take (Try.prog.cellsOf 9)) = ys[1]? := hf 1 _ rfl
    have h2 : DataW.trod enc Try.prog w 0 spare held m 3 (([v0, v1, v2].drop 2).take (Try.prog.cellsOf 3)) = ys[2]? := hf 2 _ rfl
    rw [Try.cells3] at h0 h2
    rw [Try.cells9] at h1
    have hy : ∀ i : Nat, i < 3 → ∃ y, ys[i]? = some y := fun i hi => ⟨_, List.getElem?_eq_getElem (by rw [hyl]; exact hi)⟩
    obtain ⟨y0, e0⟩ := hy 0 (by omega)
    obtain ⟨y1, e1⟩ := hy 1 (by omega)
    obtain ⟨y2, e2⟩ := hy 2 (by omega)
    rw [e0] at h0
    rw [e1] at h1
    rw [e2] at h2
    obtain ⟨a0, q0, _, f0⟩ := DataW.trod_int Try.underlying3 h0
    obtain ⟨a1, q1, _, f1⟩ := DataW.trod_string Try.underlying9 h1
    obtain ⟨a2, q2, _, f2⟩ := DataW.trod_int Try.underlying3 h2
    simp at q0 q1 q2
    refine ⟨⟨a0, a1, a2⟩, by rw [q0, q1, q2], ⟨(i64_wf f0).1, (i64_wf f0).2, (i64_wf f2).1, (i64_wf f2).2, by unfold maxLen at f1; exact f1⟩⟩
/-- what rows of a kind are made of -/
theorem open_rows {α : Type} [Rep α] {t e : TypeId} (ht : Try.prog.underlying t = some (.slice e)) (hC : Try.prog.cellsOf e = Rep.sz α)
    (hE : ∀ (n : Nat) (a : Addr) (cs : List Value) (x : DataW H × List MemPlace), w.cells? 0 a (Rep.sz α) = some cs → DataW.trod enc Try.prog w 0 (fun _ => true) held n e cs = some x → ∃ (b o : Nat) (y : α), a = ⟨b, o, none⟩ ∧ Rep.E w b o y)
    {fuel : Nat} {a : Option Addr} {len cap : Nat} {x : DataW H × List MemPlace} (h : DataW.trod enc Try.prog w 0 (fun _ => true) held fuel t [.slice a len cap] = some x) :
    ∃ xs : List α, xs.length = len ∧ Row w a cap xs := by
  rcases open_slice ht h with ⟨hcs, _⟩ | ⟨ad, l, c, m, n, D, Pl, hcs, _, hl, hm, hmm, _, hi⟩
  · simp at hcs
    obtain ⟨rfl, rfl, rfl⟩ := hcs
    exact ⟨[], rfl, Row.empty _ _ _ (by omega) (fun _ => rfl)⟩
  · simp at hcs
    obtain ⟨rfl, rfl, rfl⟩ := hcs
    simp only [if_true] at hmm
    subst hmm
    have key : ∀ i, i < len → ∃ (b o : Nat) (y : α), ad.add (i * Rep.sz α) = ⟨b, o, none⟩ ∧ Rep.E w b o y := by
      intro i hil
      obtain ⟨cs', hc, ht'⟩ := hi i (by omega)
      rw [hC] at hc
      exact hE n _ cs' _ hc ht'
    have hy : ∀ i : Fin len, ∃ y : α, ∃ b o, ad.add (i.val * Rep.sz α) = ⟨b, o, none⟩ ∧ Rep.E w b o y := fun i => by
      obtain ⟨b, o, y, e1, e2⟩ := key i.val i.isLt
      exact ⟨y, b, o, e1, e2⟩
    let f : Fin len → α := fun i => Classical.choose (hy i)
    have hf : ∀ i : Fin len, ∃ b o, ad.add (i.val * Rep.sz α) = ⟨b, o, none⟩ ∧ Rep.E w b o (f i) := fun i => Classical.choose_spec (hy i)
    refine ⟨List.ofFn f, List.length_ofFn, ⟨by rw [List.length_ofFn]; exact hl, by unfold maxLen at hm; omega, (fun e => by cases e), fun i x hx => ?_⟩⟩
    have hil : i < len := by
      have := (List.getElem?_eq_some_iff.1 hx).1; rwa [List.length_ofFn] at this
    have hx' : f ⟨i, hil⟩ = x := by
      rw [List.getElem?_eq_getElem (by rw [List.length_ofFn]; exact hil), List.getElem_ofFn] at hx
      exact Option.some.inj hx
    obtain ⟨b, o, e1, e2⟩ := hf ⟨i, hil⟩
    obtain ⟨b0, o0, s0⟩ := ad
    have hz := hf ⟨0, by omega⟩
    obtain ⟨b1, o1, e3, _⟩ := hz
    simp only [Nat.zero_mul, Addr.add, if_true] at e3
    injection e3 with e3 e4 e5
    subst e5
    rw [add_lit] at e1
    injection e1 with e1 e6
    subst e1
    refine ⟨b0, o0, rfl, ?_⟩
    rw [hx'] at e2
    rw [← e6] at e2
    exact e2
theorem spot_none {a : Addr} {v : Value} (h : w.cell? a = some v) : ∃ b o, a = ⟨b, o, none⟩ := by
  have := World.cell?_spot h
  obtain ⟨b, o, s⟩ := a
  simp at this
  subst this
  exact ⟨b, o, rfl⟩
theorem E_cell (n : Nat) (a : Addr) (cs : List Value) (x : DataW H × List MemPlace) (hc : w.cells? 0 a 3 = some cs) (h : DataW.trod enc Try.prog w 0 spare held n 79 cs = some x) : ∃ (b o : Nat) (y : Cel), a = ⟨b, o, none⟩ ∧ Rep.E w b o y := by
  obtain ⟨c, rfl, hf⟩ := open_cell h
  obtain ⟨_, _, hat⟩ := World.cells?_some hc
  have h0 := hat 0 (by omega)
  obtain ⟨b, o, rfl⟩ : ∃ b o, a = ⟨b, o, none⟩ := spot_none (by simpa [Addr.add] using h0)
  refine ⟨b, o, c, rfl, ?_⟩
  have h1 := hat 1 (by omega)
  have h2 := hat 2 (by omega)
  rw [add_lit] at h0 h1 h2
  exact ⟨h0, h1, h2, hf⟩
/-- []Cell -/
theorem open_cells {fuel : Nat} {a : Option Addr} {len cap : Nat} {x : DataW H × List MemPlace} (h : DataW.trod enc Try.prog w 0 (fun _ => true) held fuel 22 [.slice a len cap] = some x) :
    ∃ xs : List Cel, xs.length = len ∧ Row w a cap xs :=
  open_rows Try.underlying22 Try.cells79 (fun n a cs x h1 h2 => E_cell n a cs x h1 h2) h
end
end Go.Proofs.Ytmmnfkggfnokjaa
