import Derived.Test.YtabjghmfjoefpaaDoorZr3
import Derived.Deep.RegionHeld3
set_option linter.unusedVariables false
namespace Go.Proofs.YtabjghmfjoefpaaDoor
open Go.RowKit

theorem veil_keepsK {us : List Nat} {w w' : World} (h : Keeps w w') : Keeps (veil us w) (veil us w') := fun b o v hc => let ⟨h1, h2⟩ := veil_cell hc; veil_of h1 (h _ _ _ h2)
theorem veil_hideK (us : List Nat) (r : Option Nat) (w : World) : Keeps (veil us (hide r w)) (veil us w) := veil_keepsK (hide_keeps r w)
/-- rows as new as a call's beginning are read beside a row that the caller had, and beside what is behind both -/
theorem under_far {B B' : Nat} {us : List Nat} {r : Option Nat} {w w' : World} (hk : Keeps (under B w) w') (hu : ∀ k ∈ us, k < B) (hr : ∀ k, r = some k → k < B ∨ w.heap.size ≤ k) : Keeps (under B w) (veil us (hide r w')) := fun b o v hc => by
  obtain ⟨h1, h2⟩ := under_cell hc
  have h3 := hk _ _ _ hc
  have hl := cell_lt h2
  refine veil_of (fun e => by have := hu b e; omega) ?_
  cases r with
  | none => exact h3
  | some q => exact hide_of_ne (by have := hr q rfl; omega) h3
theorem under_far2 {B B' : Nat} {r : Option Nat} {w w' : World} (hk : Keeps (under B w) w') (hB : B' ≤ B) (hr : ∀ k, r = some k → k < B ∨ w.heap.size ≤ k) : Keeps (under B w) (under B' (hide r w')) := fun b o v hc => by
  obtain ⟨h1, h2⟩ := under_cell hc
  have h3 := hk _ _ _ hc
  have hl := cell_lt h2
  refine under_of (by omega) ?_
  cases r with
  | none => exact h3
  | some q => exact hide_of_ne (by have := hr q rfl; omega) h3
theorem mk_dot : (⟨3, ⟨#[46]⟩, 2⟩ : Cel).s.data.toList = [46] := rfl

set_option maxRecDepth 100000 in
set_option maxHeartbeats 8000000 in
theorem list_w {B N : Nat} (HT : TermW B N) (t : Tm) (ht : t.ok) (h200 : t.flat.length ≤ 200) (hN : t.flat.length ≤ N + 1) (hk : isC t.hd [46] 2 = true) (b : Nat) (g : Option Nat) (l : List UInt8) (w : World) (h : Wr b g l w) (hB : B ≤ b) (hgB : ∀ k, g = some k → B ≤ k) (hp : PowAt B w) (a : Option Addr) (cap : Nat) (hr : Row (veil (wus b g) w) a cap t.flat) (hlen : (l ++ textT t).length ≤ 1000000000) :
    Calls Tryd.prog 80 #[.pointer (some ⟨b, 0, none⟩), .slice a t.flat.length cap] w fun e w' => e = .returned (.tuple #[]) ∧ Wrote b g (l ++ textT t) w w' := by
  have hbl := h.lt
  have hgl := h.ltg
  have hus : ∀ k ∈ wus b g, k < w.heap.size := fun k hk => (mem_wus.1 hk).elim (fun e => by rw [e]; exact hbl) (hgl k)
  have HW := mkHid h
  have HR : Hid (Row (veil (wus b g) (hide (Value.slice none 0 0).ownBlock w)) a cap t.flat) := hr
  have HT' := mkHid HT
  have HOK := mkHid ht
  have HN := mkHid hN
  have HK := mkHid hk
  have HL := mkHid hlen
  have HP := mkHid hp
  have H2 := mkHid h200
  have hBw := hp.le
  clear h hr HT ht hN hk hlen hp h200
  go_enter Tryd.func80, Tryd.ntmps80
  go_wp2_with fail
  go_loopw [1, 4] (fun c v wr => ∃ (cur : Tm) (items : List Tm) (aC : Option Addr) (capC : Nat) (vs : List Value), c = .slice aC cur.flat.length capC ∧ Hid (Row (veil (wus b g) (hide v.ownBlock wr)) aC capC cur.flat) ∧ wr.ownsRow w.heap.size 22 1 v items.length vs ∧ Hid (SlRows (under w.heap.size (hide v.ownBlock wr)) vs (items.map Tm.flat)) ∧ Below w.heap.size w wr ∧ Hid (Stand t items cur)) (fun c v wr => lenV c)
  case atStart => exact ⟨t, [], a, cap, [], rfl, HR, World.ownsRow_nil _ _ _ _, mkHid (SlRows.nil _), Below.refl _ _, mkHid ⟨HOK.out, trivial, by simp, by simp, Or.inl ⟨rfl, rfl⟩⟩⟩
  case round =>
    obtain ⟨cur, items, aC, capC, vs, rfl, HC, hown, HS, hbl2, HD⟩ := hrel
    have h0 := flat_pos cur
    have hle := HC.out.le
    have hmx := HC.out.max
    have hsum := HD.out.sum
    have hh2 := H2.out
    obtain ⟨bC, off, rfl, hbC, hat⟩ := HC.out.cases.resolve_left (fun e => by simp [e] at h0)
    obtain ⟨c0, c1, c2, hf⟩ := cel_at hat (Below.refl _ _) h0
    rw [flat_hd cur h0] at c0 c1 c2 hf
    simp only [Nat.zero_mul, Nat.add_zero] at c0 c1 c2
    have hkk := veil_hideK (wus b g) u4.ownBlock wr
    have d0 := (veil_cell (hkk _ _ _ c0)).2
    have d1 := (veil_cell (hkk _ _ _ c1)).2
    have d2 := (veil_cell (hkk _ _ _ c2)).2
    have e0 := keepL d0
    have e1 := keepL d1
    have e2 := keepL d2
    have hq := fun W => run_eql_cel cur.hd ⟨3, ⟨#[46]⟩, 2⟩ W
    have hic := isC_iff cur.hd ⟨#[46]⟩ 2
    have y1 : decide ((0 : Int) < (cur.flat.length : Int)) = true := decide_eq_true (by omega)
    have y2 : decide (0 < cur.flat.length) = true := decide_eq_true (by omega)
    have HBL := mkHid hbl2
    clear hkk c0 c1 c2 hat hbC
    cases hd : isC cur.hd [46] 2 with
    | true =>
      rw [show decide (cur.hd = (⟨3, ⟨#[46]⟩, 2⟩ : Cel)) = true from hic.trans hd] at hq
      go_wp2_with fail
      refine wp_region_calm (by kernel_rfl) (by kernel_rfl) ?_
      repeat (go_big_quiet_step (exact Calls.calm_of (pfun_any _ _ _)))
      refine wpQuiet_nil ?_
      rintro _ ⟨y, rfl⟩
      have hy := y.ok
      generalize y.w' = w2 at *
      obtain ⟨x, z, hargs, hxok, hzok⟩ : ∃ x z, cur.args = [x, z] ∧ x.ok ∧ z.ok := by obtain ⟨c, ts⟩ := cur; exact ok_two HD.out.ok hd
      have hnx : Stand t (items ++ [x]) z := by
        obtain ⟨c, ts⟩ := cur
        obtain rfl : ts = [x, z] := hargs
        exact HD.out.next hd
      have hps : partsL cur.flat = [x.flat, z.flat] := by rw [parts_flat HD.out.ok, hargs]; rfl
      have hRc := right_flat HD.out.ok (by omega)
      have hzl : z.flat.length < cur.flat.length := flat_arg_lt (by rw [hargs]; simp)
      have hrow2 : Row w2 (some ⟨bC, off, none⟩) capC cur.flat := ((HC.out.keeps (veil_keepsK (below_hide hy _))).keeps (veil_hideK _ _ _)).keeps (veil_keeps _ _)
      have HNX := mkHid hnx
      have HPS := mkHid hps
      have HY := mkHid hy
      have HRO := mkHid hrow2
      have hwr2 := hy.size
      clear hnx hps hargs hy hrow2 e0 e1 e2 d0 d1 d2 hq hic hd
      go_wp2_with fail
      refine (parts_newZ _ capC w2 cur.flat HRO.out hRc).mono ?_
      rintro e w3 ⟨a', cap', rfl, hnr, hb3⟩
      rw [HPS.out] at hnr ⊢
      obtain ⟨bP, oP, rfl, hbP, hatP⟩ := Row.cases hnr |>.resolve_left (fun e => by simp at e)
      obtain ⟨a0, cap0, p0, r0⟩ := list_at hatP (Below.refl _ _) (k := 0) (by simp)
      obtain ⟨a1, cap1, p1, r1⟩ := list_at hatP (Below.refl _ _) (k := 1) (by simp)
      replace p0 : (under w2.heap.size w3).cell? ⟨bP, oP, none⟩ = some (.slice a0 x.flat.length cap0) := p0
      replace p1 : (under w2.heap.size w3).cell? ⟨bP, oP + 1, none⟩ = some (.slice a1 z.flat.length cap1) := p1
      replace r0 : Row (under w2.heap.size w3) a0 cap0 x.flat := r0
      replace r1 : Row (under w2.heap.size w3) a1 cap1 z.flat := r1
      obtain ⟨hbP2, q0⟩ := under_cell p0
      obtain ⟨_, q1⟩ := under_cell p1
      have h23 := hb3.size
      have hb13 := HY.out.then hb3
      have hown3 := own_belowA hown hb13
      have hownd : ((w3.alloc (.cells #[.slice a0 x.flat.length cap0] 22)).drew).ownsRow w.heap.size 22 1 u4 items.length vs := own_belowA hown3 (((Below.refl w3.heap.size w3).new _).drew)
      have hsd : ((w3.alloc (.cells #[.slice a0 x.flat.length cap0] 22)).drew).heap.size = w3.heap.size + 1 := by show (w3.alloc _).heap.size = _; simp
      have hu4 := hown.lt
      obtain ⟨i, hi, hz0, hz1, hz2⟩ := info_parts Tryd.infoSl
      have hbw3 := HBL.out.then hb13
      have hitl : items.length ≤ 200 := by omega
      obtain ⟨v5, w5, hrun, hown5, hgr, hwh⟩ := run_append_where (P := Tryd.prog) ((w3.alloc (.cells #[.slice a0 x.flat.length cap0] 22)).drew) w.heap.size 58 58 22 i _ 1 24 Tryd.underlying58 hi hz0 hz1 hz2 rfl (by decide) u4 items.length vs hownd ⟨w3.heap.size, 0, none⟩ 1 1 [.slice a0 x.flat.length cap0] rfl
        ((src_new w3 #[.slice a0 x.flat.length cap0] 22 1 rfl (by simp [Value.oneCell'])).cells ⟨w3.heap.size, 0, none⟩ rfl) (by simp [Value.oneCell']) (by unfold maxLen; omega) (by omega) (by rw [hsd]; have := hbw3.size; omega)
      have hbd5 := grown_below hgr hownd (by rw [hsd]; have := hbw3.size; omega)
      have hgs := hgr.size
      have hkd : Keeps (under w2.heap.size w3) w5 := fun b o v hc => by
        obtain ⟨h1, h2⟩ := under_cell hc
        have h3 : ((w3.alloc (.cells #[.slice a0 x.flat.length cap0] 22)).drew).cell? ⟨b, o, none⟩ = some v := keep h2 (((Below.refl w3.heap.size w3).new _).drew)
        exact hgr.cell h3 (fun e => by have := (hu4 b e.symm).2; have := HY.out.size; omega)
      have hwv : ∀ k, v5.ownBlock = some k → k < w2.heap.size ∨ w3.heap.size ≤ k := fun k e => by
        rcases hwh with e2 | e2
        · rw [e2] at e; have := (hu4 k e).2; have := HY.out.size; exact .inl (by omega)
        · rw [e2, hsd] at e; injection e with e; exact .inr (by omega)
      have husz : ∀ k ∈ wus b g, k < w2.heap.size := fun k hk => by have := hus k hk; have := HBL.out.size; omega
      have hkk : Keeps (hide u4.ownBlock wr) (hide v5.ownBlock w5) := fun b o v hc => hide_next hgr hwh _ _ _ (below_hide (((Below.refl w3.heap.size w3).new (.cells #[.slice a0 x.flat.length cap0] 22)).drew) _ _ _ _ (below_hide hb13 _ _ _ _ hc))
      have hSn := (HS.out.keeps (under_keepsK (B := w.heap.size) hkk)).snoc (r0.keeps (under_far2 (B' := w.heap.size) hkd (by have := HBL.out.size; omega) hwv))
      have hRn := r1.keeps (under_far (B' := 0) hkd husz hwv)
      have HSD : Hid (((w3.alloc (.cells #[.slice a0 x.flat.length cap0] 22)).drew).cell? ⟨bP, oP, none⟩ = some (.slice a0 x.flat.length cap0) ∧ ((w3.alloc (.cells #[.slice a0 x.flat.length cap0] 22)).drew).cell? ⟨bP, oP + 1, none⟩ = some (.slice a1 z.flat.length cap1)) := ⟨keep q0 (((Below.refl w3.heap.size w3).new _).drew), keep q1 (((Below.refl w3.heap.size w3).new _).drew)⟩
      have HSE : Hid (w5.cell? ⟨bP, oP, none⟩ = some (.slice a0 x.flat.length cap0) ∧ w5.cell? ⟨bP, oP + 1, none⟩ = some (.slice a1 z.flat.length cap1)) := ⟨hkd _ _ _ p0, hkd _ _ _ p1⟩
      have HSN : Hid (SlRows (under w.heap.size (hide v5.ownBlock w5)) (vs ++ [.slice a0 x.flat.length cap0]) ((items ++ [x]).map Tm.flat)) := by rw [List.map_append]; exact hSn
      have HRN := mkHid hRn
      have HB5 := mkHid (hbw3.trans ((((Below.refl w3.heap.size w3).new (.cells #[.slice a0 x.flat.length cap0] 22)).drew.mono (by have := hbw3.size; omega)).trans hbd5))
      have HO5 : Hid (w5.ownsRow w.heap.size 22 1 v5 (items ++ [x]).length (vs ++ [.slice a0 x.flat.length cap0])) := by rw [List.length_append]; exact hown5
      have y3 : decide ((0 : Int) < ((2 : Nat) : Int)) = true := by decide
      have hrunb : (Builtin.append_ #[58, 58] 58 #[u4, .slice (some ⟨w3.heap.size, 0, none⟩) 1 1]).run Tryd.prog (w3.drew.alloc (.cells #[.slice a0 x.flat.length cap0] 22)) = .ok v5 w5 := hrun
      clear hSn hRn hkk hwv hkd hbd5 hgs hgr hwh hown5 hownd hown3 hu4 hnr hatP p0 p1 r0 r1 hbP2 hbw3 hb13 hb3 hsd hi hz0 hz1 hz2
      go_wp2_with fail
      refine wp_region_noPanic ?_
      refine wp_region_held_drew (S := (fun w' : World => w'.cell? ⟨bP, oP, none⟩ = some (.slice a0 x.flat.length cap0) ∧ w'.cell? ⟨bP, oP + 1, none⟩ = some (.slice a1 z.flat.length cap1))) (by kernel_rfl) (⟨q0, q1⟩) (fun hSd => ?_)
      refine wpAnyH_take (i := 0) (oi := _) (v := ?_) rfl (by kernel_rfl) (by kernel_rfl) (by kernel_rfl) (fun _ _ _ h => h) (Or.inl ⟨by rfl, ?_⟩) (by assumption) ?_
      rotate_left
      · (intro w' hSw; (try dsimp only at hSw); go_simp; try with_reducible rfl)
      (try simp only [Act.put, List.setIfInBounds_toArray, List.set_cons_zero, List.set_cons_succ])
      refine wpAnyH_take (i := 1) (oi := _) (v := ?_) rfl (by kernel_rfl) (by kernel_rfl) (by kernel_rfl) (fun _ _ _ h => h) (Or.inl ⟨by rfl, ?_⟩) (by assumption) ?_
      rotate_left
      · (intro w' hSw; (try dsimp only at hSw); go_simp; try with_reducible rfl)
      (try simp only [Act.put, List.setIfInBounds_toArray, List.set_cons_zero, List.set_cons_succ])
      refine wpAnyH_take (i := 2) (oi := _) (v := ?_) rfl (by kernel_rfl) (by kernel_rfl) (by kernel_rfl) (fun _ _ _ h => h) (Or.inl ⟨by rfl, ?_⟩) (by assumption) ?_
      rotate_left
      · (intro w' hSw; (try dsimp only at hSw); go_simp; try with_reducible rfl)
      (try simp only [Act.put, List.setIfInBounds_toArray, List.set_cons_zero, List.set_cons_succ])
      refine wpAnyH_take (i := 3) (oi := _) (v := ?_) rfl (by kernel_rfl) (by kernel_rfl) (by kernel_rfl) (fun _ _ _ h => h) (Or.inl ⟨by rfl, ?_⟩) (by assumption) ?_
      rotate_left
      · (intro w' hSw; (try dsimp only at hSw); go_simp; try with_reducible rfl)
      (try simp only [Act.put, List.setIfInBounds_toArray, List.set_cons_zero, List.set_cons_succ])
      refine wpAnyH_take (i := 6) (oi := _) (v := ?_) rfl (by kernel_rfl) (by kernel_rfl) (by kernel_rfl) (fun _ _ _ h => h) (Or.inl ⟨by rfl, ?_⟩) (by assumption) ?_
      rotate_left
      · (intro w' hSw; (try dsimp only at hSw); go_simp; try with_reducible rfl)
      (try simp only [Act.put, List.setIfInBounds_toArray, List.set_cons_zero, List.set_cons_succ])
      refine wpAnyH_take (i := 7) (oi := _) (v := ?_) rfl (by kernel_rfl) (by kernel_rfl) (by kernel_rfl) (fun _ _ _ h => h) (Or.inl ⟨by rfl, ?_⟩) (by assumption) ?_
      rotate_left
      · (intro w' hSw; (try dsimp only at hSw); go_simp; try with_reducible rfl)
      (try simp only [Act.put, List.setIfInBounds_toArray, List.set_cons_zero, List.set_cons_succ])
      refine wpAnyH_take (i := 8) (oi := _) (v := ?_) rfl (by kernel_rfl) (by kernel_rfl) (by kernel_rfl) (fun _ _ _ h => h) (Or.inl ⟨by rfl, ?_⟩) (by assumption) ?_
      rotate_left
      · (intro w' hSw; (try dsimp only at hSw); go_simp; try with_reducible rfl)
      (try simp only [Act.put, List.setIfInBounds_toArray, List.set_cons_zero, List.set_cons_succ])
      refine wpAnyH_ready (rs := [4]) (by kernel_rfl) (by simp) ?_
      refine AllReadyH.cons (o := _) rfl (fun Kq hKq => ?_) AllReadyH.nil
      go_simp
      refine hKq.out _ _ (HSD.out) (fun _ => ?_)
      clear hKq Kq
      (try simp only [Act.put, List.setIfInBounds_toArray, List.set_cons_zero, List.set_cons_succ])
      refine wpAnyH_ready (rs := [5]) (by kernel_rfl) (by simp) ?_
      refine AllReadyH.cons (o := _) rfl (fun Kq hKq => ?_) AllReadyH.nil
      (rw [if_pos (by rfl)]; simp [Oper.wp, execOp, resolve, invoke, builtin, Oper.upon, Act.eval, hrun, hrunb, Result.andThen, Sem.run_bind])
      refine hKq.out _ _ (HSE.out) (fun _ => ?_)
      clear hKq Kq
      (try simp only [Act.put, List.setIfInBounds_toArray, List.set_cons_zero, List.set_cons_succ])
      refine wpAnyH_ready (rs := [9]) (by kernel_rfl) (by simp) ?_
      refine AllReadyH.cons (o := _) rfl (fun Kq hKq => ?_) AllReadyH.nil
      go_simp
      refine hKq.out _ _ (HSE.out) (fun _ => ?_)
      clear hKq Kq
      (try simp only [Act.put, List.setIfInBounds_toArray, List.set_cons_zero, List.set_cons_succ])
      refine wpAnyH_ready (rs := [10]) (by kernel_rfl) (by simp) ?_
      refine AllReadyH.cons (o := _) rfl (fun Kq hKq => ?_) AllReadyH.nil
      go_simp
      refine hKq.out _ _ (HSE.out) (fun _ => ?_)
      clear hKq Kq
      (try simp only [Act.put, List.setIfInBounds_toArray, List.set_cons_zero, List.set_cons_succ])
      refine wpAnyH_done (by kernel_rfl) (NoPanic.normal ?_) _
      go_wp2_with fail
      refine ⟨⟨z, items ++ [x], a1, cap1, _, rfl, HRN, HO5.out, HSN, HB5.out, HNX⟩, ?_⟩
      simpa [lenV] using hzl
    | false =>
      obtain ⟨ai, capi, rfl, hrow⟩ := own_rowL (v := u4) (ps := items.map Tm.flat) (under_own (B := w.heap.size) (by rw [List.length_map]; exact hown)) (HS.out.keeps (under_keepsK (hide_keeps _ _)))
      rw [List.length_map]
      rw [show decide (cur.hd = (⟨3, ⟨#[46]⟩, 2⟩ : Cel)) = false from hic.trans hd] at hq
      have hk2 : isC t.hd [46] 2 = true ∨ isC t.hd [91, 93] 0 = true := .inl HK.out
      have hcl : (sepL [44] (textsT items)).length + 2 ≤ (textT t).length := by
        cases hn : isC cur.hd [91, 93] 0 with
        | true => rw [fin_nil HD.out hk2 hn]; simp
        | false => rw [(fin_bar HD.out hk2 hd hn).1]; simp
      have hlt : l.length + (textT t).length ≤ 1000000000 := by have := HL.out; rwa [List.length_append] at this
      have hsm : ∀ u ∈ items, u.flat.length ≤ N := fun u hu => by have := HD.out.small u hu; have := HN.out; omega
      have hrC := HC.out.keeps (veil_hideK _ _ _)
      have HRC := mkHid hrC
      have HROW := mkHid hrow
      have HSM := mkHid hsm
      have HDD := mkHid hd
      clear hrC hrow hsm hown hd
      go_wp2_with fail
      refine wp_region_calm (by kernel_rfl) (by kernel_rfl) ?_
      repeat (go_big_quiet_step (exact Calls.calm_of (pfun_any _ _ _)))
      refine wpQuiet_nil ?_
      rintro _ ⟨y, rfl⟩
      have hy := y.ok
      generalize y.w' = w2 at *
      have hbw2 := HBL.out.then hy
      have hr2 := (HROW.out.keeps (under_below hy)).keeps (under_veil hus)
      have hrC2 := HRC.out.keeps (veil_keepsK (us := wus b g) (Keeps.of hy))
      have hw2 := HW.out.below hbw2
      have hp2 := HP.out.below hbw2
      have henc := enclosed_w HT'.out b g l w2 hw2 hB hgB hp2 items ai capi hr2 (oks_mem HD.out.oks) HSM.out [91] [44] [] (by simp; omega)
      have HEN := mkHid henc
      have HRC2 := mkHid hrC2
      have HP2 := mkHid hp2
      have HBW2 := mkHid hbw2
      clear henc hrC2 hr2 hw2 hp2 hbw2 hy e0 e1 e2 d0 d1 d2 hq hic
      go_wp2_with fail
      refine HEN.out.mono ?_
      rintro e w5 ⟨rfl, g5, hw5, hf5, hn5⟩
      have hst : WStep B b g g5 w2 w5 := ⟨hf5, hn5⟩
      have hr5 := hst.row HRC2.out
      have hp5 := hst.pow hB hgB HP2.out
      have hg5 := hst.bound hgB (HP2.out.le)
      obtain ⟨b5, o5, e5, hb5, hat5⟩ := hr5.cases.resolve_left (fun e => by simp [e] at h0)
      injection e5 with e5
      injection e5 with e5a e5b
      subst e5a; subst e5b
      obtain ⟨c0, c1, c2, _⟩ := cel_at hat5 (Below.refl _ _) h0
      rw [flat_hd cur h0] at c0 c1 c2
      simp only [Nat.zero_mul, Nat.add_zero] at c0 c1 c2
      have d0 := (veil_cell c0).2
      have d1 := (veil_cell c1).2
      have d2 := (veil_cell c2).2
      have e0 := keepL d0
      have e1 := keepL d1
      have e2 := keepL d2
      have hq := fun W => run_neq_cel cur.hd ⟨3, ⟨#[91, 93]⟩, 0⟩ W
      have hic := isC_iff cur.hd ⟨#[91, 93]⟩ 0
      have HST := mkHid hst
      have HR5 := mkHid hr5
      have HP5 := mkHid hp5
      have HW5 := mkHid hw5
      clear hst hr5 hp5 hw5 hf5 hn5 hat5 c0 c1 c2
      cases hn : isC cur.hd [91, 93] 0 with
      | true =>
        have hfin := fin_nil HD.out hk2 hn
        rw [show decide (cur.hd = (⟨3, ⟨#[91, 93]⟩, 0⟩ : Cel)) = true from hic.trans hn] at hq
        have HFN := mkHid hfin
        clear hfin hn hk2
        go_wp2_with fail
        refine wp_region_calm (by kernel_rfl) (by kernel_rfl) ?_
        repeat (go_big_quiet_step (exact Calls.calm_of (pfun_any _ _ _)))
        refine wpQuiet_nil ?_
        rintro _ ⟨y, rfl⟩
        have hy := y.ok
        generalize y.w' = w6 at *
        have HY := mkHid hy
        clear hy e0 e1 e2 d0 d1 d2 hq hic
        go_wp2_with fail
        refine (byte_w b g5 _ 93 w6 (HW5.out.below HY.out) (by simp; omega)).mono ?_
        rintro e w7 ⟨rfl, hw7⟩
        have hfz : Wrote b g (l ++ textT t) w w7 := by
          have h1 := Wrote.after HY.out hw7 HW5.out.ltg
          have h2 := Wrote.on HST.out.fr HST.out.new h1
          have h3 := Wrote.after HBW2.out h2 hgl
          exact h3.as (by rw [HFN.out]; simp)
        have HFZ := mkHid hfz
        clear hfz hw7
        go_wp2_with fail
        go_end0
        exact ⟨rfl, HFZ.out⟩
      | false =>
        obtain ⟨hfin, hsmall⟩ := fin_bar HD.out hk2 HDD.out hn
        rw [show decide (cur.hd = (⟨3, ⟨#[91, 93]⟩, 0⟩ : Cel)) = false from hic.trans hn] at hq
        have hcn : cur.flat.length ≤ N := by have := HN.out; omega
        have hl2 : l.length + ((sepL [44] (textsT items)).length + (textT cur).length + 3) ≤ 1000000000 := by
          rw [hfin] at hlt; simp at hlt; omega
        have HFN := mkHid hfin
        clear hfin hn hk2
        go_wp2_with fail
        refine wp_region_calm (by kernel_rfl) (by kernel_rfl) ?_
        repeat (go_big_quiet_step (exact Calls.calm_of (pfun_any _ _ _)))
        refine wpQuiet_nil ?_
        rintro _ ⟨y, rfl⟩
        have hy := y.ok
        generalize y.w' = w6 at *
        have HY := mkHid hy
        clear hy e0 e1 e2 d0 d1 d2 hq hic
        go_wp2_with fail
        refine (byte_w b g5 _ 124 w6 (HW5.out.below HY.out) (by simp; omega)).mono ?_
        rintro e w7 ⟨rfl, g7, hw7, hf7, hn7⟩
        have hs6 : WStep B b g5 g5 w5 w6 := WStep.calm HY.out
        have hs7 : WStep B b g5 g7 w6 w7 := ⟨hf7, hn7⟩
        have hr7 := hs7.row (hs6.row HR5.out)
        have hp6 := hs6.pow hB hg5 HP5.out
        have hp7 := hs7.pow hB hg5 hp6
        have hg7 := hs7.bound hg5 hp6.le
        have hterm := HT'.out cur b g7 _ (some ⟨bC, off, none⟩) capC w7 HD.out.ok hcn (by simp; omega) hw7 hB hg7 hp7 hr7
        have HTE := mkHid hterm
        have HS7 := mkHid hs7
        clear hterm hr7 hp6 hp7 hs6 hs7 hw7 hf7 hn7
        go_wp2_with fail
        refine HTE.out.mono ?_
        rintro e w8 ⟨rfl, g8, hw8, hf8, hn8⟩
        have HS8 := mkHid (⟨hf8, hn8⟩ : WStep B b g7 g8 w7 w8)
        have HW8 := mkHid hw8
        clear hw8 hf8 hn8
        go_wp2_with fail
        refine (byte_w b g8 _ 93 w8 HW8.out (by simp; omega)).mono ?_
        rintro e w9 ⟨rfl, hw9⟩
        have hfz : Wrote b g (l ++ textT t) w w9 := by
          have h1 := Wrote.on HS8.out.fr HS8.out.new hw9
          have h2 := Wrote.on HS7.out.fr HS7.out.new h1
          have h3 := Wrote.after HY.out h2 HW5.out.ltg
          have h4 := Wrote.on HST.out.fr HST.out.new h3
          have h5 := Wrote.after HBW2.out h4 hgl
          exact h5.as (by rw [HFN.out]; simp)
        have HFZ := mkHid hfz
        clear hfz hw9
        go_wp2_with fail
        go_end0
        exact ⟨rfl, HFZ.out⟩
end Go.Proofs.YtabjghmfjoefpaaDoor
set_option linter.unusedVariables false
namespace Go.Proofs.YtabjghmfjoefpaaDoor
open Go.RowKit

theorem cell_kind {c : Cel} (h : cellOk c = true) : (c.k = 1 ∧ 0 ≤ c.n ∧ c.n ≤ 999) ∨ (c.k = 2 ∧ -2147483647 ≤ c.n ∧ c.n ≤ 2147483647) ∨ (c.k = 3 ∧ c.s.size ≤ 12 ∧ 0 ≤ c.n ∧ c.n ≤ 6) := by
  simp only [cellOk, Bool.or_eq_true, Bool.and_eq_true, decide_eq_true_eq, nameOk] at h
  rcases h with (h | h) | h
  · exact .inl ⟨h.1.1.1, h.1.2, h.2⟩
  · exact .inr (.inl ⟨h.1.1.1, h.1.2, h.2⟩)
  · exact .inr (.inr ⟨h.1.1.1, by omega, h.1.2, h.2⟩)
theorem tx_sign (s : ByteArray) : (⟨#[32]⟩ : ByteArray) ++ s ++ ⟨#[32]⟩ = tx (32 :: s.data.toList ++ [32]) := by
  apply ByteArray.ext
  apply Array.ext'
  simp [tx]

set_option maxRecDepth 100000 in
set_option maxHeartbeats 8000000 in
theorem term_var {B N : Nat} (HT : TermW B N) (hN2 : N + 1 ≤ 200) (c : Cel) (ts : List Tm) (b : Nat) (g : Option Nat) (l : List UInt8) (a : Option Addr) (cap : Nat) (w : World) (ht : (Tm.mk c ts).ok) (hN : (Tm.mk c ts).flat.length ≤ N + 1) (hlen : (l ++ textT (Tm.mk c ts)).length ≤ 1000000000) (h : Wr b g l w) (hB : B ≤ b) (hgB : ∀ k, g = some k → B ≤ k) (hp : PowAt B w) (hr : Row (veil (wus b g) w) a cap (Tm.mk c ts).flat) (hk : c.k = 1) (m : Nat) (hm : c.n = (m : Int)) (hm2 : m ≤ 999) :
    Calls Tryd.prog 57 #[.pointer (some ⟨b, 0, none⟩), .slice a (Tm.mk c ts).flat.length cap] w fun e w' => e = .returned (.tuple #[]) ∧ Wrote b g (l ++ textT (Tm.mk c ts)) w w' := by
  have h0 := flat_pos (Tm.mk c ts)
  have hle := hr.le
  have hmx := hr.max
  have hbl := h.lt
  have hgl := h.ltg
  have hus : ∀ k ∈ wus b g, k < w.heap.size := fun k hk => (mem_wus.1 hk).elim (fun e => by rw [e]; exact hbl) (hgl k)
  have hl1 : l.length + (textT (Tm.mk c ts)).length ≤ 1000000000 := by rwa [List.length_append] at hlen
  obtain ⟨bC, off, rfl, hbC, hat⟩ := hr.cases.resolve_left (fun e => by simp [e] at h0)
  obtain ⟨c0, c1, c2, hf⟩ := cel_at hat (Below.refl _ _) h0
  rw [flat_hd _ h0] at c0 c1 c2 hf
  simp only [Nat.zero_mul, Nat.add_zero] at c0 c1 c2
  replace c0 := (veil_cell c0).2
  replace c1 := (veil_cell c1).2
  replace c2 := (veil_cell c2).2
  replace c0 : w.cell? ⟨bC, off, none⟩ = some (.int .i64 c.k) := c0
  replace c2 : w.cell? ⟨bC, off + 2, none⟩ = some (.int .i64 c.n) := c2
  rw [hk] at c0
  rw [hm] at c2
  replace c0 : w.cell? ⟨bC, off, none⟩ = some (.int .i64 1) := c0
  replace c1 : w.cell? ⟨bC, off + 1, none⟩ = some (.string c.s) := c1
  replace c2 : w.cell? ⟨bC, off + 2, none⟩ = some (.int .i64 (m : Int)) := c2
  have hb1 : Below w.heap.size w (w.alloc (.cells #[.int .i64 1, .string c.s, .int .i64 (m : Int)] 62)) := (Below.refl _ _).new _
  have f0 : (w.alloc (.cells #[.int .i64 1, .string c.s, .int .i64 (m : Int)] 62)).cell? ⟨w.heap.size, 0, none⟩ = some (.int .i64 1) := World.cell?_alloc_at _ _ _ 0 rfl
  have f1 : (w.alloc (.cells #[.int .i64 1, .string c.s, .int .i64 (m : Int)] 62)).cell? ⟨w.heap.size, 1, none⟩ = some (.string c.s) := World.cell?_alloc_at _ _ _ 1 rfl
  have f2 : (w.alloc (.cells #[.int .i64 1, .string c.s, .int .i64 (m : Int)] 62)).cell? ⟨w.heap.size, 2, none⟩ = some (.int .i64 (m : Int)) := World.cell?_alloc_at _ _ _ 2 rfl
  have y1 : decide ((0 : Int) < (((Tm.mk c ts).flat.length : Nat) : Int)) = true := decide_eq_true (by omega)
  have y2 : decide (0 < (Tm.mk c ts).flat.length) = true := decide_eq_true (by omega)
  have HW := mkHid (h.below hb1)
  have HP := mkHid (hp.below hb1)
  have HR1 : Hid (Row (veil (wus b g) (w.alloc (.cells #[.int .i64 1, .string c.s, .int .i64 (m : Int)] 62))) (some ⟨bC, off, none⟩) cap (Tm.mk c ts).flat) := hr.keeps (veil_keepsK (Keeps.of hb1))
  have HB1 := mkHid hb1
  have HOK := mkHid ht
  have htx : textT (Tm.mk c ts) = varL m := by rw [text_var hk, hm]; rfl
  rw [htx] at hl1
  have HTX := mkHid htx
  clear htx
  clear h hp hr hat hbC hlen hb1 ht
  go_enter Tryd.func57, Tryd.ntmps57
  go_wp2_with fail
  refine (variable_w B b g l m _ HW.out HP.out hB hgB (by omega) (by omega)).mono ?_
  rintro e w2 ⟨rfl, hw2⟩
  have hfz : Wrote b g (l ++ textT (Tm.mk c ts)) w w2 := by rw [HTX.out]; exact Wrote.after HB1.out hw2 hgl
  have HFZ := mkHid hfz
  clear hfz hw2
  go_wp2_with fail
  go_end0
  exact ⟨rfl, HFZ.out⟩
set_option maxRecDepth 100000 in
set_option maxHeartbeats 8000000 in
theorem term_int {B N : Nat} (HT : TermW B N) (hN2 : N + 1 ≤ 200) (c : Cel) (ts : List Tm) (b : Nat) (g : Option Nat) (l : List UInt8) (a : Option Addr) (cap : Nat) (w : World) (ht : (Tm.mk c ts).ok) (hN : (Tm.mk c ts).flat.length ≤ N + 1) (hlen : (l ++ textT (Tm.mk c ts)).length ≤ 1000000000) (h : Wr b g l w) (hB : B ≤ b) (hgB : ∀ k, g = some k → B ≤ k) (hp : PowAt B w) (hr : Row (veil (wus b g) w) a cap (Tm.mk c ts).flat) (hk : c.k = 2) (hm1 : -2147483647 ≤ c.n) (hm2 : c.n ≤ 2147483647) :
    Calls Tryd.prog 57 #[.pointer (some ⟨b, 0, none⟩), .slice a (Tm.mk c ts).flat.length cap] w fun e w' => e = .returned (.tuple #[]) ∧ Wrote b g (l ++ textT (Tm.mk c ts)) w w' := by
  have h0 := flat_pos (Tm.mk c ts)
  have hle := hr.le
  have hmx := hr.max
  have hbl := h.lt
  have hgl := h.ltg
  have hus : ∀ k ∈ wus b g, k < w.heap.size := fun k hk => (mem_wus.1 hk).elim (fun e => by rw [e]; exact hbl) (hgl k)
  have hl1 : l.length + (textT (Tm.mk c ts)).length ≤ 1000000000 := by rwa [List.length_append] at hlen
  obtain ⟨bC, off, rfl, hbC, hat⟩ := hr.cases.resolve_left (fun e => by simp [e] at h0)
  obtain ⟨c0, c1, c2, hf⟩ := cel_at hat (Below.refl _ _) h0
  rw [flat_hd _ h0] at c0 c1 c2 hf
  simp only [Nat.zero_mul, Nat.add_zero] at c0 c1 c2
  replace c0 := (veil_cell c0).2
  replace c1 := (veil_cell c1).2
  replace c2 := (veil_cell c2).2
  replace c0 : w.cell? ⟨bC, off, none⟩ = some (.int .i64 c.k) := c0
  rw [hk] at c0
  replace c0 : w.cell? ⟨bC, off, none⟩ = some (.int .i64 2) := c0
  replace c1 : w.cell? ⟨bC, off + 1, none⟩ = some (.string c.s) := c1
  replace c2 : w.cell? ⟨bC, off + 2, none⟩ = some (.int .i64 c.n) := c2
  have hb1 : Below w.heap.size w (w.alloc (.cells #[.int .i64 2, .string c.s, .int .i64 c.n] 62)) := (Below.refl _ _).new _
  have f0 : (w.alloc (.cells #[.int .i64 2, .string c.s, .int .i64 c.n] 62)).cell? ⟨w.heap.size, 0, none⟩ = some (.int .i64 2) := World.cell?_alloc_at _ _ _ 0 rfl
  have f1 : (w.alloc (.cells #[.int .i64 2, .string c.s, .int .i64 c.n] 62)).cell? ⟨w.heap.size, 1, none⟩ = some (.string c.s) := World.cell?_alloc_at _ _ _ 1 rfl
  have f2 : (w.alloc (.cells #[.int .i64 2, .string c.s, .int .i64 c.n] 62)).cell? ⟨w.heap.size, 2, none⟩ = some (.int .i64 c.n) := World.cell?_alloc_at _ _ _ 2 rfl
  have y1 : decide ((0 : Int) < (((Tm.mk c ts).flat.length : Nat) : Int)) = true := decide_eq_true (by omega)
  have y2 : decide (0 < (Tm.mk c ts).flat.length) = true := decide_eq_true (by omega)
  have HW := mkHid (h.below hb1)
  have HP := mkHid (hp.below hb1)
  have HR1 : Hid (Row (veil (wus b g) (w.alloc (.cells #[.int .i64 2, .string c.s, .int .i64 c.n] 62))) (some ⟨bC, off, none⟩) cap (Tm.mk c ts).flat) := hr.keeps (veil_keepsK (Keeps.of hb1))
  have HB1 := mkHid hb1
  have HOK := mkHid ht
  have htx : textT (Tm.mk c ts) = Lib.itoa c.n := text_int hk
  rw [htx] at hl1
  have HTX := mkHid htx
  have hs1 : (w.alloc (.cells #[.int .i64 2, .string c.s, .int .i64 c.n] 62)).heap.size = w.heap.size + 1 := by simp
  clear htx
  clear h hp hr hat hbC hlen hb1 ht
  go_enter Tryd.func57, Tryd.ntmps57
  go_wp2_with fail
  generalize w.alloc (.cells #[.int .i64 2, .string c.s, .int .i64 c.n] 62) = w1 at *
  have HDR := mkHid ((Below.refl w1.heap.size w1).drew)
  have HPD := mkHid (HP.out.below HDR.out)
  refine wp_region_noPanic ?_
  refine wp_region_held_drew (S := (fun w' : World => w'.cell? ⟨w.heap.size, 2, none⟩ = some (.int .i64 c.n))) (by kernel_rfl) (f2) (fun hSd => ?_)
  refine wpAnyH_take (i := 0) (oi := _) (v := ?_) rfl (by kernel_rfl) (by kernel_rfl) (by kernel_rfl) (fun _ _ _ h => h) (Or.inl ⟨by rfl, ?_⟩) (by assumption) ?_
  rotate_left
  · (intro w' hSw; (try dsimp only at hSw); go_simp; try with_reducible rfl)
  (try simp only [Act.put, List.setIfInBounds_toArray, List.set_cons_zero, List.set_cons_succ])
  refine wpAnyH_take (i := 1) (oi := _) (v := ?_) rfl (by kernel_rfl) (by kernel_rfl) (by kernel_rfl) (fun _ _ _ h => h) (Or.inl ⟨by rfl, ?_⟩) (by assumption) ?_
  rotate_left
  · (intro w' hSw; (try dsimp only at hSw); go_simp; try with_reducible rfl)
  (try simp only [Act.put, List.setIfInBounds_toArray, List.set_cons_zero, List.set_cons_succ])
  refine wpAnyH_take (i := 2) (oi := _) (v := ?_) rfl (by kernel_rfl) (by kernel_rfl) (by kernel_rfl) (fun _ _ _ h => h) (Or.inl ⟨by rfl, ?_⟩) (by assumption) ?_
  rotate_left
  · (intro w' hSw; (try dsimp only at hSw); go_simp; try with_reducible rfl)
  (try simp only [Act.put, List.setIfInBounds_toArray, List.set_cons_zero, List.set_cons_succ])
  refine wpAnyH_take (i := 3) (oi := _) (v := ?_) rfl (by kernel_rfl) (by kernel_rfl) (by kernel_rfl) (fun _ _ _ h => h) (Or.inl ⟨by rfl, ?_⟩) (by assumption) ?_
  rotate_left
  · (intro w' hSw; (try dsimp only at hSw); go_simp; try with_reducible rfl)
  (try simp only [Act.put, List.setIfInBounds_toArray, List.set_cons_zero, List.set_cons_succ])
  refine wpAnyH_take (i := 4) (oi := _) (v := ?_) rfl (by kernel_rfl) (by kernel_rfl) (by kernel_rfl) (fun _ _ _ h => h) (Or.inl ⟨by rfl, ?_⟩) (by assumption) ?_
  rotate_left
  · (intro w' hSw; (try dsimp only at hSw); go_simp; try with_reducible rfl)
  (try simp only [Act.put, List.setIfInBounds_toArray, List.set_cons_zero, List.set_cons_succ])
  refine wpAnyH_ready (rs := [5]) (by kernel_rfl) (by simp) ?_
  refine AllReadyH.cons (o := _) rfl (fun Kq hKq => ?_) AllReadyH.nil
  go_simp
  refine (itoa_any c.n (by omega) (by omega) _ HPD.out.pow).mono ?_
  rintro e V1 ⟨rfl, hv1⟩
  have hv := HDR.out.then hv1
  try dsimp only
  refine hKq.out _ _ (keep f2 hv) (fun _ => ?_)
  clear hKq Kq
  (try simp only [Act.put, List.setIfInBounds_toArray, List.set_cons_zero, List.set_cons_succ])
  refine wpAnyH_ready (rs := [6]) (by kernel_rfl) (by simp) ?_
  refine AllReadyH.cons (o := _) rfl (fun Kq hKq => ?_) AllReadyH.nil
  go_simp
  refine (string_w b g l (tx (Lib.itoa c.n)) V1 (HW.out.below hv) (by rw [tx_size]; omega)).mono ?_
  rintro e V2 ⟨rfl, hw2⟩
  obtain ⟨g2, hwr2, hf2, hn2⟩ := hw2
  have q2 := keep f2 hv
  try dsimp only
  refine hKq.out _ _ ((World.cell?_of_block (w := V1) (a := ⟨w.heap.size, 2, none⟩) (hf2.block w.heap.size (cell_lt q2) (fun hm => by have := hus _ hm; omega))).trans q2) (fun _ => ?_)
  clear hKq Kq
  (try simp only [Act.put, List.setIfInBounds_toArray, List.set_cons_zero, List.set_cons_succ])
  refine wpAnyH_done (by kernel_rfl) (NoPanic.normal ?_) _
  have hfz : Wrote b g (l ++ textT (Tm.mk c ts)) w V2 := by
    rw [HTX.out]
    exact (Wrote.after HB1.out (Wrote.after hv (⟨g2, hwr2, hf2, hn2⟩ : Wrote b g _ V1 V2) (fun k e => by have := hgl k e; omega)) hgl).as (by simp [tx])
  have HFZ := mkHid hfz
  clear hfz hwr2 hf2 hn2
  go_wp2_with fail
  go_end0
  exact ⟨rfl, HFZ.out⟩
set_option maxRecDepth 100000 in
set_option maxHeartbeats 8000000 in
theorem term_minus {B N : Nat} (HT : TermW B N) (hN2 : N + 1 ≤ 200) (c : Cel) (ts : List Tm) (b : Nat) (g : Option Nat) (l : List UInt8) (a : Option Addr) (cap : Nat) (w : World) (ht : (Tm.mk c ts).ok) (hN : (Tm.mk c ts).flat.length ≤ N + 1) (hlen : (l ++ textT (Tm.mk c ts)).length ≤ 1000000000) (h : Wr b g l w) (hB : B ≤ b) (hgB : ∀ k, g = some k → B ≤ k) (hp : PowAt B w) (hr : Row (veil (wus b g) w) a cap (Tm.mk c ts).flat) (hk : c.k = 3) (hs : c.s.size ≤ 12) (hi : infixB c = false) (hm : isC c [45] 1 = true) :
    Calls Tryd.prog 57 #[.pointer (some ⟨b, 0, none⟩), .slice a (Tm.mk c ts).flat.length cap] w fun e w' => e = .returned (.tuple #[]) ∧ Wrote b g (l ++ textT (Tm.mk c ts)) w w' := by
  have h0 := flat_pos (Tm.mk c ts)
  have hle := hr.le
  have hmx := hr.max
  have hbl := h.lt
  have hgl := h.ltg
  have hus : ∀ k ∈ wus b g, k < w.heap.size := fun k hk => (mem_wus.1 hk).elim (fun e => by rw [e]; exact hbl) (hgl k)
  have hl1 : l.length + (textT (Tm.mk c ts)).length ≤ 1000000000 := by rwa [List.length_append] at hlen
  obtain ⟨bC, off, rfl, hbC, hat⟩ := hr.cases.resolve_left (fun e => by simp [e] at h0)
  obtain ⟨c0, c1, c2, hf⟩ := cel_at hat (Below.refl _ _) h0
  rw [flat_hd _ h0] at c0 c1 c2 hf
  simp only [Nat.zero_mul, Nat.add_zero] at c0 c1 c2
  replace c0 := (veil_cell c0).2
  replace c1 := (veil_cell c1).2
  replace c2 := (veil_cell c2).2
  replace c0 : w.cell? ⟨bC, off, none⟩ = some (.int .i64 c.k) := c0
  replace c2 : w.cell? ⟨bC, off + 2, none⟩ = some (.int .i64 c.n) := c2
  replace c0 : w.cell? ⟨bC, off, none⟩ = some (.int .i64 c.k) := c0
  replace c1 : w.cell? ⟨bC, off + 1, none⟩ = some (.string c.s) := c1
  replace c2 : w.cell? ⟨bC, off + 2, none⟩ = some (.int .i64 c.n) := c2
  have hb1 : Below w.heap.size w (w.alloc (.cells #[.int .i64 c.k, .string c.s, .int .i64 c.n] 62)) := (Below.refl _ _).new _
  have f0 : (w.alloc (.cells #[.int .i64 c.k, .string c.s, .int .i64 c.n] 62)).cell? ⟨w.heap.size, 0, none⟩ = some (.int .i64 c.k) := World.cell?_alloc_at _ _ _ 0 rfl
  have f1 : (w.alloc (.cells #[.int .i64 c.k, .string c.s, .int .i64 c.n] 62)).cell? ⟨w.heap.size, 1, none⟩ = some (.string c.s) := World.cell?_alloc_at _ _ _ 1 rfl
  have f2 : (w.alloc (.cells #[.int .i64 c.k, .string c.s, .int .i64 c.n] 62)).cell? ⟨w.heap.size, 2, none⟩ = some (.int .i64 c.n) := World.cell?_alloc_at _ _ _ 2 rfl
  have y1 : decide ((0 : Int) < (((Tm.mk c ts).flat.length : Nat) : Int)) = true := decide_eq_true (by omega)
  have y2 : decide (0 < (Tm.mk c ts).flat.length) = true := decide_eq_true (by omega)
  have HW := mkHid (h.below hb1)
  have HP := mkHid (hp.below hb1)
  have HR1 : Hid (Row (veil (wus b g) (w.alloc (.cells #[.int .i64 c.k, .string c.s, .int .i64 c.n] 62))) (some ⟨bC, off, none⟩) cap (Tm.mk c ts).flat) := hr.keeps (veil_keepsK (Keeps.of hb1))
  have HB1 := mkHid hb1
  have HOK := mkHid ht
  have htx : textT (Tm.mk c ts) = 45 :: 40 :: (sepL [] (textsT ts) ++ [41]) := text_minus hk hi hm
  have HTX := mkHid htx
  rw [htx] at hl1
  clear htx
  have k1 : (c.k == 1) = false := by simp [hk]
  have k2 : (c.k == 2) = false := by simp [hk]
  have k3 : decide (c.k = 1) = false := by simp [hk]
  have k4 : decide (c.k = 2) = false := by simp [hk]
  have hs1 : (w.alloc (.cells #[.int .i64 c.k, .string c.s, .int .i64 c.n] 62)).heap.size = w.heap.size + 1 := by simp
  have hpf : partsL (Tm.mk c ts).flat = ts.map Tm.flat := parts_flat ht
  have hRi := right_flat ht (by omega)
  have hsm : ∀ u ∈ ts, u.flat.length ≤ N := fun u hu => by have := flat_arg_lt (t := Tm.mk c ts) (u := u) hu; omega
  have hoks : ∀ u ∈ ts, u.ok := oks_mem ((ok_iff _).1 ht).2.2
  have HPF := mkHid hpf
  have HRI := mkHid hRi
  have HSM := mkHid hsm
  have HOKS := mkHid hoks
  have HT' := mkHid HT
  have HK := mkHid hk
  clear hpf hRi hsm hoks HT hk
  clear h hp hr hat hbC hlen hb1 ht
  go_enter Tryd.func57, Tryd.ntmps57
  go_wp2_with fail
  refine (infix_any c _).mono ?_
  rintro e w2 ⟨rfl, hb2⟩
  rw [hi]
  generalize w.alloc (.cells #[.int .i64 c.k, .string c.s, .int .i64 c.n] 62) = w1 at *
  have hb12 := HB1.out.then hb2
  have hw2 := HW.out.below hb2
  have hp2 := HP.out.below hb2
  have hr2 := HR1.out.keeps (veil_keepsK (us := wus b g) (Keeps.of hb2))
  replace f0 := keep f0 hb2
  replace f1 := keep f1 hb2
  replace f2 := keep f2 hb2
  clear c0 c1 c2 hb2 HB1 HW HP HR1 hi
  have hq0 : ∀ W, (binOp .eql 62 (.agg #[.int .i64 c.k, .string c.s, .int .i64 c.n]) (.agg #[.int .i64 3, .string ⟨#[45]⟩, .int .i64 1])).run Tryd.prog W = .ok (.bool true) W := fun W => by
    have h1 := run_eql_cel c ⟨3, ⟨#[45]⟩, 1⟩ W
    rwa [show decide (c = (⟨3, ⟨#[45]⟩, 1⟩ : Cel)) = true from (isC_iff c ⟨#[45]⟩ 1).trans hm] at h1
  have e0 := keepL f0
  have e1 := keepL f1
  have e2 := keepL f2
  go_wp2_with fail
  refine wp_region_calm (by kernel_rfl) (by kernel_rfl) ?_
  repeat (go_big_quiet_step (exact Calls.calm_of (pfun_any _ _ _)))
  refine wpQuiet_nil ?_
  rintro _ ⟨y0, rfl⟩
  have hy0 := y0.ok
  generalize y0.w' = v0 at *
  replace hb12 := hb12.then hy0
  replace hw2 := hw2.below hy0
  replace hp2 := hp2.below hy0
  replace hr2 := hr2.keeps (veil_keepsK (us := wus b g) (Keeps.of hy0))
  replace f0 := keep f0 hy0
  replace f1 := keep f1 hy0
  replace f2 := keep f2 hy0
  clear e0 e1 e2 hq0 hy0
  go_wp2_with fail
  refine (parts_newZ _ cap _ (Tm.mk c ts).flat (hr2.keeps (veil_keeps _ _)) HRI.out).mono ?_
  rintro e w8 ⟨a', cap', rfl, hnr, hb8⟩
  rw [HPF.out] at hnr ⊢
  rw [List.length_map]
  have hus8 : ∀ k ∈ wus b g, k < v0.heap.size := fun k hk => by have := hus k hk; have := hb12.size; omega
  have hr8 := Row.keeps hnr (under_veil hus8)
  replace hw2 := hw2.below hb8
  replace hp2 := hp2.below hb8
  replace hb12 := hb12.then hb8
  have HEN := mkHid (enclosed_w HT'.out b g l w8 hw2 hB hgB hp2 ts a' cap' hr8 HOKS.out HSM.out [45, 40] [] [41] (by simp at hl1 ⊢; omega))
  clear hr8 hnr hb8 hw2 hp2
  go_wp2_with fail
  refine HEN.out.mono ?_
  rintro e w9 ⟨rfl, hw9⟩
  have hfz : Wrote b g (l ++ textT (Tm.mk c ts)) w w9 := by rw [HTX.out]; exact (Wrote.after hb12 hw9 hgl).as (by simp)
  have HFZ := mkHid hfz
  clear hfz hw9
  go_wp2_with fail
  go_end0
  exact ⟨rfl, HFZ.out⟩
set_option maxRecDepth 100000 in
set_option maxHeartbeats 8000000 in
theorem term_nil {B N : Nat} (HT : TermW B N) (hN2 : N + 1 ≤ 200) (c : Cel) (ts : List Tm) (b : Nat) (g : Option Nat) (l : List UInt8) (a : Option Addr) (cap : Nat) (w : World) (ht : (Tm.mk c ts).ok) (hN : (Tm.mk c ts).flat.length ≤ N + 1) (hlen : (l ++ textT (Tm.mk c ts)).length ≤ 1000000000) (h : Wr b g l w) (hB : B ≤ b) (hgB : ∀ k, g = some k → B ≤ k) (hp : PowAt B w) (hr : Row (veil (wus b g) w) a cap (Tm.mk c ts).flat) (hk : c.k = 3) (hs : c.s.size ≤ 12) (hi : infixB c = false) (hm : isC c [45] 1 = false) (hn : isC c [91, 93] 0 = true) :
    Calls Tryd.prog 57 #[.pointer (some ⟨b, 0, none⟩), .slice a (Tm.mk c ts).flat.length cap] w fun e w' => e = .returned (.tuple #[]) ∧ Wrote b g (l ++ textT (Tm.mk c ts)) w w' := by
  have h0 := flat_pos (Tm.mk c ts)
  have hle := hr.le
  have hmx := hr.max
  have hbl := h.lt
  have hgl := h.ltg
  have hus : ∀ k ∈ wus b g, k < w.heap.size := fun k hk => (mem_wus.1 hk).elim (fun e => by rw [e]; exact hbl) (hgl k)
  have hl1 : l.length + (textT (Tm.mk c ts)).length ≤ 1000000000 := by rwa [List.length_append] at hlen
  obtain ⟨bC, off, rfl, hbC, hat⟩ := hr.cases.resolve_left (fun e => by simp [e] at h0)
  obtain ⟨c0, c1, c2, hf⟩ := cel_at hat (Below.refl _ _) h0
  rw [flat_hd _ h0] at c0 c1 c2 hf
  simp only [Nat.zero_mul, Nat.add_zero] at c0 c1 c2
  replace c0 := (veil_cell c0).2
  replace c1 := (veil_cell c1).2
  replace c2 := (veil_cell c2).2
  replace c0 : w.cell? ⟨bC, off, none⟩ = some (.int .i64 c.k) := c0
  replace c2 : w.cell? ⟨bC, off + 2, none⟩ = some (.int .i64 c.n) := c2
  replace c0 : w.cell? ⟨bC, off, none⟩ = some (.int .i64 c.k) := c0
  replace c1 : w.cell? ⟨bC, off + 1, none⟩ = some (.string c.s) := c1
  replace c2 : w.cell? ⟨bC, off + 2, none⟩ = some (.int .i64 c.n) := c2
  have hb1 : Below w.heap.size w (w.alloc (.cells #[.int .i64 c.k, .string c.s, .int .i64 c.n] 62)) := (Below.refl _ _).new _
  have f0 : (w.alloc (.cells #[.int .i64 c.k, .string c.s, .int .i64 c.n] 62)).cell? ⟨w.heap.size, 0, none⟩ = some (.int .i64 c.k) := World.cell?_alloc_at _ _ _ 0 rfl
  have f1 : (w.alloc (.cells #[.int .i64 c.k, .string c.s, .int .i64 c.n] 62)).cell? ⟨w.heap.size, 1, none⟩ = some (.string c.s) := World.cell?_alloc_at _ _ _ 1 rfl
  have f2 : (w.alloc (.cells #[.int .i64 c.k, .string c.s, .int .i64 c.n] 62)).cell? ⟨w.heap.size, 2, none⟩ = some (.int .i64 c.n) := World.cell?_alloc_at _ _ _ 2 rfl
  have y1 : decide ((0 : Int) < (((Tm.mk c ts).flat.length : Nat) : Int)) = true := decide_eq_true (by omega)
  have y2 : decide (0 < (Tm.mk c ts).flat.length) = true := decide_eq_true (by omega)
  have HW := mkHid (h.below hb1)
  have HP := mkHid (hp.below hb1)
  have HR1 : Hid (Row (veil (wus b g) (w.alloc (.cells #[.int .i64 c.k, .string c.s, .int .i64 c.n] 62))) (some ⟨bC, off, none⟩) cap (Tm.mk c ts).flat) := hr.keeps (veil_keepsK (Keeps.of hb1))
  have HB1 := mkHid hb1
  have HOK := mkHid ht
  have htx : textT (Tm.mk c ts) = [91, 93] := text_nil hk hi hm hn
  have HTX := mkHid htx
  rw [htx] at hl1
  clear htx
  have k1 : (c.k == 1) = false := by simp [hk]
  have k2 : (c.k == 2) = false := by simp [hk]
  have k3 : decide (c.k = 1) = false := by simp [hk]
  have k4 : decide (c.k = 2) = false := by simp [hk]
  have hs1 : (w.alloc (.cells #[.int .i64 c.k, .string c.s, .int .i64 c.n] 62)).heap.size = w.heap.size + 1 := by simp
  have hpf : partsL (Tm.mk c ts).flat = ts.map Tm.flat := parts_flat ht
  have hRi := right_flat ht (by omega)
  have hsm : ∀ u ∈ ts, u.flat.length ≤ N := fun u hu => by have := flat_arg_lt (t := Tm.mk c ts) (u := u) hu; omega
  have hoks : ∀ u ∈ ts, u.ok := oks_mem ((ok_iff _).1 ht).2.2
  have HPF := mkHid hpf
  have HRI := mkHid hRi
  have HSM := mkHid hsm
  have HOKS := mkHid hoks
  have HT' := mkHid HT
  have HK := mkHid hk
  clear hpf hRi hsm hoks HT hk
  clear h hp hr hat hbC hlen hb1 ht
  go_enter Tryd.func57, Tryd.ntmps57
  go_wp2_with fail
  refine (infix_any c _).mono ?_
  rintro e w2 ⟨rfl, hb2⟩
  rw [hi]
  generalize w.alloc (.cells #[.int .i64 c.k, .string c.s, .int .i64 c.n] 62) = w1 at *
  have hb12 := HB1.out.then hb2
  have hw2 := HW.out.below hb2
  have hp2 := HP.out.below hb2
  have hr2 := HR1.out.keeps (veil_keepsK (us := wus b g) (Keeps.of hb2))
  replace f0 := keep f0 hb2
  replace f1 := keep f1 hb2
  replace f2 := keep f2 hb2
  clear c0 c1 c2 hb2 HB1 HW HP HR1 hi
  have hq0 : ∀ W, (binOp .eql 62 (.agg #[.int .i64 c.k, .string c.s, .int .i64 c.n]) (.agg #[.int .i64 3, .string ⟨#[45]⟩, .int .i64 1])).run Tryd.prog W = .ok (.bool false) W := fun W => by
    have h1 := run_eql_cel c ⟨3, ⟨#[45]⟩, 1⟩ W
    rwa [show decide (c = (⟨3, ⟨#[45]⟩, 1⟩ : Cel)) = false from (isC_iff c ⟨#[45]⟩ 1).trans hm] at h1
  have e0 := keepL f0
  have e1 := keepL f1
  have e2 := keepL f2
  go_wp2_with fail
  refine wp_region_calm (by kernel_rfl) (by kernel_rfl) ?_
  repeat (go_big_quiet_step (exact Calls.calm_of (pfun_any _ _ _)))
  refine wpQuiet_nil ?_
  rintro _ ⟨y0, rfl⟩
  have hy0 := y0.ok
  generalize y0.w' = v0 at *
  replace hb12 := hb12.then hy0
  replace hw2 := hw2.below hy0
  replace hp2 := hp2.below hy0
  replace hr2 := hr2.keeps (veil_keepsK (us := wus b g) (Keeps.of hy0))
  replace f0 := keep f0 hy0
  replace f1 := keep f1 hy0
  replace f2 := keep f2 hy0
  clear e0 e1 e2 hq0 hy0
  have hq1 : ∀ W, (binOp .eql 62 (.agg #[.int .i64 c.k, .string c.s, .int .i64 c.n]) (.agg #[.int .i64 3, .string ⟨#[91, 93]⟩, .int .i64 0])).run Tryd.prog W = .ok (.bool true) W := fun W => by
    have h1 := run_eql_cel c ⟨3, ⟨#[91, 93]⟩, 0⟩ W
    rwa [show decide (c = (⟨3, ⟨#[91, 93]⟩, 0⟩ : Cel)) = true from (isC_iff c ⟨#[91, 93]⟩ 0).trans hn] at h1
  have e0 := keepL f0
  have e1 := keepL f1
  have e2 := keepL f2
  go_wp2_with fail
  refine wp_region_calm (by kernel_rfl) (by kernel_rfl) ?_
  repeat (go_big_quiet_step (exact Calls.calm_of (pfun_any _ _ _)))
  refine wpQuiet_nil ?_
  rintro _ ⟨y1, rfl⟩
  have hy1 := y1.ok
  generalize y1.w' = v1 at *
  replace hb12 := hb12.then hy1
  replace hw2 := hw2.below hy1
  replace hp2 := hp2.below hy1
  replace hr2 := hr2.keeps (veil_keepsK (us := wus b g) (Keeps.of hy1))
  replace f0 := keep f0 hy1
  replace f1 := keep f1 hy1
  replace f2 := keep f2 hy1
  clear e0 e1 e2 hq1 hy1
  go_wp2_with fail
  refine (string_w b g l (tx [91, 93]) _ hw2 (by rw [tx_size]; simp at hl1 ⊢; omega)).mono ?_
  rintro e w9 ⟨rfl, hw9⟩
  have hfz : Wrote b g (l ++ textT (Tm.mk c ts)) w w9 := by rw [HTX.out]; exact (Wrote.after hb12 hw9 hgl)
  have HFZ := mkHid hfz
  clear hfz hw9
  go_wp2_with fail
  go_end0
  exact ⟨rfl, HFZ.out⟩
set_option maxRecDepth 100000 in
set_option maxHeartbeats 8000000 in
theorem term_dot {B N : Nat} (HT : TermW B N) (hN2 : N + 1 ≤ 200) (c : Cel) (ts : List Tm) (b : Nat) (g : Option Nat) (l : List UInt8) (a : Option Addr) (cap : Nat) (w : World) (ht : (Tm.mk c ts).ok) (hN : (Tm.mk c ts).flat.length ≤ N + 1) (hlen : (l ++ textT (Tm.mk c ts)).length ≤ 1000000000) (h : Wr b g l w) (hB : B ≤ b) (hgB : ∀ k, g = some k → B ≤ k) (hp : PowAt B w) (hr : Row (veil (wus b g) w) a cap (Tm.mk c ts).flat) (hk : c.k = 3) (hs : c.s.size ≤ 12) (hi : infixB c = false) (hm : isC c [45] 1 = false) (hn : isC c [91, 93] 0 = false) (hd : isC c [46] 2 = true) :
    Calls Tryd.prog 57 #[.pointer (some ⟨b, 0, none⟩), .slice a (Tm.mk c ts).flat.length cap] w fun e w' => e = .returned (.tuple #[]) ∧ Wrote b g (l ++ textT (Tm.mk c ts)) w w' := by
  have h0 := flat_pos (Tm.mk c ts)
  have hle := hr.le
  have hmx := hr.max
  have hbl := h.lt
  have hgl := h.ltg
  have hus : ∀ k ∈ wus b g, k < w.heap.size := fun k hk => (mem_wus.1 hk).elim (fun e => by rw [e]; exact hbl) (hgl k)
  have hl1 : l.length + (textT (Tm.mk c ts)).length ≤ 1000000000 := by rwa [List.length_append] at hlen
  obtain ⟨bC, off, rfl, hbC, hat⟩ := hr.cases.resolve_left (fun e => by simp [e] at h0)
  obtain ⟨c0, c1, c2, hf⟩ := cel_at hat (Below.refl _ _) h0
  rw [flat_hd _ h0] at c0 c1 c2 hf
  simp only [Nat.zero_mul, Nat.add_zero] at c0 c1 c2
  replace c0 := (veil_cell c0).2
  replace c1 := (veil_cell c1).2
  replace c2 := (veil_cell c2).2
  replace c0 : w.cell? ⟨bC, off, none⟩ = some (.int .i64 c.k) := c0
  replace c2 : w.cell? ⟨bC, off + 2, none⟩ = some (.int .i64 c.n) := c2
  replace c0 : w.cell? ⟨bC, off, none⟩ = some (.int .i64 c.k) := c0
  replace c1 : w.cell? ⟨bC, off + 1, none⟩ = some (.string c.s) := c1
  replace c2 : w.cell? ⟨bC, off + 2, none⟩ = some (.int .i64 c.n) := c2
  have hb1 : Below w.heap.size w (w.alloc (.cells #[.int .i64 c.k, .string c.s, .int .i64 c.n] 62)) := (Below.refl _ _).new _
  have f0 : (w.alloc (.cells #[.int .i64 c.k, .string c.s, .int .i64 c.n] 62)).cell? ⟨w.heap.size, 0, none⟩ = some (.int .i64 c.k) := World.cell?_alloc_at _ _ _ 0 rfl
  have f1 : (w.alloc (.cells #[.int .i64 c.k, .string c.s, .int .i64 c.n] 62)).cell? ⟨w.heap.size, 1, none⟩ = some (.string c.s) := World.cell?_alloc_at _ _ _ 1 rfl
  have f2 : (w.alloc (.cells #[.int .i64 c.k, .string c.s, .int .i64 c.n] 62)).cell? ⟨w.heap.size, 2, none⟩ = some (.int .i64 c.n) := World.cell?_alloc_at _ _ _ 2 rfl
  have y1 : decide ((0 : Int) < (((Tm.mk c ts).flat.length : Nat) : Int)) = true := decide_eq_true (by omega)
  have y2 : decide (0 < (Tm.mk c ts).flat.length) = true := decide_eq_true (by omega)
  have HW := mkHid (h.below hb1)
  have HP := mkHid (hp.below hb1)
  have HR1 : Hid (Row (veil (wus b g) (w.alloc (.cells #[.int .i64 c.k, .string c.s, .int .i64 c.n] 62))) (some ⟨bC, off, none⟩) cap (Tm.mk c ts).flat) := hr.keeps (veil_keepsK (Keeps.of hb1))
  have HB1 := mkHid hb1
  have HOK := mkHid ht
  have htx : textT (Tm.mk c ts) = textT (Tm.mk c ts) := rfl
  have HTX := mkHid htx
  rw [htx] at hl1
  clear htx
  have k1 : (c.k == 1) = false := by simp [hk]
  have k2 : (c.k == 2) = false := by simp [hk]
  have k3 : decide (c.k = 1) = false := by simp [hk]
  have k4 : decide (c.k = 2) = false := by simp [hk]
  have hs1 : (w.alloc (.cells #[.int .i64 c.k, .string c.s, .int .i64 c.n] 62)).heap.size = w.heap.size + 1 := by simp
  have hpf : partsL (Tm.mk c ts).flat = ts.map Tm.flat := parts_flat ht
  have hRi := right_flat ht (by omega)
  have hsm : ∀ u ∈ ts, u.flat.length ≤ N := fun u hu => by have := flat_arg_lt (t := Tm.mk c ts) (u := u) hu; omega
  have hoks : ∀ u ∈ ts, u.ok := oks_mem ((ok_iff _).1 ht).2.2
  have HPF := mkHid hpf
  have HRI := mkHid hRi
  have HSM := mkHid hsm
  have HOKS := mkHid hoks
  have HT' := mkHid HT
  have HK := mkHid hk
  clear hpf hRi hsm hoks HT hk
  clear h hp hr hat hbC hlen hb1 ht
  go_enter Tryd.func57, Tryd.ntmps57
  go_wp2_with fail
  refine (infix_any c _).mono ?_
  rintro e w2 ⟨rfl, hb2⟩
  rw [hi]
  generalize w.alloc (.cells #[.int .i64 c.k, .string c.s, .int .i64 c.n] 62) = w1 at *
  have hb12 := HB1.out.then hb2
  have hw2 := HW.out.below hb2
  have hp2 := HP.out.below hb2
  have hr2 := HR1.out.keeps (veil_keepsK (us := wus b g) (Keeps.of hb2))
  replace f0 := keep f0 hb2
  replace f1 := keep f1 hb2
  replace f2 := keep f2 hb2
  clear c0 c1 c2 hb2 HB1 HW HP HR1 hi
  have hq0 : ∀ W, (binOp .eql 62 (.agg #[.int .i64 c.k, .string c.s, .int .i64 c.n]) (.agg #[.int .i64 3, .string ⟨#[45]⟩, .int .i64 1])).run Tryd.prog W = .ok (.bool false) W := fun W => by
    have h1 := run_eql_cel c ⟨3, ⟨#[45]⟩, 1⟩ W
    rwa [show decide (c = (⟨3, ⟨#[45]⟩, 1⟩ : Cel)) = false from (isC_iff c ⟨#[45]⟩ 1).trans hm] at h1
  have e0 := keepL f0
  have e1 := keepL f1
  have e2 := keepL f2
  go_wp2_with fail
  refine wp_region_calm (by kernel_rfl) (by kernel_rfl) ?_
  repeat (go_big_quiet_step (exact Calls.calm_of (pfun_any _ _ _)))
  refine wpQuiet_nil ?_
  rintro _ ⟨y0, rfl⟩
  have hy0 := y0.ok
  generalize y0.w' = v0 at *
  replace hb12 := hb12.then hy0
  replace hw2 := hw2.below hy0
  replace hp2 := hp2.below hy0
  replace hr2 := hr2.keeps (veil_keepsK (us := wus b g) (Keeps.of hy0))
  replace f0 := keep f0 hy0
  replace f1 := keep f1 hy0
  replace f2 := keep f2 hy0
  clear e0 e1 e2 hq0 hy0
  have hq1 : ∀ W, (binOp .eql 62 (.agg #[.int .i64 c.k, .string c.s, .int .i64 c.n]) (.agg #[.int .i64 3, .string ⟨#[91, 93]⟩, .int .i64 0])).run Tryd.prog W = .ok (.bool false) W := fun W => by
    have h1 := run_eql_cel c ⟨3, ⟨#[91, 93]⟩, 0⟩ W
    rwa [show decide (c = (⟨3, ⟨#[91, 93]⟩, 0⟩ : Cel)) = false from (isC_iff c ⟨#[91, 93]⟩ 0).trans hn] at h1
  have e0 := keepL f0
  have e1 := keepL f1
  have e2 := keepL f2
  go_wp2_with fail
  refine wp_region_calm (by kernel_rfl) (by kernel_rfl) ?_
  repeat (go_big_quiet_step (exact Calls.calm_of (pfun_any _ _ _)))
  refine wpQuiet_nil ?_
  rintro _ ⟨y1, rfl⟩
  have hy1 := y1.ok
  generalize y1.w' = v1 at *
  replace hb12 := hb12.then hy1
  replace hw2 := hw2.below hy1
  replace hp2 := hp2.below hy1
  replace hr2 := hr2.keeps (veil_keepsK (us := wus b g) (Keeps.of hy1))
  replace f0 := keep f0 hy1
  replace f1 := keep f1 hy1
  replace f2 := keep f2 hy1
  clear e0 e1 e2 hq1 hy1
  have hq2 : ∀ W, (binOp .eql 62 (.agg #[.int .i64 c.k, .string c.s, .int .i64 c.n]) (.agg #[.int .i64 3, .string ⟨#[46]⟩, .int .i64 2])).run Tryd.prog W = .ok (.bool true) W := fun W => by
    have h1 := run_eql_cel c ⟨3, ⟨#[46]⟩, 2⟩ W
    rwa [show decide (c = (⟨3, ⟨#[46]⟩, 2⟩ : Cel)) = true from (isC_iff c ⟨#[46]⟩ 2).trans hd] at h1
  have e0 := keepL f0
  have e1 := keepL f1
  have e2 := keepL f2
  go_wp2_with fail
  refine wp_region_calm (by kernel_rfl) (by kernel_rfl) ?_
  repeat (go_big_quiet_step (exact Calls.calm_of (pfun_any _ _ _)))
  refine wpQuiet_nil ?_
  rintro _ ⟨y2, rfl⟩
  have hy2 := y2.ok
  generalize y2.w' = v2 at *
  replace hb12 := hb12.then hy2
  replace hw2 := hw2.below hy2
  replace hp2 := hp2.below hy2
  replace hr2 := hr2.keeps (veil_keepsK (us := wus b g) (Keeps.of hy2))
  replace f0 := keep f0 hy2
  replace f1 := keep f1 hy2
  replace f2 := keep f2 hy2
  clear e0 e1 e2 hq2 hy2
  have HLI := mkHid (list_w HT'.out (Tm.mk c ts) HOK.out (by omega) hN hd b g l _ hw2 hB hgB hp2 _ cap hr2 (by rw [List.length_append]; exact hl1))
  clear hr2 hw2 hp2
  go_wp2_with fail
  refine HLI.out.mono ?_
  rintro e w9 ⟨rfl, hw9⟩
  have hfz : Wrote b g (l ++ textT (Tm.mk c ts)) w w9 := by exact (Wrote.after hb12 hw9 hgl)
  have HFZ := mkHid hfz
  clear hfz hw9
  go_wp2_with fail
  go_end0
  exact ⟨rfl, HFZ.out⟩
set_option maxRecDepth 100000 in
set_option maxHeartbeats 8000000 in
theorem term_plain {B N : Nat} (HT : TermW B N) (hN2 : N + 1 ≤ 200) (c : Cel) (ts : List Tm) (b : Nat) (g : Option Nat) (l : List UInt8) (a : Option Addr) (cap : Nat) (w : World) (ht : (Tm.mk c ts).ok) (hN : (Tm.mk c ts).flat.length ≤ N + 1) (hlen : (l ++ textT (Tm.mk c ts)).length ≤ 1000000000) (h : Wr b g l w) (hB : B ≤ b) (hgB : ∀ k, g = some k → B ≤ k) (hp : PowAt B w) (hr : Row (veil (wus b g) w) a cap (Tm.mk c ts).flat) (hk : c.k = 3) (hs : c.s.size ≤ 12) (hi : infixB c = false) (hm : isC c [45] 1 = false) (hn : isC c [91, 93] 0 = false) (hd : isC c [46] 2 = false) :
    Calls Tryd.prog 57 #[.pointer (some ⟨b, 0, none⟩), .slice a (Tm.mk c ts).flat.length cap] w fun e w' => e = .returned (.tuple #[]) ∧ Wrote b g (l ++ textT (Tm.mk c ts)) w w' := by
  have h0 := flat_pos (Tm.mk c ts)
  have hle := hr.le
  have hmx := hr.max
  have hbl := h.lt
  have hgl := h.ltg
  have hus : ∀ k ∈ wus b g, k < w.heap.size := fun k hk => (mem_wus.1 hk).elim (fun e => by rw [e]; exact hbl) (hgl k)
  have hl1 : l.length + (textT (Tm.mk c ts)).length ≤ 1000000000 := by rwa [List.length_append] at hlen
  obtain ⟨bC, off, rfl, hbC, hat⟩ := hr.cases.resolve_left (fun e => by simp [e] at h0)
  obtain ⟨c0, c1, c2, hf⟩ := cel_at hat (Below.refl _ _) h0
  rw [flat_hd _ h0] at c0 c1 c2 hf
  simp only [Nat.zero_mul, Nat.add_zero] at c0 c1 c2
  replace c0 := (veil_cell c0).2
  replace c1 := (veil_cell c1).2
  replace c2 := (veil_cell c2).2
  replace c0 : w.cell? ⟨bC, off, none⟩ = some (.int .i64 c.k) := c0
  replace c2 : w.cell? ⟨bC, off + 2, none⟩ = some (.int .i64 c.n) := c2
  replace c0 : w.cell? ⟨bC, off, none⟩ = some (.int .i64 c.k) := c0
  replace c1 : w.cell? ⟨bC, off + 1, none⟩ = some (.string c.s) := c1
  replace c2 : w.cell? ⟨bC, off + 2, none⟩ = some (.int .i64 c.n) := c2
  have hb1 : Below w.heap.size w (w.alloc (.cells #[.int .i64 c.k, .string c.s, .int .i64 c.n] 62)) := (Below.refl _ _).new _
  have f0 : (w.alloc (.cells #[.int .i64 c.k, .string c.s, .int .i64 c.n] 62)).cell? ⟨w.heap.size, 0, none⟩ = some (.int .i64 c.k) := World.cell?_alloc_at _ _ _ 0 rfl
  have f1 : (w.alloc (.cells #[.int .i64 c.k, .string c.s, .int .i64 c.n] 62)).cell? ⟨w.heap.size, 1, none⟩ = some (.string c.s) := World.cell?_alloc_at _ _ _ 1 rfl
  have f2 : (w.alloc (.cells #[.int .i64 c.k, .string c.s, .int .i64 c.n] 62)).cell? ⟨w.heap.size, 2, none⟩ = some (.int .i64 c.n) := World.cell?_alloc_at _ _ _ 2 rfl
  have y1 : decide ((0 : Int) < (((Tm.mk c ts).flat.length : Nat) : Int)) = true := decide_eq_true (by omega)
  have y2 : decide (0 < (Tm.mk c ts).flat.length) = true := decide_eq_true (by omega)
  have HW := mkHid (h.below hb1)
  have HP := mkHid (hp.below hb1)
  have HR1 : Hid (Row (veil (wus b g) (w.alloc (.cells #[.int .i64 c.k, .string c.s, .int .i64 c.n] 62))) (some ⟨bC, off, none⟩) cap (Tm.mk c ts).flat) := hr.keeps (veil_keepsK (Keeps.of hb1))
  have HB1 := mkHid hb1
  have HOK := mkHid ht
  have htx : textT (Tm.mk c ts) = plainT (Tm.mk c ts) := text_plain hk hi hm hn hd
  have HTX := mkHid htx
  rw [htx] at hl1
  clear htx
  have k1 : (c.k == 1) = false := by simp [hk]
  have k2 : (c.k == 2) = false := by simp [hk]
  have k3 : decide (c.k = 1) = false := by simp [hk]
  have k4 : decide (c.k = 2) = false := by simp [hk]
  have hs1 : (w.alloc (.cells #[.int .i64 c.k, .string c.s, .int .i64 c.n] 62)).heap.size = w.heap.size + 1 := by simp
  have hpf : partsL (Tm.mk c ts).flat = ts.map Tm.flat := parts_flat ht
  have hRi := right_flat ht (by omega)
  have hsm : ∀ u ∈ ts, u.flat.length ≤ N := fun u hu => by have := flat_arg_lt (t := Tm.mk c ts) (u := u) hu; omega
  have hoks : ∀ u ∈ ts, u.ok := oks_mem ((ok_iff _).1 ht).2.2
  have HPF := mkHid hpf
  have HRI := mkHid hRi
  have HSM := mkHid hsm
  have HOKS := mkHid hoks
  have HT' := mkHid HT
  have HK := mkHid hk
  clear hpf hRi hsm hoks HT hk
  clear h hp hr hat hbC hlen hb1 ht
  go_enter Tryd.func57, Tryd.ntmps57
  go_wp2_with fail
  refine (infix_any c _).mono ?_
  rintro e w2 ⟨rfl, hb2⟩
  rw [hi]
  generalize w.alloc (.cells #[.int .i64 c.k, .string c.s, .int .i64 c.n] 62) = w1 at *
  have hb12 := HB1.out.then hb2
  have hw2 := HW.out.below hb2
  have hp2 := HP.out.below hb2
  have hr2 := HR1.out.keeps (veil_keepsK (us := wus b g) (Keeps.of hb2))
  replace f0 := keep f0 hb2
  replace f1 := keep f1 hb2
  replace f2 := keep f2 hb2
  clear c0 c1 c2 hb2 HB1 HW HP HR1 hi
  have hq0 : ∀ W, (binOp .eql 62 (.agg #[.int .i64 c.k, .string c.s, .int .i64 c.n]) (.agg #[.int .i64 3, .string ⟨#[45]⟩, .int .i64 1])).run Tryd.prog W = .ok (.bool false) W := fun W => by
    have h1 := run_eql_cel c ⟨3, ⟨#[45]⟩, 1⟩ W
    rwa [show decide (c = (⟨3, ⟨#[45]⟩, 1⟩ : Cel)) = false from (isC_iff c ⟨#[45]⟩ 1).trans hm] at h1
  have e0 := keepL f0
  have e1 := keepL f1
  have e2 := keepL f2
  go_wp2_with fail
  refine wp_region_calm (by kernel_rfl) (by kernel_rfl) ?_
  repeat (go_big_quiet_step (exact Calls.calm_of (pfun_any _ _ _)))
  refine wpQuiet_nil ?_
  rintro _ ⟨y0, rfl⟩
  have hy0 := y0.ok
  generalize y0.w' = v0 at *
  replace hb12 := hb12.then hy0
  replace hw2 := hw2.below hy0
  replace hp2 := hp2.below hy0
  replace hr2 := hr2.keeps (veil_keepsK (us := wus b g) (Keeps.of hy0))
  replace f0 := keep f0 hy0
  replace f1 := keep f1 hy0
  replace f2 := keep f2 hy0
  clear e0 e1 e2 hq0 hy0
  have hq1 : ∀ W, (binOp .eql 62 (.agg #[.int .i64 c.k, .string c.s, .int .i64 c.n]) (.agg #[.int .i64 3, .string ⟨#[91, 93]⟩, .int .i64 0])).run Tryd.prog W = .ok (.bool false) W := fun W => by
    have h1 := run_eql_cel c ⟨3, ⟨#[91, 93]⟩, 0⟩ W
    rwa [show decide (c = (⟨3, ⟨#[91, 93]⟩, 0⟩ : Cel)) = false from (isC_iff c ⟨#[91, 93]⟩ 0).trans hn] at h1
  have e0 := keepL f0
  have e1 := keepL f1
  have e2 := keepL f2
  go_wp2_with fail
  refine wp_region_calm (by kernel_rfl) (by kernel_rfl) ?_
  repeat (go_big_quiet_step (exact Calls.calm_of (pfun_any _ _ _)))
  refine wpQuiet_nil ?_
  rintro _ ⟨y1, rfl⟩
  have hy1 := y1.ok
  generalize y1.w' = v1 at *
  replace hb12 := hb12.then hy1
  replace hw2 := hw2.below hy1
  replace hp2 := hp2.below hy1
  replace hr2 := hr2.keeps (veil_keepsK (us := wus b g) (Keeps.of hy1))
  replace f0 := keep f0 hy1
  replace f1 := keep f1 hy1
  replace f2 := keep f2 hy1
  clear e0 e1 e2 hq1 hy1
  have hq2 : ∀ W, (binOp .eql 62 (.agg #[.int .i64 c.k, .string c.s, .int .i64 c.n]) (.agg #[.int .i64 3, .string ⟨#[46]⟩, .int .i64 2])).run Tryd.prog W = .ok (.bool false) W := fun W => by
    have h1 := run_eql_cel c ⟨3, ⟨#[46]⟩, 2⟩ W
    rwa [show decide (c = (⟨3, ⟨#[46]⟩, 2⟩ : Cel)) = false from (isC_iff c ⟨#[46]⟩ 2).trans hd] at h1
  have e0 := keepL f0
  have e1 := keepL f1
  have e2 := keepL f2
  go_wp2_with fail
  refine wp_region_calm (by kernel_rfl) (by kernel_rfl) ?_
  repeat (go_big_quiet_step (exact Calls.calm_of (pfun_any _ _ _)))
  refine wpQuiet_nil ?_
  rintro _ ⟨y2, rfl⟩
  have hy2 := y2.ok
  generalize y2.w' = v2 at *
  replace hb12 := hb12.then hy2
  replace hw2 := hw2.below hy2
  replace hp2 := hp2.below hy2
  replace hr2 := hr2.keeps (veil_keepsK (us := wus b g) (Keeps.of hy2))
  replace f0 := keep f0 hy2
  replace f1 := keep f1 hy2
  replace f2 := keep f2 hy2
  clear e0 e1 e2 hq2 hy2
  have HLI := mkHid (plain_w HT'.out (Tm.mk c ts) HOK.out (by omega) hN b g l _ hw2 hB hgB hp2 _ cap hr2 (show c.s.size ≤ 1000 by omega) (by rw [List.length_append]; exact hl1))
  clear hr2 hw2 hp2
  go_wp2_with fail
  refine HLI.out.mono ?_
  rintro e w9 ⟨rfl, hw9⟩
  have hfz : Wrote b g (l ++ textT (Tm.mk c ts)) w w9 := by rw [HTX.out]; exact (Wrote.after hb12 hw9 hgl)
  have HFZ := mkHid hfz
  clear hfz hw9
  go_wp2_with fail
  go_end0
  exact ⟨rfl, HFZ.out⟩
set_option maxRecDepth 100000 in
set_option maxHeartbeats 8000000 in
theorem term_infix {B N : Nat} (HT : TermW B N) (hN2 : N + 1 ≤ 200) (c : Cel) (ts : List Tm) (b : Nat) (g : Option Nat) (l : List UInt8) (a : Option Addr) (cap : Nat) (w : World) (ht : (Tm.mk c ts).ok) (hN : (Tm.mk c ts).flat.length ≤ N + 1) (hlen : (l ++ textT (Tm.mk c ts)).length ≤ 1000000000) (h : Wr b g l w) (hB : B ≤ b) (hgB : ∀ k, g = some k → B ≤ k) (hp : PowAt B w) (hr : Row (veil (wus b g) w) a cap (Tm.mk c ts).flat) (hk : c.k = 3) (hs : c.s.size ≤ 12) (hi : infixB c = true) :
    Calls Tryd.prog 57 #[.pointer (some ⟨b, 0, none⟩), .slice a (Tm.mk c ts).flat.length cap] w fun e w' => e = .returned (.tuple #[]) ∧ Wrote b g (l ++ textT (Tm.mk c ts)) w w' := by
  have h0 := flat_pos (Tm.mk c ts)
  have hle := hr.le
  have hmx := hr.max
  have hbl := h.lt
  have hgl := h.ltg
  have hus : ∀ k ∈ wus b g, k < w.heap.size := fun k hk => (mem_wus.1 hk).elim (fun e => by rw [e]; exact hbl) (hgl k)
  have hl1 : l.length + (textT (Tm.mk c ts)).length ≤ 1000000000 := by rwa [List.length_append] at hlen
  obtain ⟨bC, off, rfl, hbC, hat⟩ := hr.cases.resolve_left (fun e => by simp [e] at h0)
  obtain ⟨c0, c1, c2, hf⟩ := cel_at hat (Below.refl _ _) h0
  rw [flat_hd _ h0] at c0 c1 c2 hf
  simp only [Nat.zero_mul, Nat.add_zero] at c0 c1 c2
  replace c0 := (veil_cell c0).2
  replace c1 := (veil_cell c1).2
  replace c2 := (veil_cell c2).2
  replace c0 : w.cell? ⟨bC, off, none⟩ = some (.int .i64 c.k) := c0
  replace c2 : w.cell? ⟨bC, off + 2, none⟩ = some (.int .i64 c.n) := c2
  replace c0 : w.cell? ⟨bC, off, none⟩ = some (.int .i64 c.k) := c0
  replace c1 : w.cell? ⟨bC, off + 1, none⟩ = some (.string c.s) := c1
  replace c2 : w.cell? ⟨bC, off + 2, none⟩ = some (.int .i64 c.n) := c2
  have hb1 : Below w.heap.size w (w.alloc (.cells #[.int .i64 c.k, .string c.s, .int .i64 c.n] 62)) := (Below.refl _ _).new _
  have f0 : (w.alloc (.cells #[.int .i64 c.k, .string c.s, .int .i64 c.n] 62)).cell? ⟨w.heap.size, 0, none⟩ = some (.int .i64 c.k) := World.cell?_alloc_at _ _ _ 0 rfl
  have f1 : (w.alloc (.cells #[.int .i64 c.k, .string c.s, .int .i64 c.n] 62)).cell? ⟨w.heap.size, 1, none⟩ = some (.string c.s) := World.cell?_alloc_at _ _ _ 1 rfl
  have f2 : (w.alloc (.cells #[.int .i64 c.k, .string c.s, .int .i64 c.n] 62)).cell? ⟨w.heap.size, 2, none⟩ = some (.int .i64 c.n) := World.cell?_alloc_at _ _ _ 2 rfl
  have y1 : decide ((0 : Int) < (((Tm.mk c ts).flat.length : Nat) : Int)) = true := decide_eq_true (by omega)
  have y2 : decide (0 < (Tm.mk c ts).flat.length) = true := decide_eq_true (by omega)
  have HW := mkHid (h.below hb1)
  have HP := mkHid (hp.below hb1)
  have HR1 : Hid (Row (veil (wus b g) (w.alloc (.cells #[.int .i64 c.k, .string c.s, .int .i64 c.n] 62))) (some ⟨bC, off, none⟩) cap (Tm.mk c ts).flat) := hr.keeps (veil_keepsK (Keeps.of hb1))
  have HB1 := mkHid hb1
  have HOK := mkHid ht
  have htx : textT (Tm.mk c ts) = 40 :: (sepL (32 :: c.s.data.toList ++ [32]) (textsT ts) ++ [41]) := text_infix hk hi
  have HTX := mkHid htx
  rw [htx] at hl1
  clear htx
  have k1 : (c.k == 1) = false := by simp [hk]
  have k2 : (c.k == 2) = false := by simp [hk]
  have k3 : decide (c.k = 1) = false := by simp [hk]
  have k4 : decide (c.k = 2) = false := by simp [hk]
  have hs1 : (w.alloc (.cells #[.int .i64 c.k, .string c.s, .int .i64 c.n] 62)).heap.size = w.heap.size + 1 := by simp
  have hpf : partsL (Tm.mk c ts).flat = ts.map Tm.flat := parts_flat ht
  have hRi := right_flat ht (by omega)
  have hsm : ∀ u ∈ ts, u.flat.length ≤ N := fun u hu => by have := flat_arg_lt (t := Tm.mk c ts) (u := u) hu; omega
  have hoks : ∀ u ∈ ts, u.ok := oks_mem ((ok_iff _).1 ht).2.2
  have HPF := mkHid hpf
  have HRI := mkHid hRi
  have HSM := mkHid hsm
  have HOKS := mkHid hoks
  have HT' := mkHid HT
  have HK := mkHid hk
  clear hpf hRi hsm hoks HT hk
  clear h hp hr hat hbC hlen hb1 ht
  go_enter Tryd.func57, Tryd.ntmps57
  go_wp2_with fail
  refine (infix_any c _).mono ?_
  rintro e w2 ⟨rfl, hb2⟩
  rw [hi]
  generalize w.alloc (.cells #[.int .i64 c.k, .string c.s, .int .i64 c.n] 62) = w1 at *
  have hb12 := HB1.out.then hb2
  have hw2 := HW.out.below hb2
  have hp2 := HP.out.below hb2
  have hr2 := HR1.out.keeps (veil_keepsK (us := wus b g) (Keeps.of hb2))
  replace f0 := keep f0 hb2
  replace f1 := keep f1 hb2
  replace f2 := keep f2 hb2
  clear c0 c1 c2 hb2 HB1 HW HP HR1 hi
  have hcd := (Below.refl w2.heap.size w2).drew
  have hr2d := hr2.keeps (veil_keepsK (us := wus b g) (Keeps.of hcd))
  have HSQ : Hid (∀ W', Below w2.heap.size w2 W' → W'.cell? ⟨w.heap.size, 1, none⟩ = some (.string c.s)) := fun W' h => keep f1 h
  have z1 : ¬ 9223372036854775807 < 1 + c.s.size := by omega
  have z2 : ¬ 9223372036854775807 < 1 + c.s.size + 1 := by omega
  go_wp2_with fail
  refine wp_region_noPanic ?_
  refine wp_region_held_drew (S := (fun w' : World => w'.cell? ⟨w.heap.size, 1, none⟩ = some (.string c.s))) (by kernel_rfl) (HSQ.out _ hcd) (fun hSd => ?_)
  refine wpAnyH_take (i := 0) (oi := _) (v := ?_) rfl (by kernel_rfl) (by kernel_rfl) (by kernel_rfl) (fun _ _ _ h => h) (Or.inl ⟨by rfl, ?_⟩) (by assumption) ?_
  rotate_left
  · (intro w' hSw; (try dsimp only at hSw); go_simp; try with_reducible rfl)
  (try simp only [Act.put, List.setIfInBounds_toArray, List.set_cons_zero, List.set_cons_succ])
  refine wpAnyH_take (i := 1) (oi := _) (v := ?_) rfl (by kernel_rfl) (by kernel_rfl) (by kernel_rfl) (fun _ _ _ h => h) (Or.inl ⟨by rfl, ?_⟩) (by assumption) ?_
  rotate_left
  · (intro w' hSw; (try dsimp only at hSw); go_simp; try with_reducible rfl)
  (try simp only [Act.put, List.setIfInBounds_toArray, List.set_cons_zero, List.set_cons_succ])
  refine wpAnyH_take (i := 3) (oi := _) (v := ?_) rfl (by kernel_rfl) (by kernel_rfl) (by kernel_rfl) (fun _ _ _ h => h) (Or.inl ⟨by rfl, ?_⟩) (by assumption) ?_
  rotate_left
  · (intro w' hSw; (try dsimp only at hSw); go_simp; try with_reducible rfl)
  (try simp only [Act.put, List.setIfInBounds_toArray, List.set_cons_zero, List.set_cons_succ])
  refine wpAnyH_take (i := 4) (oi := _) (v := ?_) rfl (by kernel_rfl) (by kernel_rfl) (by kernel_rfl) (fun _ _ _ h => h) (Or.inl ⟨by rfl, ?_⟩) (by assumption) ?_
  rotate_left
  · (intro w' hSw; (try dsimp only at hSw); go_simp; try with_reducible rfl)
  (try simp only [Act.put, List.setIfInBounds_toArray, List.set_cons_zero, List.set_cons_succ])
  refine wpAnyH_take (i := 5) (oi := _) (v := ?_) rfl (by kernel_rfl) (by kernel_rfl) (by kernel_rfl) (fun _ _ _ h => h) (Or.inl ⟨by rfl, ?_⟩) (by assumption) ?_
  rotate_left
  · (intro w' hSw; (try dsimp only at hSw); go_simp; try with_reducible rfl)
  (try simp only [Act.put, List.setIfInBounds_toArray, List.set_cons_zero, List.set_cons_succ])
  refine wpAnyH_take (i := 6) (oi := _) (v := ?_) rfl (by kernel_rfl) (by kernel_rfl) (by kernel_rfl) (fun _ _ _ h => h) (Or.inl ⟨by rfl, ?_⟩) (by assumption) ?_
  rotate_left
  · (intro w' hSw; (try dsimp only at hSw); go_simp; try with_reducible rfl)
  (try simp only [Act.put, List.setIfInBounds_toArray, List.set_cons_zero, List.set_cons_succ])
  refine wpAnyH_ready (rs := [2]) (by kernel_rfl) (by simp) ?_
  refine AllReadyH.cons (o := _) rfl (fun Kq hKq => ?_) AllReadyH.nil
  go_simp
  refine (parts_newZ _ cap _ (Tm.mk c ts).flat (hr2d.keeps (veil_keeps _ _)) HRI.out).mono ?_
  rintro e V1 ⟨a', cap', rfl, hnr, hv1⟩
  rw [HPF.out] at hnr ⊢
  rw [List.length_map]
  have hv := hcd.then hv1
  have hus8 : ∀ k ∈ wus b g, k < w2.drew.heap.size := fun k hk => by have h1 := hus k hk; have h2 := hb12.size; have h3 : w2.drew.heap.size = w2.heap.size := rfl; omega
  have hr8 := Row.keeps hnr (under_veil hus8)
  have HEN := mkHid (enclosed_w HT'.out b g l V1 (hw2.below hv) hB hgB (hp2.below hv) ts a' cap' hr8 HOKS.out HSM.out [40] (32 :: c.s.data.toList ++ [32]) [41] (by simp at hl1 ⊢; omega))
  try dsimp only
  refine hKq.out _ _ (HSQ.out _ hv) (fun _ => ?_)
  clear hKq Kq
  (try simp only [Act.put, List.setIfInBounds_toArray, List.set_cons_zero, List.set_cons_succ])
  refine wpAnyH_ready (rs := [7]) (by kernel_rfl) (by simp) ?_
  refine AllReadyH.cons (o := _) rfl (fun Kq hKq => ?_) AllReadyH.nil
  go_simp
  try rw [tx_sign]
  refine HEN.out.mono ?_
  rintro e V2 ⟨rfl, g2, hwr2, hf2, hn2⟩
  have q2 := keep f1 hv
  try dsimp only
  refine hKq.out _ _ ((World.cell?_of_block (w := V1) (a := ⟨w.heap.size, 1, none⟩) (hf2.block w.heap.size (cell_lt q2) (fun hm => by have := hus _ hm; omega))).trans q2) (fun _ => ?_)
  clear hKq Kq
  (try simp only [Act.put, List.setIfInBounds_toArray, List.set_cons_zero, List.set_cons_succ])
  refine wpAnyH_done (by kernel_rfl) (NoPanic.normal ?_) _
  have hw9 : Wrote b g (l ++ ([40] ++ (sepL (32 :: c.s.data.toList ++ [32]) (textsT ts) ++ [41]))) w V2 := Wrote.after hb12 (Wrote.after hv ⟨g2, hwr2, hf2, hn2⟩ (fun k e => by have h1 := hgl k e; have h2 := hb12.size; omega)) hgl
  have hfz : Wrote b g (l ++ textT (Tm.mk c ts)) w V2 := by rw [HTX.out]; exact hw9.as (by simp)
  have HFZ := mkHid hfz
  clear hfz hw9 hwr2 hf2 hn2
  go_wp2_with fail
  go_end0
  exact ⟨rfl, HFZ.out⟩
end Go.Proofs.YtabjghmfjoefpaaDoor
set_option linter.unusedVariables false
namespace Go.Proofs.YtabjghmfjoefpaaDoor
open Go.RowKit

/-! ### the program's terms, whole -/
theorem termW_all (B : Nat) : ∀ N, N ≤ 200 → TermW B N
  | 0, _ => fun t b g l a cap w _ hN => by have := flat_pos t; omega
  | N + 1, h200 => by
    have HT := termW_all B N (by omega)
    intro t b g l a cap w ht hN hlen h hB hgB hp hr
    obtain ⟨c, ts⟩ := t
    rcases cell_kind ht.1 with ⟨hk, h1, h2⟩ | ⟨hk, h1, h2⟩ | ⟨hk, hs, h1, h2⟩
    · exact term_var HT h200 c ts b g l a cap w ht hN hlen h hB hgB hp hr hk c.n.toNat (by omega) (by omega)
    · exact term_int HT h200 c ts b g l a cap w ht hN hlen h hB hgB hp hr hk h1 h2
    · cases hi : infixB c with
      | true => exact term_infix HT h200 c ts b g l a cap w ht hN hlen h hB hgB hp hr hk hs hi
      | false =>
        cases hm : isC c [45] 1 with
        | true => exact term_minus HT h200 c ts b g l a cap w ht hN hlen h hB hgB hp hr hk hs hi hm
        | false =>
          cases hn : isC c [91, 93] 0 with
          | true => exact term_nil HT h200 c ts b g l a cap w ht hN hlen h hB hgB hp hr hk hs hi hm hn
          | false =>
            cases hd : isC c [46] 2 with
            | true => exact term_dot HT h200 c ts b g l a cap w ht hN hlen h hB hgB hp hr hk hs hi hm hn hd
            | false => exact term_plain HT h200 c ts b g l a cap w ht hN hlen h hB hgB hp hr hk hs hi hm hn hd

set_option maxHeartbeats 800000 in
theorem row_w (B : Nat) (t : Tm) (ht : t.ok) (h200 : t.flat.length ≤ 200) (b : Nat) (g : Option Nat) (l : List UInt8) (a : Option Addr) (cap : Nat) (w : World) (hlen : (l ++ textT t).length ≤ 1000000000) (h : Wr b g l w) (hB : B ≤ b) (hgB : ∀ k, g = some k → B ≤ k) (hp : PowAt B w) (hr : Row (veil (wus b g) w) a cap t.flat) :
    Calls Tryd.prog 36 #[.pointer (some ⟨b, 0, none⟩), .slice a t.flat.length cap] w fun e w' => e = .returned (.tuple #[]) ∧ Wrote b g (l ++ textT t) w w' := by
  have hR := right_flat ht h200
  have HR := mkHid hR
  have HRO := mkHid hr
  have HW := mkHid h
  have HP := mkHid hp
  have HT := mkHid ht
  have hgl := h.ltg
  clear hR hr h hp ht
  go_enter Tryd.func36, Tryd.ntmps36
  go_wp2_with fail
  refine (right_any a cap w t.flat (HRO.out.keeps (veil_keeps _ _))).mono ?_
  rintro e w1 ⟨rfl, hb1⟩
  rw [HR.out]
  have hterm := termW_all B 200 (Nat.le_refl _) t b g l a cap w1 HT.out h200 hlen (HW.out.below hb1) hB hgB (HP.out.below hb1) (HRO.out.keeps (veil_keepsK (Keeps.of hb1)))
  have HTE := mkHid hterm
  have HB1 := mkHid hb1
  clear hterm hb1
  go_wp2_with fail
  refine HTE.out.mono ?_
  rintro e w2 ⟨rfl, hw2⟩
  have HF := mkHid (Wrote.after HB1.out hw2 hgl)
  clear hw2
  go_wp2_with fail
  go_end0
  exact ⟨rfl, HF.out⟩

set_option maxHeartbeats 800000 in
/-- print.Term -/
theorem pterm_any (t : Tm) (ht : t.ok) (h200 : t.flat.length ≤ 200) (a : Option Addr) (cap : Nat) (w : World) (hlen : (textT t).length ≤ 1000000000) (hp : Pow w) (hr : Row w a cap t.flat) :
    Calls Tryd.prog 16 #[.slice a t.flat.length cap] w fun e w' => e = .returned (.string (tx (textT t))) ∧ Below w.heap.size w w' := by
  have hrow := row_w w.heap.size t ht h200 w.heap.size none [] a cap (w0 w) (by simpa using hlen) (Wr.new w) (Nat.le_refl _) bad_none (hp.at.below ((Below.refl _ _).new _)) (hr.keeps (fun b o v hc => veil_of (fun e => by have := cell_lt hc; simp [wus] at e; omega) (keep hc ((Below.refl w.heap.size w).new _))))
  rw [List.nil_append] at hrow
  have HROW := mkHid hrow
  clear hrow hr hp ht
  go_enter Tryd.func16, Tryd.ntmps16
  go_wp2_with fail
  refine HROW.out.mono ?_
  rintro e w1 ⟨rfl, hw1⟩
  obtain ⟨g, hg1, hg2, hb1⟩ := new_own rfl hw1
  have hst : Calls Tryd.prog 35 #[.pointer (some ⟨w.heap.size, 0, none⟩)] w1 fun e w' => e = .returned (.string (tx (textT t))) ∧ Below w.heap.size w1 w' := str_w w.heap.size w.heap.size g (textT t) w1 hg1 (Nat.le_refl _) hg2 hb1.size
  have HST := mkHid hst
  have HB1 := mkHid hb1
  clear hst hb1 hw1 hg1 hg2
  go_wp2_with fail
  refine HST.out.mono ?_
  rintro e w2 ⟨rfl, hb2⟩
  go_wp2_with fail
  go_ret
  exact ⟨rfl, HB1.out.trans hb2⟩
end Go.Proofs.YtabjghmfjoefpaaDoor
set_option linter.unusedVariables false
namespace Go.Proofs.YtabjghmfjoefpaaDoor
open Go.RowKit

/-- a literal's text -/
def litT (neg : Bool) (t : Tm) : List UInt8 := (if neg then [92, 43, 32] else []) ++ textT t

set_option maxHeartbeats 1600000 in
theorem literal_w (B : Nat) (neg : Bool) (t : Tm) (ht : t.ok) (h200 : t.flat.length ≤ 200) (b : Nat) (g : Option Nat) (l : List UInt8) (a : Option Addr) (cap : Nat) (w : World) (hlen : (l ++ litT neg t).length ≤ 1000000000) (h : Wr b g l w) (hB : B ≤ b) (hgB : ∀ k, g = some k → B ≤ k) (hp : PowAt B w) (hr : Row (veil (wus b g) w) a cap t.flat) :
    Calls Tryd.prog 55 #[.pointer (some ⟨b, 0, none⟩), .agg #[.bool neg, .slice a t.flat.length cap]] w fun e w' => e = .returned (.tuple #[]) ∧ Wrote b g (l ++ litT neg t) w w' := by
  have hbl := h.lt
  have hgl := h.ltg
  have hus : ∀ k ∈ wus b g, k < w.heap.size := fun k hk => (mem_wus.1 hk).elim (fun e => by rw [e]; exact hbl) (hgl k)
  have hBw := hp.le
  have hb1 : Below w.heap.size w (w.alloc (.cells #[.bool neg, .slice a t.flat.length cap] 49)) := (Below.refl _ _).new _
  have f0 : (w.alloc (.cells #[.bool neg, .slice a t.flat.length cap] 49)).cell? ⟨w.heap.size, 0, none⟩ = some (.bool neg) := World.cell?_alloc_at _ _ _ 0 rfl
  have f1 : (w.alloc (.cells #[.bool neg, .slice a t.flat.length cap] 49)).cell? ⟨w.heap.size, 1, none⟩ = some (.slice a t.flat.length cap) := World.cell?_alloc_at _ _ _ 1 rfl
  have HW := mkHid (h.below hb1)
  have HP := mkHid (hp.below hb1)
  have HR : Hid (Row (veil (wus b g) (w.alloc (.cells #[.bool neg, .slice a t.flat.length cap] 49))) a cap t.flat) := hr.keeps (veil_keepsK (Keeps.of hb1))
  have HB1 := mkHid hb1
  have HT := mkHid ht
  have HL := mkHid hlen
  clear h hp hr hb1 ht hlen
  cases neg with
  | false =>
    have hrow := row_w B t HT.out h200 b g l a cap _ (by have := HL.out; simpa [litT] using this) HW.out hB hgB HP.out HR.out
    have HRW := mkHid hrow
    clear hrow
    go_enter Tryd.func55, Tryd.ntmps55
    go_wp2_with fail
    refine HRW.out.mono ?_
    rintro e w2 ⟨rfl, hw2⟩
    have HF : Hid (Wrote b g (l ++ litT false t) w w2) := Wrote.after HB1.out hw2 hgl
    clear hw2
    go_wp2_with fail
    go_end0
    exact ⟨rfl, HF.out⟩
  | true =>
    have hl1 : l.length + ((textT t).length + 3) ≤ 1000000000 := by have := HL.out; simp [litT] at this; omega
    go_enter Tryd.func55, Tryd.ntmps55
    go_wp2_with fail
    generalize w.alloc (.cells #[.bool true, .slice a t.flat.length cap] 49) = w1 at *
    refine (string_w b g l (tx [92, 43, 32]) w1 HW.out (by rw [tx_size]; simp; omega)).mono ?_
    rintro e w2 ⟨rfl, g2, hw2, hf2, hn2⟩
    have hst : WStep B b g g2 w1 w2 := ⟨hf2, hn2⟩
    have hg2 := hst.bound hgB HP.out.le
    have hr2 := hst.row HR.out
    have hp2 := hst.pow hB hgB HP.out
    have q1 : w2.cell? ⟨w.heap.size, 1, none⟩ = some (.slice a t.flat.length cap) := (World.cell?_of_block (w := w1) (a := ⟨w.heap.size, 1, none⟩) (hf2.block w.heap.size (cell_lt f1) (fun hm => by have := hus _ hm; omega))).trans f1
    have HRW := mkHid (row_w B t HT.out h200 b g2 _ a cap w2 (by simp [tx]; omega) hw2 hB hg2 hp2 hr2)
    have HST := mkHid hst
    clear hst hr2 hp2 hw2 hf2 hn2 f0 f1
    go_wp2_with fail
    refine HRW.out.mono ?_
    rintro e w3 ⟨rfl, hw3⟩
    have HF : Hid (Wrote b g (l ++ litT true t) w w3) := (Wrote.after HB1.out (Wrote.on HST.out.fr HST.out.new hw3) hgl).as (by simp [litT, tx])
    clear hw3
    go_wp2_with fail
    go_end0
    exact ⟨rfl, HF.out⟩
end Go.Proofs.YtabjghmfjoefpaaDoor
set_option linter.unusedVariables false
namespace Go.Proofs.YtabjghmfjoefpaaDoor
open Go.RowKit
attribute [local go_sem] Oper.semAt_some

def litR (x : Bool × Tm) : Lt := ⟨x.1, x.2.flat⟩
def litsT (ts : List (Bool × Tm)) : List (List UInt8) := ts.map fun x => litT x.1 x.2
theorem takeL_next {ts : List (Bool × Tm)} {k : Nat} (h : k < ts.length) : (litsT ts).take (k + 1) = (litsT ts).take k ++ [litT ts[k].1 ts[k].2] := by
  have hk : k < (litsT ts).length := by simpa [litsT] using h
  rw [List.take_succ_eq_append_getElem hk]
  simp [litsT]

set_option maxRecDepth 100000 in
set_option maxHeartbeats 8000000 in
theorem texts2_own {B : Nat} (n : Nat) (hn : 2 ≤ n) (Bl Bw M : Nat) (us : List Nat) (w : World) {ts : List (Bool × Tm)} {al : Option Addr} {cl : Nat} (hR : Row (veil us w) al cl (ts.map litR)) (hok : ∀ t ∈ ts, t.2.ok) (hN : ∀ t ∈ ts, t.2.flat.length ≤ 200) (hx : ∀ t ∈ ts, (litT t.1 t.2).length ≤ 1000000000)
    (hp : PowAt B w) (hus : ∀ k ∈ us, B ≤ k) (w1 : World) (hw1 : Fr us w w1) (hl0 : w1.cell? ⟨Bl, 0, none⟩ = some (.slice al ts.length cl)) (hf0 : w1.cell? ⟨Bw, 0, none⟩ = some (.func (.func 55) #[] #[])) (hBw : Bw < M ∧ Bw ∉ us) (hM : w.heap.size ≤ M) (hM1 : M ≤ w1.heap.size) :
    SeqOwn Fence.wide n (n - 1) none Tryd.prog 74 #[.pointer (some ⟨Bl, 0, none⟩), .pointer (some ⟨Bw, 0, none⟩)] (fun s : List UInt8 => #[.string (tx s)]) (KpN M us)
      (fun pre x _ => pre ++ [x] <+: litsT ts) (fun zs => zs = litsT ts) (fun _ => True) w1 := by
  intro l0 J Jx W hW hsz hJ hJx hY h0
  have h1n : 1 ≤ n := by omega
  have c1 := (hW.cell (p := ⟨Bl, 0, none⟩) (cell_lt hl0)).trans hl0
  have c2 := (hW.cell (p := ⟨Bw, 0, none⟩) (cell_lt hf0)).trans hf0
  have hFW : Fr us w W := hw1.trans (Fr.of hW)
  have hwW := hW.size
  have hm := hR.max
  have hle := hR.le
  rw [List.length_map] at hle
  have HR := mkHid hR
  have HOK := mkHid hok
  have HN := mkHid hN
  have HX := mkHid hx
  have HP := mkHid hp
  have HFW := mkHid hFW
  have HJ := mkHid hJ
  have HY := mkHid hY
  clear hR hok hN hx hp hFW hJ hY hl0 hf0 hsz
  refine callsIn_of_wp Tryd.func74 rfl trivial ?_ rfl
  simp only [Tryd.ntmps74, List.size_toArray, List.length_cons, List.length_nil, Nat.reduceAdd, Nat.reduceSub, Array.replicate_succ, Array.replicate_zero, List.push_toArray, List.append_toArray, List.nil_append, List.cons_append]
  gi_wp2
  gi_loopw [9] (fun i wr => ∃ (k : Nat) (pre : List (List UInt8)), k ≤ ts.length ∧ i = .int .i64 k ∧ Hid (pre = (litsT ts).take k) ∧ J pre wr ∧ KpN M us W wr) (fun i _ => ts.length - (intOf i).toNat)
  case atStart => exact ⟨0, [], Nat.zero_le _, rfl, rfl, h0, KpN.refl _ _ _⟩
  case round =>
    obtain ⟨k, pre, hk, rfl, HPR, hJs, hkp⟩ := hrel
    by_cases hlt : k < ts.length
    · have hRW := HR.out.keeps (fr_of_kpn HFW.out (hkp.le (Nat.le_refl _)) (by omega)).keeps
      obtain ⟨b, off, rfl, hb, hat⟩ := hRW.cases.resolve_left (fun e => by
        have h : (ts.map litR).length = 0 := by rw [e]; rfl
        rw [List.length_map] at h; omega)
      have hlt' : k < (ts.map litR).length := by simpa using hlt
      obtain ⟨a1, cap1, d0, d1, hr1⟩ := lt_at hat (Below.refl _ _) hlt'
      have e1 : (ts.map litR)[k] = ⟨ts[k].1, ts[k].2.flat⟩ := by simp [litR]
      rw [e1] at d0 d1 hr1
      replace d0 := (veil_cell d0).2
      replace d1 := (veil_cell d1).2
      dsimp only at d0 d1 hr1
      have hmem := List.getElem_mem hlt
      have g2 := keep (hkp.cell hBw c2) ((Below.refl wr.heap.size wr).new (.cells #[.bool ts[k].1, .slice a1 ts[k].2.flat.length cap1] 49))
      have g3 := keep g2 ((Below.refl _ (wr.alloc (.cells #[.bool ts[k].1, .slice a1 ts[k].2.flat.length cap1] 49))).new (.cells #[.pointer none, .slice none 0 0] 70))
      have hps := HP.out.fr (fr_of_kpn HFW.out (hkp.le (Nat.le_refl _)) (by omega)) hus
      have hpB := hps.pow
      have HNX : Hid (pre ++ [litT ts[k].1 ts[k].2] = (litsT ts).take (k + 1)) := by rw [Hid, takeL_next hlt, HPR.out]
      have HPF : Hid (pre ++ [litT ts[k].1 ts[k].2] <+: litsT ts) := by rw [Hid, HNX.out]; exact List.take_prefix _ _
      have hbl : Below wr.heap.size wr (wr.alloc (.cells #[.bool ts[k].1, .slice a1 ts[k].2.flat.length cap1] 49)) := (Below.refl _ _).new _
      have hW0 : Wr (wr.heap.size + 1) none [] (w0 (wr.alloc (.cells #[.bool ts[k].1, .slice a1 ts[k].2.flat.length cap1] 49))) := by have := Wr.new (wr.alloc (.cells #[.bool ts[k].1, .slice a1 ts[k].2.flat.length cap1] 49)); rwa [World.size_alloc] at this
      have hcall := literal_w B ts[k].1 ts[k].2 (HOK.out _ hmem) (HN.out _ hmem) (wr.heap.size + 1) none [] a1 cap1 (w0 (wr.alloc (.cells #[.bool ts[k].1, .slice a1 ts[k].2.flat.length cap1] 49))) (by rw [List.nil_append]; exact HX.out _ hmem) hW0
        (by have := hps.le; omega) (fun k e => by cases e) ((hps.below hbl).below ((Below.refl _ _).new _)) (by
          have h := (hr1.keeps (veil_keepsK (Keeps.of hbl))).keeps (veil_new (Nat.le_refl _) (.cells #[.pointer none, .slice none 0 0] 70))
          rwa [World.size_alloc] at h)
      rw [List.nil_append] at hcall
      have HC := mkHid hcall
      have HJS := mkHid hJs
      clear hcall hRW hat hb hr1 e1 hlt' hmem hps hpB hJs hW0
      gi_wp2_with fail
      have hs1 : (wr.alloc (.cells #[.bool ts[k].1, .slice a1 ts[k].2.flat.length cap1] 49)).heap.size ≤ wr.heap.size + 1 := by simp
      have hs2 : wr.heap.size + 1 ≤ (wr.alloc (.cells #[.bool ts[k].1, .slice a1 ts[k].2.flat.length cap1] 49)).heap.size := by simp
      refine ⟨trivial, ((callsIn_wide (n := n - 1)).2 HC.out).mono ?_⟩
      generalize wr.alloc (.cells #[.bool ts[k].1, .slice a1 ts[k].2.flat.length cap1] 49) = wl at *
      rintro e w3 ⟨rfl, hwr⟩
      obtain ⟨g, hg1, hg2, hb3⟩ := new_own (by omega) hwr
      have hst : Calls Tryd.prog 35 #[.pointer (some ⟨wr.heap.size + 1, 0, none⟩)] w3 fun e w' => e = .returned (.string (tx (litT ts[k].1 ts[k].2))) ∧ Below wl.heap.size w3 w' := str_w wl.heap.size (wr.heap.size + 1) g (litT ts[k].1 ts[k].2) w3 hg1 (by omega) hg2 hb3.size
      have HST := mkHid hst
      have hb3 := hbl.then hb3
      have HB3 := mkHid hb3
      clear hst hb3 hg1 hg2 hwr hbl
      gi_wp2_with fail
      refine ⟨trivial, ((callsIn_wide (n := n - 1)).2 HST.out).mono ?_⟩
      rintro e w4 ⟨rfl, hb4⟩
      have hb34 := HB3.out.trans (hb4.mono (by omega))
      have hJ4 := HJ.out pre wr w4 none HJS.out (below_grown hb34 none) (fun r e => by cases e)
      obtain ⟨fn, tmps, assign, body, hy, hR⟩ := HY.out pre (litT ts[k].1 ts[k].2) w4 hJ4 HPF.out
      try dsimp only at hy
      have HB34 := mkHid hb34
      have HKP := mkHid hkp
      have hsr := hkp.size
      clear hb4 hb34 hJ4 hkp
      gi_wp2
      refine hR.mono ?_
      rintro e W3 (⟨rfl, hJ5, hk5⟩ | ⟨rfl, hJx5, hk5⟩)
      · have hkw := (HKP.out.trans (KpN.of (HB34.out.mono (by omega)))).trans hk5
        gi_wp2
        go_roundw
        case rel => exact ⟨k + 1, _, by omega, by go_num, HNX, hJ5, hkw⟩
        case measure => simp [intOf]; omega
      · gi_wp2
        refine bodyPost_ret (results_none rfl _ _ _) rfl ?_
        exact ⟨⟨_, rfl⟩, .inr ⟨_, trivial, hJx5⟩⟩
    · have HE : Hid (pre = litsT ts) := by rw [Hid, HPR.out, List.take_of_length_le (by simp [litsT]; omega)]
      gi_wp2
      go_end0
      exact ⟨⟨_, rfl⟩, .inl ⟨_, HE.out, hJs⟩⟩
end Go.Proofs.YtabjghmfjoefpaaDoor
set_option linter.unusedVariables false
namespace Go.Proofs.YtabjghmfjoefpaaDoor
open Go.RowKit
attribute [local go_sem] Oper.semAt_some

/-- a clause's text -/
def clauseT (h : Tm) (ts : List (Bool × Tm)) : List UInt8 := textT h ++ ((if 0 < ts.length then [32, 58, 45, 32] ++ sepL [44, 32] (litsT ts) else []) ++ [46])

theorem texts2_any (al : Option Addr) (n cl gf : Nat) (w : World) :
    Calls Tryd.prog 54 #[.slice al n cl, .func (.func gf) #[] #[]] w fun e w' => e = .returned (.func (.func 74) #[] #[.pointer (some ⟨w.heap.size, 0, none⟩), .pointer (some ⟨w.heap.size + 1, 0, none⟩)]) ∧ w' = (w.alloc (.cells #[.slice al n cl] 31)).alloc (.cells #[.func (.func gf) #[] #[]] 100) := by
  go_enter Tryd.func54, Tryd.ntmps54
  go_wp2
  go_ret
  exact ⟨rfl, rfl⟩

set_option maxRecDepth 100000 in
set_option maxHeartbeats 8000000 in
theorem clause_w (B : Nat) (h0 : Tm) (ts : List (Bool × Tm)) (hok0 : h0.ok) (h200 : h0.flat.length ≤ 200) (hok : ∀ t ∈ ts, t.2.ok) (hN : ∀ t ∈ ts, t.2.flat.length ≤ 200) (b : Nat) (g : Option Nat) (l : List UInt8) (a1 : Option Addr) (cap1 : Nat) (a2 : Option Addr) (cap2 : Nat) (w : World) (hlen : (l ++ clauseT h0 ts).length ≤ 1000000000) (h : Wr b g l w) (hB : B ≤ b) (hgB : ∀ k, g = some k → B ≤ k) (hp : PowAt B w)
    (hr1 : Row (veil (wus b g) w) a1 cap1 h0.flat) (hr2 : Row (veil (wus b g) w) a2 cap2 (ts.map litR)) :
    Calls Tryd.prog 34 #[.pointer (some ⟨b, 0, none⟩), .agg #[.slice a1 h0.flat.length cap1, .slice a2 ts.length cap2]] w fun e w' => e = .returned (.tuple #[]) ∧ Wrote b g (l ++ clauseT h0 ts) w w' := by
  have hl1 : l.length + ((textT h0).length + ((if 0 < ts.length then [32, 58, 45, 32] ++ sepL [44, 32] (litsT ts) else []).length + 1)) ≤ 1000000000 := by simpa [List.length_append, clauseT] using hlen
  have hle := hr2.le
  have hmx := hr2.max
  rw [List.length_map] at hle
  have hbl := h.lt
  have hgl := h.ltg
  have hus : ∀ k ∈ wus b g, k < w.heap.size := fun k hk => (mem_wus.1 hk).elim (fun e => by rw [e]; exact hbl) (hgl k)
  have hBw := hp.le
  have hb1 : Below w.heap.size w (w.alloc (.cells #[.slice a1 h0.flat.length cap1, .slice a2 ts.length cap2] 33)) := (Below.refl _ _).new _
  have f0 : (w.alloc (.cells #[.slice a1 h0.flat.length cap1, .slice a2 ts.length cap2] 33)).cell? ⟨w.heap.size, 0, none⟩ = some (.slice a1 h0.flat.length cap1) := World.cell?_alloc_at _ _ _ 0 rfl
  have f1 : (w.alloc (.cells #[.slice a1 h0.flat.length cap1, .slice a2 ts.length cap2] 33)).cell? ⟨w.heap.size, 1, none⟩ = some (.slice a2 ts.length cap2) := World.cell?_alloc_at _ _ _ 1 rfl
  have HW := mkHid (h.below hb1)
  have HP := mkHid (hp.below hb1)
  have HR1 : Hid (Row (veil (wus b g) (w.alloc (.cells #[.slice a1 h0.flat.length cap1, .slice a2 ts.length cap2] 33))) a1 cap1 h0.flat) := hr1.keeps (veil_keepsK (Keeps.of hb1))
  have HR2 : Hid (Row (veil (wus b g) (w.alloc (.cells #[.slice a1 h0.flat.length cap1, .slice a2 ts.length cap2] 33))) a2 cap2 (ts.map litR)) := hr2.keeps (veil_keepsK (Keeps.of hb1))
  have HB1 := mkHid hb1
  have HOK0 := mkHid hok0
  have HOK := mkHid hok
  have HN := mkHid hN
  have hw1w := hb1.size
  clear h hp hr1 hr2 hb1 hok0 hok hN hlen
  go_enter Tryd.func34, Tryd.ntmps34
  go_wp2_with fail
  generalize w.alloc (.cells #[.slice a1 h0.flat.length cap1, .slice a2 ts.length cap2] 33) = w1 at *
  refine (row_w B h0 HOK0.out h200 b g l a1 cap1 w1 (by rw [List.length_append]; omega) HW.out hB hgB HP.out HR1.out).mono ?_
  rintro e w2 ⟨rfl, g2, hw2, hf2, hn2⟩
  have hst2 : WStep B b g g2 w1 w2 := ⟨hf2, hn2⟩
  have hg2 := hst2.bound hgB HP.out.le
  have hr2 := hst2.row HR2.out
  have hp2 := hst2.pow hB hgB HP.out
  have q1 : w2.cell? ⟨w.heap.size, 1, none⟩ = some (.slice a2 ts.length cap2) := (World.cell?_of_block (w := w1) (a := ⟨w.heap.size, 1, none⟩) (hf2.block w.heap.size (cell_lt f1) (fun hm => by have := hus _ hm; omega))).trans f1
  have HST2 := mkHid hst2
  have HW2 := mkHid hw2
  have HR22 := mkHid hr2
  have HP2 := mkHid hp2
  have HG2 := mkHid hg2
  have hgl2 := hw2.ltg
  have hbl2 := hw2.lt
  have hsz2 := hf2.size
  have hus2 : ∀ k ∈ wus b g2, k ∈ wus b g ∨ w1.heap.size ≤ k := hst2.us
  have HUS2 := mkHid hus2
  clear hst2 hg2 hr2 hp2 hw2 hf2 hn2 hus2 HR2 HR1 HP
  by_cases hz : 0 < ts.length
  · have hl2 : l.length + ((textT h0).length + (4 + (sepL [44, 32] (litsT ts)).length + 1)) ≤ 1000000000 := by rw [if_pos hz] at hl1; simp at hl1; omega
    have HCT : Hid (clauseT h0 ts = textT h0 ++ ([32, 58, 45, 32] ++ (sepL [44, 32] (litsT ts) ++ [46]))) := by rw [Hid, clauseT, if_pos hz]; simp
    have hx : ∀ t ∈ ts, (litT t.1 t.2).length ≤ 1000000000 := fun t ht => by
      have := sepL_mem (s := [44, 32]) (show litT t.1 t.2 ∈ litsT ts from List.mem_map.2 ⟨t, ht, rfl⟩)
      omega
    have HX := mkHid hx
    clear hx hl1
    go_wp2_with fail
    refine (string_w b g2 (l ++ textT h0) (tx [32, 58, 45, 32]) w2 HW2.out (by rw [tx_size]; simp; omega)).mono ?_
    rintro e w3 ⟨rfl, g3, hw3, hf3, hn3⟩
    have hst3 : WStep B b g2 g3 w2 w3 := ⟨hf3, hn3⟩
    have hg3 := hst3.bound HG2.out HP2.out.le
    have hr3 := hst3.row HR22.out
    have hp3 := hst3.pow hB HG2.out HP2.out
    have q3 : w3.cell? ⟨w.heap.size, 1, none⟩ = some (.slice a2 ts.length cap2) := (World.cell?_of_block (w := w2) (a := ⟨w.heap.size, 1, none⟩) (hf3.block w.heap.size (cell_lt q1) (fun hm => by
      rcases HUS2.out _ hm with e | e
      · have := hus _ e; omega
      · have := cell_lt f1; omega))).trans q1
    have HST3 := mkHid hst3
    have HW3 := mkHid hw3
    have HR3 := mkHid hr3
    have HP3 := mkHid hp3
    have HG3 := mkHid hg3
    have hgl3 := hw3.ltg
    have hbl3 := hw3.lt
    have hsz3 := hf3.size
    have HUS3 := mkHid hst3.us
    clear hst3 hg3 hr3 hp3 hw3 hf3 hn3 q1 f0 f1
    go_wp2_with fail
    refine (texts2_any a2 ts.length cap2 55 w3).mono ?_
    rintro e w4 ⟨rfl, hw4⟩
    have hb4 : Below w3.heap.size w3 w4 := by rw [hw4]; exact ((Below.refl w3.heap.size w3).new _).new _
    have hs4 : w4.heap.size = w3.heap.size + 2 := by rw [hw4]; simp
    have c0 : w4.cell? ⟨w3.heap.size, 0, none⟩ = some (.slice a2 ts.length cap2) := by rw [hw4]; go_simp
    have c1 : w4.cell? ⟨w3.heap.size + 1, 0, none⟩ = some (.func (.func 55) #[] #[]) := by rw [hw4]; go_simp
    clear hw4 q3
    have hst4 : WStep B b g3 g3 w3 w4 := WStep.calm hb4
    have hr4 := hst4.row HR3.out
    have hp4 := hst4.pow hB HG3.out HP3.out
    have hw4 := HW3.out.below hb4
    have hus3B : ∀ k ∈ wus b g3, B ≤ k := fun k hk => (mem_wus.1 hk).elim (fun e => by omega) (HG3.out k)
    have hus3l : ∀ k ∈ wus b g3, k < w3.heap.size := fun k hk => (mem_wus.1 hk).elim (fun e => by rw [e]; exact hbl3) (hgl3 k)
    have hj := join_w b g3 ((l ++ textT h0) ++ (tx [32, 58, 45, 32]).data.toList) w4 hw4 [44, 32] (litsT ts) 74 #[.pointer (some ⟨w3.heap.size, 0, none⟩), .pointer (some ⟨w3.heap.size + 1, 0, none⟩)] (enters_of Tryd.func74 (by kernel_rfl) rfl)
      (fun W hW => texts2_own 14 (by omega) w3.heap.size (w3.heap.size + 1) w4.heap.size (wus b g3) w4 hr4 HOK.out HN.out HX.out hp4 hus3B W (Fr.of hW) (keep c0 hW) (keep c1 hW) ⟨by omega, fun hm => by have := hus3l _ hm; omega⟩ (Nat.le_refl _) hW.size)
      (by simp [tx]; omega)
    have HJ := mkHid hj
    have HST4 := mkHid hst4
    clear hj hst4 hw4 hr4 hp4 hus3B hus3l c0 c1 hb4
    go_wp2_with fail
    refine HJ.out.mono ?_
    rintro e w5 ⟨rfl, g5, hw5, hf5, hn5⟩
    have HST5 : Hid (WStep B b g3 g5 w4 w5) := ⟨hf5, hn5⟩
    have HW5 := mkHid hw5
    clear hw5 hf5 hn5
    go_wp2_with fail
    refine (byte_w b g5 _ 46 w5 HW5.out (by simp [tx]; omega)).mono ?_
    rintro e w6 ⟨rfl, hw6⟩
    have hfz : Wrote b g (l ++ clauseT h0 ts) w w6 := by
      have h1 := Wrote.on HST5.out.fr HST5.out.new hw6
      have h2 := Wrote.on HST4.out.fr HST4.out.new h1
      have h3 := Wrote.on HST3.out.fr HST3.out.new h2
      have h4 := Wrote.on HST2.out.fr HST2.out.new h3
      have h5 := Wrote.after HB1.out h4 hgl
      exact h5.as (by rw [HCT.out]; simp [tx])
    have HFZ := mkHid hfz
    clear hfz hw6
    go_wp2_with fail
    go_end0
    exact ⟨rfl, HFZ.out⟩
  · have HCT : Hid (clauseT h0 ts = textT h0 ++ [46]) := by rw [Hid, clauseT, if_neg hz]; rfl
    have hl2 : l.length + ((textT h0).length + 1) ≤ 1000000000 := by rw [if_neg hz] at hl1; simp at hl1; omega
    clear hl1
    go_wp2_with fail
    refine (byte_w b g2 _ 46 w2 HW2.out (by simp; omega)).mono ?_
    rintro e w6 ⟨rfl, hw6⟩
    have hfz : Wrote b g (l ++ clauseT h0 ts) w w6 := by
      have h4 := Wrote.on HST2.out.fr HST2.out.new hw6
      have h5 := Wrote.after HB1.out h4 hgl
      exact h5.as (by rw [HCT.out]; simp)
    have HFZ := mkHid hfz
    clear hfz hw6
    go_wp2_with fail
    go_end0
    exact ⟨rfl, HFZ.out⟩
end Go.Proofs.YtabjghmfjoefpaaDoor
set_option linter.unusedVariables false
namespace Go.Proofs.YtabjghmfjoefpaaDoor
open Go.RowKit
attribute [local go_sem] Oper.semAt_some

/-- a clause of trees -/
structure Ct where
  h : Tm
  b : List (Bool × Tm)
def Ct.row (c : Ct) : Cl := ⟨c.h.flat, c.b.map litR⟩
def Ct.text (c : Ct) : List UInt8 := clauseT c.h c.b
structure Ct.ok (c : Ct) : Prop where
  h : c.h.ok
  h200 : c.h.flat.length ≤ 200
  b : ∀ t ∈ c.b, t.2.ok
  b200 : ∀ t ∈ c.b, t.2.flat.length ≤ 200

set_option maxHeartbeats 800000 in
/-- print.Clause -/
theorem pclause_any (c : Ct) (hc : c.ok) (a1 : Option Addr) (cap1 : Nat) (a2 : Option Addr) (cap2 : Nat) (w : World) (hlen : c.text.length ≤ 1000000000) (hp : Pow w) (hr1 : Row w a1 cap1 c.h.flat) (hr2 : Row w a2 cap2 (c.b.map litR)) :
    Calls Tryd.prog 13 #[.agg #[.slice a1 c.h.flat.length cap1, .slice a2 c.b.length cap2]] w fun e w' => e = .returned (.string (tx c.text)) ∧ Below w.heap.size w w' := by
  obtain ⟨h0, ts⟩ := c
  have hb1 : Below w.heap.size w (w.alloc (.cells #[.slice a1 h0.flat.length cap1, .slice a2 ts.length cap2] 33)) := (Below.refl _ _).new _
  have hW0 : Wr (w.heap.size + 1) none [] (w0 (w.alloc (.cells #[.slice a1 h0.flat.length cap1, .slice a2 ts.length cap2] 33))) := by have := Wr.new (w.alloc (.cells #[.slice a1 h0.flat.length cap1, .slice a2 ts.length cap2] 33)); rwa [World.size_alloc] at this
  have hv : ∀ {α : Type} [Rep α] {a : Option Addr} {cap : Nat} {xs : List α}, Row w a cap xs → Row (veil (wus (w.heap.size + 1) none) (w0 (w.alloc (.cells #[.slice a1 h0.flat.length cap1, .slice a2 ts.length cap2] 33)))) a cap xs := fun hr => by
    exact hr.keeps (fun b o v hcc => veil_of (fun e => by have := cell_lt hcc; simp [wus] at e; omega) (keep hcc (hb1.then ((Below.refl _ (w.alloc (.cells #[.slice a1 h0.flat.length cap1, .slice a2 ts.length cap2] 33))).new _))))
  have hl1 : (clauseT h0 ts).length ≤ 1000000000 := hlen
  have hcl := clause_w w.heap.size h0 ts hc.h hc.h200 hc.b hc.b200 (w.heap.size + 1) none [] a1 cap1 a2 cap2 (w0 (w.alloc (.cells #[.slice a1 h0.flat.length cap1, .slice a2 ts.length cap2] 33))) (by rw [List.nil_append]; exact hl1) hW0 (by omega) bad_none ((hp.at.below hb1).below ((Below.refl _ _).new _)) (hv hr1) (hv hr2)
  rw [List.nil_append] at hcl
  have HCL := mkHid hcl
  have HB1 := mkHid hb1
  clear hcl hr1 hr2 hp hc hv hb1 hlen hW0 hl1
  go_enter Tryd.func13, Tryd.ntmps13
  go_wp2_with fail
  have hs1 : (w.alloc (.cells #[.slice a1 h0.flat.length cap1, .slice a2 ts.length cap2] 33)).heap.size ≤ w.heap.size + 1 := by simp
  have hs2 : w.heap.size + 1 ≤ (w.alloc (.cells #[.slice a1 h0.flat.length cap1, .slice a2 ts.length cap2] 33)).heap.size := by simp
  refine HCL.out.mono ?_
  generalize w.alloc (.cells #[.slice a1 h0.flat.length cap1, .slice a2 ts.length cap2] 33) = wl at *
  rintro e w2 ⟨rfl, hw2⟩
  obtain ⟨g, hg1, hg2, hb2⟩ := new_own (by omega) hw2
  have hst : Calls Tryd.prog 35 #[.pointer (some ⟨w.heap.size + 1, 0, none⟩)] w2 fun e w' => e = .returned (.string (tx (clauseT h0 ts))) ∧ Below wl.heap.size w2 w' := str_w wl.heap.size (w.heap.size + 1) g _ w2 hg1 (by omega) hg2 hb2.size
  have HST := mkHid hst
  have HB2 := mkHid hb2
  clear hst hb2 hw2 hg1 hg2
  go_wp2_with fail
  refine HST.out.mono ?_
  rintro e w3 ⟨rfl, hb3⟩
  go_wp2_with fail
  go_ret
  exact ⟨rfl, HB1.out.then (HB2.out.trans hb3)⟩
end Go.Proofs.YtabjghmfjoefpaaDoor
set_option linter.unusedVariables false
namespace Go.Proofs.YtabjghmfjoefpaaDoor
open Go.RowKit
attribute [local go_sem] Oper.semAt_some

/-- a program's text -/
def progT (cs : List Ct) : List UInt8 := (cs.map fun c => c.text ++ [10]).flatten
theorem progT_next {cs : List Ct} {k : Nat} (h : k < cs.length) : progT (cs.take (k + 1)) = progT (cs.take k) ++ (cs[k].text ++ [10]) := by
  rw [List.take_succ_eq_append_getElem h, progT, List.map_append, List.flatten_append]; simp [progT]
theorem progT_le {cs : List Ct} {k : Nat} (h : k ≤ cs.length) : (progT (cs.take k)).length ≤ (progT cs).length := by
  have : progT cs = progT (cs.take k) ++ progT (cs.drop k) := by
    conv => lhs; rw [← List.take_append_drop k cs]
    simp only [progT, List.map_append, List.flatten_append]
  rw [this, List.length_append]; omega
theorem wrote_new {w w' : World} {l : List UInt8} {b : Nat} (hb : b = w.heap.size) (h : Wrote b none l (w0 w) w') : ∃ g, Wr b g l w' ∧ (∀ k, g = some k → w.heap.size ≤ k) ∧ Below w.heap.size w w' ∧ Fr (wus b none) (w0 w) w' ∧ (∀ k, g = some k → none = some k ∨ (w0 w).heap.size ≤ k) := by
  obtain ⟨g, h1, h2, h3⟩ := h
  have e : (w0 w).heap.size = w.heap.size + 1 := World.size_alloc _ _
  refine ⟨g, h1, fun k hk => ?_, ?_, h2, h3⟩
  · rcases h3 k hk with e' | e'
    · cases e'
    · omega
  · exact ((Below.refl _ _).new _).trans (h2.below (B := w.heap.size) (by omega) (by intro k hk; rcases mem_wus.1 hk with rfl | hk; omega; cases hk))

set_option maxRecDepth 100000 in
set_option maxHeartbeats 3200000 in
/-- print.Program -/
theorem pprogram_any (cs : List Ct) (hok : ∀ c ∈ cs, c.ok) (a : Option Addr) (cap : Nat) (w : World) (hlen : (progT cs).length ≤ 1000000000) (hp : Pow w) (hr : Row w a cap (cs.map Ct.row)) :
    Calls Tryd.prog 18 #[.slice a cs.length cap] w fun e w' => e = .returned (.string (tx (progT cs))) ∧ Below w.heap.size w w' := by
  have hle := hr.le
  have hmx := hr.max
  rw [List.length_map] at hle
  have h0 : Hid (Wrote w.heap.size none (progT (cs.take 0)) (w0 w) (w0 w)) := Wrote.refl (Wr.new w)
  have HR := mkHid hr
  have HP := mkHid hp.at
  have HOK := mkHid hok
  clear hr hp hok
  go_enter Tryd.func18, Tryd.ntmps18
  go_wp2
  go_loopw [8] (fun i wr => ∃ k : Nat, k ≤ cs.length ∧ i = .int .i64 k ∧ Hid (Wrote w.heap.size none (progT (cs.take k)) (w0 w) wr)) (fun i _ => cs.length - (intOf i).toNat)
  case atStart => exact ⟨0, Nat.zero_le _, rfl, h0⟩
  case round =>
    clear h0
    obtain ⟨k, hk, rfl, HWr⟩ := hrel
    rename World => wr
    obtain ⟨g, hg1, hg2, hb, hfr, hnw⟩ := wrote_new rfl HWr.out
    have hgl := hg1.ltg
    have hszw := hb.size
    by_cases hlt : k < cs.length
    · have hlt' : k < (cs.map Ct.row).length := by simpa using hlt
      obtain ⟨b', off, rfl, hbv, hat⟩ := HR.out.cases.resolve_left (fun e => by rw [e] at hlt'; simp at hlt')
      obtain ⟨a1, cap1, a2, cap2, d0, d1, hr1, hr2⟩ := cl_at hat (Below.refl _ _) hlt'
      have e1 : (cs.map Ct.row)[k] = cs[k].row := by simp
      rw [e1] at d0 d1 hr1 hr2
      simp only [Ct.row, List.length_map] at d0 d1 hr1 hr2
      have z0 := keep d0 hb
      have z1 := keep d1 hb
      have hmem := List.getElem_mem hlt
      have hpl : (progT (cs.take (k + 1))).length ≤ 1000000000 := by have := progT_le (cs := cs) (k := k + 1) (by omega); omega
      rw [progT_next hlt, List.length_append, List.length_append] at hpl
      simp only [List.length_cons, List.length_nil] at hpl
      have hbl : Below wr.heap.size wr (wr.alloc (.cells #[.slice a1 cs[k].h.flat.length cap1, .slice a2 cs[k].b.length cap2] 33)) := (Below.refl _ _).new _
      have hbw := hb.then hbl
      have hv : ∀ {α : Type} [Rep α] {a : Option Addr} {cap : Nat} {xs : List α}, Row w a cap xs → Row (veil (wus w.heap.size g) (wr.alloc (.cells #[.slice a1 cs[k].h.flat.length cap1, .slice a2 cs[k].b.length cap2] 33))) a cap xs := fun hr => hr.keeps (fun b o v hcc => veil_of (fun e => by
        have := cell_lt hcc
        rcases mem_wus.1 e with rfl | e
        · omega
        · have := hg2 _ e; omega) (keep hcc hbw))
      have hcl := clause_w w.heap.size cs[k].h cs[k].b (HOK.out _ hmem).h (HOK.out _ hmem).h200 (HOK.out _ hmem).b (HOK.out _ hmem).b200 w.heap.size g (progT (cs.take k)) a1 cap1 a2 cap2 (wr.alloc (.cells #[.slice a1 cs[k].h.flat.length cap1, .slice a2 cs[k].b.length cap2] 33)) (by rw [List.length_append]; exact (by omega : (progT (cs.take k)).length + cs[k].text.length ≤ 1000000000)) (hg1.below hbl) (Nat.le_refl _) hg2 (HP.out.fr (us := []) (Fr.of hbw) (by simp)) (hv hr1) (hv hr2)
      have HCL := mkHid hcl
      have HBL := mkHid hbl
      have HFR := mkHid hfr
      have HNW := mkHid hnw
      have HNX : Hid (progT (cs.take (k + 1)) = progT (cs.take k) ++ cs[k].text ++ [10]) := by rw [Hid, progT_next hlt, List.append_assoc]
      clear hcl hbl hfr hnw hv hr1 hr2 hat hb hg1 e1 hlt' hmem d0 d1 hbw HWr
      go_wp2_with fail
      refine HCL.out.mono ?_
      generalize wr.alloc (.cells #[.slice a1 cs[k].h.flat.length cap1, .slice a2 cs[k].b.length cap2] 33) = wl at *
      rintro e w2 ⟨rfl, g2, hw2, hf2, hn2⟩
      have hw2l := hw2.ltg
      have HW2 := mkHid hw2
      have HF2 := mkHid hf2
      have HN2 := mkHid hn2
      clear hw2 hf2 hn2
      go_wp2_with fail
      refine (byte_w w.heap.size g2 _ 10 w2 HW2.out (by rw [List.length_append]; exact (by omega : (progT (cs.take k)).length + cs[k].text.length + 1 ≤ 140737488355328))).mono ?_
      rintro e w3 ⟨rfl, hw3⟩
      have hfin : Wrote w.heap.size none (progT (cs.take (k + 1))) (w0 w) w3 := by
        have h1 := Wrote.on HF2.out HN2.out hw3
        have h2 := Wrote.after HBL.out h1 hgl
        have h3 := Wrote.on HFR.out HNW.out h2
        exact h3.as HNX.out.symm
      have HFIN := mkHid hfin
      clear hfin hw3
      go_wp2_with fail
      go_round
      case rel => exact ⟨k + 1, by omega, by go_num, HFIN.out⟩
      case measure => simp [intOf]; omega
    · obtain rfl : k = cs.length := by omega
      rw [List.take_length] at hg1
      have hst : Calls Tryd.prog 35 #[.pointer (some ⟨w.heap.size, 0, none⟩)] wr fun e w' => e = .returned (.string (tx (progT cs))) ∧ Below w.heap.size wr w' := str_w w.heap.size w.heap.size g _ wr hg1 (Nat.le_refl _) hg2 hb.size
      have HST := mkHid hst
      have HB := mkHid hb
      clear hst hb hg1 hg2 hfr hnw HWr
      go_wp2_with fail
      refine HST.out.mono ?_
      rintro e w3 ⟨rfl, hb3⟩
      go_wp2_with fail
      go_ret
      exact ⟨rfl, HB.out.trans hb3⟩
end Go.Proofs.YtabjghmfjoefpaaDoor
set_option linter.unusedVariables false
namespace Go.Proofs.YtabjghmfjoefpaaDoor
open Go.RowKit

set_option maxHeartbeats 3200000 in
set_option maxRecDepth 100000 in
theorem rList_any {N : Nat} (H : RefT N) (t : Tm) (ht : t.ok) (h200 : t.flat.length ≤ 200) (hN : t.flat.length ≤ N + 1) (hk : isC t.hd [46] 2 = true ∨ isC t.hd [91, 93] 0 = true) (hlen : (textT t).length ≤ 1000000000)
    (a : Option Addr) (cap : Nat) (w : World) (hr : Row w a cap t.flat) :
    Calls Tryd.prog 39 #[.slice a t.flat.length cap] w fun e w' => e = .returned (.string (tx (textT t))) ∧ Below w.heap.size w w' := by
  have hm0 := World.ownsRow_made (base := w.heap.size) (e := 22) (size := 1) w #[] 0 (Nat.le_refl _) (by unfold maxLen; omega) rfl
  have hb0 := (Below.refl w.heap.size w).new (.cells #[] 22)
  have HH := mkHid H
  have HT := mkHid ht
  have HK := mkHid hk
  have HN := mkHid hN
  have HL := mkHid hlen
  have HR := mkHid hr
  have H2 := mkHid h200
  clear H ht hk hN hlen hr h200
  go_enter Tryd.func39, Tryd.ntmps39
  go_wp2_with fail
  go_loopw [0, 3] (fun c v wr => ∃ (cur : Tm) (items : List Tm) (aC : Option Addr) (capC : Nat) (vs : List Value), c = .slice aC cur.flat.length capC ∧ Hid (Row w aC capC cur.flat) ∧ wr.ownsRow w.heap.size 22 1 v items.length vs ∧ Hid (SlRows w vs (items.map Tm.flat)) ∧ Below w.heap.size w wr ∧ Hid (Stand t items cur)) (fun c v wr => lenV c)
  case atStart => exact ⟨t, [], a, cap, [], rfl, HR, hm0, mkHid (SlRows.nil _), hb0, mkHid ⟨HT.out, trivial, by simp, by simp, Or.inl ⟨rfl, rfl⟩⟩⟩
  case round =>
    obtain ⟨cur, items, aC, capC, vs, rfl, HC, hown, HS, hbl, HD⟩ := hrel
    clear hm0 hb0
    have h0 := flat_pos cur
    have hle := HC.out.le
    have hmx := HC.out.max
    have hc2 := HD.out.sum
    have ht2 := H2.out
    obtain ⟨b, off, rfl, hb, hat⟩ := HC.out.cases.resolve_left (fun e => by simp [e] at h0)
    obtain ⟨c0, c1, c2, hf⟩ := cel_at hat hbl h0
    rw [flat_hd cur h0] at c0 c1 c2 hf
    simp only [Nat.zero_mul, Nat.add_zero] at c0 c1 c2
    have HBL := mkHid hbl
    cases hd : isC cur.hd [46] 2 with
    | true =>
      obtain ⟨k1, k2, k3⟩ := isC_facts hd
      obtain ⟨c, ts⟩ := cur
      obtain ⟨x, y, rfl, hx, hy⟩ := ok_two HD.out.ok hd
      have HNX := mkHid (HD.out.next hd)
      have hR := right_flat HD.out.ok (by omega)
      have hps : partsL (Tm.mk c [x, y]).flat = [x.flat, y.flat] := parts_flat HD.out.ok
      have hrz := refparts_z (some ⟨b, off, none⟩) capC wr (Tm.mk c [x, y]).flat (HC.out.below hbl) hR
      rw [hps] at hrz
      have HZ := mkHid hrz
      clear hrz hR hps hat hb hf hd hbl
      go_wp2_with fail
      refine HZ.out.mono ?_
      rintro e w3 ⟨a', cap', vs', rfl, hown', hsl, hb3⟩
      obtain ⟨a0, cap0, a1, cap1, rfl, r0, r1⟩ := two_rows (hsl w HC.out)
      obtain ⟨g, rfl, hg, d0, d1⟩ := own_two hown'
      have hgo : ∀ k, u3.ownBlock = some k → k ≠ g := fun k hk => by have := (hown.lt k hk).2; omega
      have hown3 := own_below hown hb3
      have hbl3 := HBL.out.then hb3
      have HGO := mkHid hgo
      have HR0 := mkHid r0
      have HR1 := mkHid r1
      have HBL3 := mkHid hbl3
      have hxy : [x.flat, y.flat].length = 2 := rfl
      clear hown' hsl hb3 hgo r0 r1 hg hown hbl3 c0 c1 c2
      go_wp2_with (at_builtin; refine wpList_app rfl _ _ 58 rfl w.heap.size 22 1 24 _ Tryd.underlying58 Tryd.infoSl rfl (by decide) (by decide) _ items.length _ rfl (hown3.alloc _) (some ⟨_, 0, none⟩) 1 1 [.slice a0 x.flat.length cap0] rfl (src_new _ #[.slice a0 x.flat.length cap0] _ 1 rfl (by simp [Value.oneCell'])) (by omega) (Nat.le_trans HBL3.out.size (by simp)) ?_; intro v' w5 hown5 hgrow hb5; have d15 := cell_grown hgrow (keep d1 ((Below.refl _ _).new _)) HGO.out; clear hgrow)
      go_round
      case rel => exact ⟨y, items ++ [x], a1, cap1, vs ++ [.slice a0 x.flat.length cap0], rfl, HR1, by rw [List.length_append]; exact hown5, mkHid (by rw [List.map_append]; exact HS.out.snoc HR0.out), (HBL3.out.new _).trans hb5, HNX⟩
      case measure =>
        have := flat_arg_lt (t := Tm.mk c [x, y]) (u := y) (by simp [Tm.args])
        simpa [lenV] using this
    | false =>
      obtain ⟨a', cap', rfl, hrow⟩ := own_rowL (v := u3) (ps := items.map Tm.flat) (by rw [List.length_map]; exact hown) (HS.out.keeps (Keeps.of hbl))
      rw [List.length_map]
      have hsm : ∀ u ∈ items, u.flat.length ≤ N := fun u hu => by have := HD.out.small u hu; have := HN.out; omega
      cases hn : isC cur.hd [91, 93] 0 with
      | true =>
        have hfin := fin_nil HD.out HK.out hn
        have hl1 : (sepL [44] (textsT items)).length ≤ 1000000000 := by
          have := HL.out; rw [hfin] at this; simp at this; omega
        obtain ⟨k1, k2, k3⟩ := isC_facts hn
        have k4 : (cur.hd.s.toList == [46]) = false := by rw [eq_of_beq k2]; rfl
        have HX := mkHid (rTexts_any HH.out items a' cap' wr HD.out.oks hsm hl1 hrow)
        obtain ⟨s, hs⟩ : ∃ s, s = tx (sepL [44] (textsT items)) := ⟨_, rfl⟩
        have hs1 : s.size ≤ 1000000000 := by rw [hs, tx_size]; exact hl1
        have HE : Hid (tx [91] ++ s ++ tx [93] = tx (textT t)) := mkHid (by rw [hs, hfin, tx_append, tx_append]; rfl)
        rw [← hs] at HX
        clear hs hfin hl1 hn hd hrow hsm hown hat hb hf hbl
        go_wp2_with fail
        refine HX.out.mono ?_
        rintro e w3 ⟨rfl, hb3⟩
        have HB3 := mkHid hb3
        have d0 := keep c0 hb3
        have d1 := keep c1 hb3
        have d2 := keep c2 hb3
        clear hb3 c0 c1 c2
        go_wp2
        go_ret
        exact ⟨by rw [← HE.out]; rfl, HBL.out.then HB3.out⟩
      | false =>
        obtain ⟨hfin, hcl⟩ := fin_bar HD.out HK.out hd hn
        have hl1 : (sepL [44] (textsT items)).length ≤ 1000000000 ∧ (textT cur).length ≤ 1000000000 := by
          have := HL.out; rw [hfin] at this; simp at this; omega
        have HX := mkHid (rTexts_any HH.out items a' cap' wr HD.out.oks hsm hl1.1 hrow)
        have HY : Hid (∀ W, Below wr.heap.size wr W → Calls Tryd.prog 17 #[.slice (some ⟨b, off, none⟩) cur.flat.length capC] W fun e w' => e = .returned (.string (tx (textT cur))) ∧ Below W.heap.size W w') :=
          mkHid fun W hW => HH.out cur _ _ W HD.out.ok (by have := HN.out; omega) hl1.2 (HC.out.below (HBL.out.then hW))
        obtain ⟨s, hs⟩ : ∃ s, s = tx (sepL [44] (textsT items)) := ⟨_, rfl⟩
        obtain ⟨u, hu⟩ : ∃ u, u = tx (textT cur) := ⟨_, rfl⟩
        have hs1 : s.size ≤ 1000000000 := by rw [hs, tx_size]; exact hl1.1
        have hu1 : u.size ≤ 1000000000 := by rw [hu, tx_size]; exact hl1.2
        have HE : Hid (tx [91] ++ s ++ tx [124] ++ u ++ tx [93] = tx (textT t)) := mkHid (by rw [hs, hu, hfin, tx_append, tx_append, tx_append, tx_append]; simp)
        rw [← hs] at HX
        rw [← hu] at HY
        have z1 : ¬ 9223372036854775807 < 1 + s.size := by omega
        have z2 : ¬ 9223372036854775807 < 1 + s.size + 1 := by omega
        have z3 : ¬ 9223372036854775807 < 1 + s.size + 1 + u.size := by omega
        have z4 : ¬ 9223372036854775807 < 1 + s.size + 1 + u.size + 1 := by omega
        have Hd := isC_not hd
        have Hn := isC_not hn
        clear hs hu hfin hl1 hn hd hrow hsm hown hat hb hf hbl hcl
        rcases Hd with k1 | ⟨k1, k2⟩ | ⟨k1, k2, k3⟩ <;> rcases Hn with j1 | ⟨j1, j2⟩ | ⟨j1, j2, j3⟩
        all_goals
          first
            | (exfalso; rw [k1] at j1; cases j1; done)
            | (exfalso; rw [eq_of_beq k2] at j2; cases j2; done)
            | skip
        all_goals try (have q1 : ¬ cur.hd.k = 3 := by simpa using j1)
        all_goals try (have q2 : cur.hd.k = 3 := by simpa using j1)
        all_goals try (have q3 : ¬ cur.hd.n = 0 := by simpa using j3)
        all_goals
          go_wp2_with fail
          refine HX.out.mono ?_
          rintro e w3 ⟨rfl, hb3⟩
          have HB3 := mkHid hb3
          have d0 := keep c0 hb3
          have d1 := keep c1 hb3
          have d2 := keep c2 hb3
          clear hb3 c0 c1 c2
          go_wp2_with fail
          refine (HY.out _ HB3.out).mono ?_
          rintro e w4 ⟨rfl, hb4⟩
          have HB4 := mkHid hb4
          clear hb4 d0 d1 d2
          go_wp2_with fail
          go_ret
          exact ⟨by rw [← HE.out]; rfl, (HBL.out.then HB3.out).then HB4.out⟩
end Go.Proofs.YtabjghmfjoefpaaDoor
