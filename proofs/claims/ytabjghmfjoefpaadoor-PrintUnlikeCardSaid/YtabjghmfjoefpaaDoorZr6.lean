import Derived.Test.YtabjghmfjoefpaaDoorZr5
import Derived.Deep.RegionHeld3
set_option linter.unusedVariables false
namespace Go.Proofs.YtabjghmfjoefpaaDoor
open Go.RowKit
namespace Md
theorem BodyI.below {us : List Nat} {B : Nat} {ah : Option Addr} {hn ch : Nat} {acc : List Lt} {vb : Value} {W W' : World} (h : BodyI us B ah hn ch acc vb W) (hb : Below W.heap.size W W') : BodyI us B ah hn ch acc vb W' := by
  obtain ⟨vs, h1, h2⟩ := h.own
  exact ⟨(hb.block B (Array.getElem?_eq_some_iff.1 h.blk).1).trans h.blk, ⟨vs, own_belowA h1 hb, h2.keeps (veil_keepsK (Keeps.of hb))⟩⟩
theorem BodyI.cell {us : List Nat} {B : Nat} {ah : Option Addr} {hn ch : Nat} {acc : List Lt} {vb : Value} {W : World} (h : BodyI us B ah hn ch acc vb W) : W.cell? ⟨B, 1, none⟩ = some vb := by rw [Lib.cell_of_heap h.blk]; rfl
theorem BodyI.cell0 {us : List Nat} {B : Nat} {ah : Option Addr} {hn ch : Nat} {acc : List Lt} {vb : Value} {W : World} (h : BodyI us B ah hn ch acc vb W) : W.cell? ⟨B, 0, none⟩ = some (.slice ah hn ch) := by rw [Lib.cell_of_heap h.blk]; rfl
theorem veil_hide {us : List Nat} {r : Option Nat} {W : World} (h : ∀ g, r = some g → g ∈ us) : Keeps (veil us W) (hide r W) := by
  intro b o v hc
  obtain ⟨n1, n2⟩ := veil_cell hc
  cases r with
  | none => exact n2
  | some g => exact hide_of_ne (fun e => n1 (by rw [e]; exact h g rfl)) n2
theorem BodyI.row {r : Option Nat} {B : Nat} {ah : Option Addr} {hn ch : Nat} {acc : List Lt} {vb : Value} {W : World} (h : BodyI r.toList B ah hn ch acc vb W) (hr : ∀ g, r = some g → g < B) : ∃ a cap, vb = .slice a acc.length cap ∧ Row (hide r W) a cap acc := by
  obtain ⟨vs, h1, h2⟩ := h.own
  exact own_rowG (own_hide h1 (fun g hg => by have := hr g hg; omega)) (h2.keeps (veil_hide fun g hg => by simp [hg]))
/-- a made clause -/
structure ClT (c : Ct) : Prop where
  h : AtomT 12 c.h
  b : ∀ t ∈ c.b, AtomT 12 t.2
  four : c.b.length ≤ 4
end Md
open Md
set_option maxRecDepth 100000 in
set_option maxHeartbeats 16000000 in
theorem rClauses_any (l : List Cl) (a : Option Addr) (cap : Nat) (w : World) (hl : Row w a cap l) (most : Nat) (hm1 : most ≤ 100) :
    Calls Tryd.prog 12 #[.slice a l.length cap, .int .i64 most] w fun e w' => ∃ a' cap' cs, e = .returned (.slice a' (cs.map Ct.row).length cap') ∧ Row w' a' cap' (List.map Ct.row cs) ∧ (∀ c ∈ cs, ClT c) ∧ cs.length ≤ most ∧ Below w.heap.size w w' := by
  have hm := hl.max
  have hle := hl.le
  have HL := mkHid hl
  clear hl
  have hacc0 : AccInv w.heap.size 33 ([] : List Cl) (.slice (some ⟨w.heap.size, 0, none⟩) 0 0) (w.alloc (.cells #[] 33)) := AccInv.made w (Nat.le_refl _) rfl
  have HA0 := mkHid hacc0
  have hb0 := (Below.refl w.heap.size w).new (.cells #[] 33)
  clear hacc0
  go_enter Tryd.func12, Tryd.ntmps12
  go_wp2
  go_loopw [5, 6] (fun v i wr => ∃ (k : Nat) (cs : List Ct), i = .int .i64 k ∧ cs.length = k ∧ k ≤ l.length ∧ k ≤ most ∧ Hid (AccInv w.heap.size 33 (cs.map Ct.row) v wr) ∧ Hid (∀ c ∈ cs, ClT c) ∧ Below w.heap.size w wr) (fun v i wr => most - (intOf i).toNat)
  case atStart => exact ⟨0, [], rfl, rfl, by omega, by omega, HA0, mkHid (by simp), hb0⟩
  case round =>
    clear HA0 hb0
    obtain ⟨k, cs, rfl, hck, hk1, hk2, HACC, HCS, hbw⟩ := hrel
    obtain ⟨vo, hvoE⟩ : ∃ vo, vo = u5 := ⟨_, rfl⟩
    subst hvoE
    by_cases hlt : k < l.length
    · by_cases hltm : k < most
      · skip
        obtain ⟨b, off, rfl, hbl, hat⟩ := HL.out.cases.resolve_left (fun e => by rw [e] at hlt; simp at hlt)
        obtain ⟨ah0, ch0, ab0, cb0, d0, d1, rh0, rb0⟩ := cl_at hat (Below.refl _ _) hlt
        have HD1 := mkHid d1
        have z0 := keep d0 hbw
        have HRB := mkHid rb0
        have hatm := atom_where ah0 ch0 wr l[k].h (rh0.below hbw) 12 (by omega) (by omega)
        rw [show ((12 : Nat) : Int) = 12 from rfl] at hatm
        have HATM := mkHid hatm
        have HRH := mkHid rh0
        have HBW0 := mkHid hbw
        clear hat rh0 rb0 hatm hbl d0 d1
        go_wp2_with fail
        refine HATM.out.mono ?_
        rintro e W7 ⟨ah, ch, th, rfl, hmk, hath, hq7⟩
        have hb7 := HBW0.out.then hq7
        have hus7 : ∀ g, vo.ownBlock = some g → w.heap.size ≤ g ∧ g < wr.heap.size := fun g hg => HACC.out.lt g hg
        have hrowh : Row (veil vo.ownBlock.toList W7) ah ch th.flat := MadeAt.veil hmk HRH.out HBW0.out hq7 (fun k hk => hus7 k (by simpa using hk))
        have hacc7 := HACC.out.below hq7
        have HBI0 := mkHid (BodyI.start vo.ownBlock.toList W7 ah th.flat.length ch)
        obtain ⟨B, hB⟩ : ∃ B, W7.heap.size = B := ⟨_, rfl⟩
        have hB1 := Nat.le_of_eq hB
        have hB2 := Nat.le_of_eq hB.symm
        have HROWH := mkHid hrowh
        have HACC7 := mkHid hacc7
        have HQ7 := mkHid hq7
        have hvo : ∀ k ∈ vo.ownBlock.toList, k < B := fun k hk => by have := (hus7 k (by simpa using hk)).2; have := hq7.size; omega
        have hvo2 : ∀ k ∈ vo.ownBlock.toList, w.heap.size ≤ k := fun k hk => (hus7 k (by simpa using hk)).1
        have HVO := mkHid hvo
        have HVO2 := mkHid hvo2
        have HB70 := mkHid hb7
        have HATH := mkHid hath
        have hBBl : w.heap.size ≤ B := by have := hb7.size; omega
        have HBB := mkHid hBBl
        have HBN : Hid (Below B W7 (W7.alloc (.cells #[.slice ah th.flat.length ch, .slice none 0 0] 33))) := (Below.refl _ _).new _ |>.mono (by omega)
        clear hmk hath hq7 hb7 hus7 hrowh hacc7 hvo hvo2 z0
        go_wp2_with fail
        rw [hB] at HBI0
        generalize W7.alloc (.cells #[.slice ah th.flat.length ch, .slice none 0 0] 33) = W8 at *
        try rw [hB]
        clear hB
        go_loopw [8] (fun i wr => ∃ (j : Nat) (ts : List (Bool × Tm)) (vb : Value), i = .int .i64 j ∧ ts.length = j ∧ j ≤ 4 ∧ j ≤ l[k].b.length ∧ Hid (BodyI vo.ownBlock.toList B ah th.flat.length ch (ts.map litR) vb wr) ∧ Hid (∀ t ∈ ts, AtomT 12 t.2) ∧ Below B W7 wr) (fun i wr => 4 - (intOf i).toNat)
        case atStart => exact ⟨0, [], _, rfl, rfl, by omega, by omega, HBI0, mkHid (by simp), HBN.out⟩
        case round =>
          clear HBI0 HBN
          obtain ⟨j, ts, vb, rfl, htj, hj4, hjl, HBI, HTS, hb7r⟩ := hrel
          have HB7 := mkHid hb7r
          have hbwr : Below w.heap.size w wr := HB70.out.trans (hb7r.mono HBB.out)
          have zb := keep HD1.out hbwr
          have hBwr : B < wr.heap.size := (Array.getElem?_eq_some_iff.1 HBI.out.blk).1
          by_cases hjlt : j < l[k].b.length
          · by_cases hj3 : j < 4
            · obtain ⟨bb, ob, rfl, hbbl, hatb⟩ := HRB.out.cases.resolve_left (fun e => by rw [e] at hjlt; simp at hjlt)
              obtain ⟨at0, ct0, p0, p1, rt0⟩ := lt_at hatb (Below.refl _ _) hjlt
              have hrt0 := rt0
              have hSQ : ∀ W, Below w.heap.size w W → (fun w' : World => w'.cell? ⟨b, off + k * 2 + 1, none⟩ = some (.slice (some ⟨bb, ob, none⟩) l[k].b.length cb0) ∧ w'.cell? ⟨bb, ob + j * 2, none⟩ = some (.bool l[k].b[j].neg) ∧ w'.cell? ⟨bb, ob + j * 2 + 1, none⟩ = some (.slice at0 l[k].b[j].t.length ct0)) W := fun W h => ⟨keep HD1.out h, keep p0 h, keep p1 h⟩
              have HSQ := mkHid hSQ
              have hatom : ∀ W, Below wr.heap.size wr W → Calls Tryd.prog 28 #[.slice at0 l[k].b[j].t.length ct0, .int .i64 12] W fun e w' => ∃ a' cap' t, e = .returned (.slice a' (Tm.flat t).length cap') ∧ MadeAt W at0 ct0 l[k].b[j].t w' a' cap' t.flat ∧ AtomT 12 t ∧ Below W.heap.size W w' := fun W hW => atom_where at0 ct0 W l[k].b[j].t (rt0.below (hbwr.then hW)) 12 (by omega) (by omega)
              have HATOM := mkHid hatom
              have hcd := (Below.refl wr.heap.size wr).drew
              have hcd0 : Below B wr wr.drew := (Below.refl _ _).drew
              have hus : ∀ q ∈ (B :: (vb.ownBlock.toList ++ vo.ownBlock.toList)), w.heap.size ≤ q ∧ q < wr.heap.size := by
                intro q hq
                simp only [List.mem_cons, List.mem_append] at hq
                rcases hq with rfl | hq | hq
                · exact ⟨HBB.out, hBwr⟩
                · obtain ⟨vs, h1, _⟩ := HBI.out.own
                  have := h1.lt q (by simpa using hq)
                  have := HBB.out
                  omega
                · exact ⟨HVO2.out q hq, by have := HVO.out q hq; omega⟩
              have HUS := mkHid hus
              have HBW := mkHid hbwr
              have q0 := HBI.out.cell
              have HRT := mkHid hrt0
              clear hSQ hatom hus hatb rt0 hb7r hbbl hbwr hrt0 p0 p1
              go_wp2_with fail
              refine wp_region_noPanic ?_
              refine wp_region_held_drew (S := (fun w' : World => w'.cell? ⟨b, off + k * 2 + 1, none⟩ = some (.slice (some ⟨bb, ob, none⟩) l[k].b.length cb0) ∧ w'.cell? ⟨bb, ob + j * 2, none⟩ = some (.bool l[k].b[j].neg) ∧ w'.cell? ⟨bb, ob + j * 2 + 1, none⟩ = some (.slice at0 l[k].b[j].t.length ct0))) (by kernel_rfl) (HSQ.out _ (HBW.out.then hcd)) (fun hSd => ?_)
              refine wpAnyH_take (i := 0) (oi := _) (v := ?_) rfl (by kernel_rfl) (by kernel_rfl) (by kernel_rfl) (fun _ _ _ h => h) (Or.inl ⟨by rfl, ?_⟩) (by assumption) ?_
              rotate_left
              · (intro w' hSw; (try dsimp only at hSw); go_simp; try with_reducible rfl)
              (try simp only [Act.put, List.setIfInBounds_toArray, List.set_cons_zero, List.set_cons_succ])
              refine wpAnyH_take (i := 2) (oi := _) (v := ?_) rfl (by kernel_rfl) (by kernel_rfl) (by kernel_rfl) (fun _ _ _ h => h) (Or.inl ⟨by rfl, ?_⟩) (by assumption) ?_
              rotate_left
              · (intro w' hSw; (try dsimp only at hSw); go_simp; try with_reducible rfl)
              (try simp only [Act.put, List.setIfInBounds_toArray, List.set_cons_zero, List.set_cons_succ])
              refine wpAnyH_take (i := 3) (oi := _) (v := ?_) rfl (by kernel_rfl) (by kernel_rfl) (by kernel_rfl) (fun _ _ _ h => h) (Or.inl ⟨by rfl, ?_⟩) (by assumption) ?_
              rotate_left
              · (intro w' hSw; (try dsimp only at hSw); go_simp; try with_reducible rfl)
              (try simp only [Act.put, List.setIfInBounds_toArray, List.set_cons_zero, List.set_cons_succ])
              refine wpAnyH_take (i := 4) (oi := _) (v := ?_) rfl (by kernel_rfl) (by kernel_rfl) (by kernel_rfl) (fun _ _ _ h => h) (Or.inl ⟨by rfl, ?_⟩) (by assumption) ?_
              rotate_left
              · (intro w' hSw; (try dsimp only at hSw); go_simp; try with_reducible rfl)
              (try simp only [Act.put, List.setIfInBounds_toArray, List.set_cons_zero, List.set_cons_succ])
              refine wpAnyH_take (i := 5) (oi := _) (v := ?_) rfl (by kernel_rfl) (by kernel_rfl) (by kernel_rfl) (fun _ _ _ h => h) (Or.inl ⟨by rfl, ?_⟩) (by assumption) ?_
              rotate_left
              · (intro w' hSw; (try dsimp only at hSw); go_simp; try with_reducible rfl)
              (try simp only [Act.put, List.setIfInBounds_toArray, List.set_cons_zero, List.set_cons_succ])
              refine wpAnyH_take (i := 6) (oi := _) (v := ?_) rfl (by kernel_rfl) (by kernel_rfl) (by kernel_rfl) (fun _ _ _ h => h) (Or.inl ⟨by rfl, ?_⟩) (by assumption) ?_
              rotate_left
              · (intro w' hSw; (try dsimp only at hSw); go_simp; try with_reducible rfl)
              (try simp only [Act.put, List.setIfInBounds_toArray, List.set_cons_zero, List.set_cons_succ])
              refine wpAnyH_take (i := 7) (oi := _) (v := ?_) rfl (by kernel_rfl) (by kernel_rfl) (by kernel_rfl) (fun _ _ _ h => h) (Or.inl ⟨by rfl, ?_⟩) (by assumption) ?_
              rotate_left
              · (intro w' hSw; (try dsimp only at hSw); go_simp; try with_reducible rfl)
              (try simp only [Act.put, List.setIfInBounds_toArray, List.set_cons_zero, List.set_cons_succ])
              refine wpAnyH_take (i := 8) (oi := _) (v := ?_) rfl (by kernel_rfl) (by kernel_rfl) (by kernel_rfl) (fun _ _ _ h => h) (Or.inl ⟨by rfl, ?_⟩) (by assumption) ?_
              rotate_left
              · (intro w' hSw; (try dsimp only at hSw); go_simp; try with_reducible rfl)
              (try simp only [Act.put, List.setIfInBounds_toArray, List.set_cons_zero, List.set_cons_succ])
              refine wpAnyH_take (i := 9) (oi := _) (v := ?_) rfl (by kernel_rfl) (by kernel_rfl) (by kernel_rfl) (fun _ _ _ h => h) (Or.inl ⟨by rfl, ?_⟩) (by assumption) ?_
              rotate_left
              · (intro w' hSw; (try dsimp only at hSw); go_simp; try with_reducible rfl)
              (try simp only [Act.put, List.setIfInBounds_toArray, List.set_cons_zero, List.set_cons_succ])
              refine wpAnyH_take (i := 10) (oi := _) (v := ?_) rfl (by kernel_rfl) (by kernel_rfl) (by kernel_rfl) (fun _ _ _ h => h) (Or.inl ⟨by rfl, ?_⟩) (by assumption) ?_
              rotate_left
              · (intro w' hSw; (try dsimp only at hSw); go_simp; try with_reducible rfl)
              (try simp only [Act.put, List.setIfInBounds_toArray, List.set_cons_zero, List.set_cons_succ])
              refine wpAnyH_take (i := 11) (oi := _) (v := ?_) rfl (by kernel_rfl) (by kernel_rfl) (by kernel_rfl) (fun _ _ _ h => h) (Or.inl ⟨by rfl, ?_⟩) (by assumption) ?_
              rotate_left
              · (intro w' hSw; (try dsimp only at hSw); go_simp; try with_reducible rfl)
              (try simp only [Act.put, List.setIfInBounds_toArray, List.set_cons_zero, List.set_cons_succ])
              refine wpAnyH_take (i := 12) (oi := _) (v := ?_) rfl (by kernel_rfl) (by kernel_rfl) (by kernel_rfl) (fun _ _ _ h => h) (Or.inl ⟨by rfl, ?_⟩) (by assumption) ?_
              rotate_left
              · (intro w' hSw; (try dsimp only at hSw); go_simp; try with_reducible rfl)
              (try simp only [Act.put, List.setIfInBounds_toArray, List.set_cons_zero, List.set_cons_succ])
              refine wpAnyH_take (i := 13) (oi := _) (v := ?_) rfl (by kernel_rfl) (by kernel_rfl) (by kernel_rfl) (fun _ _ _ h => h) (Or.inl ⟨by rfl, ?_⟩) (by assumption) ?_
              rotate_left
              · (intro w' hSw; (try dsimp only at hSw); go_simp; try with_reducible rfl)
              (try simp only [Act.put, List.setIfInBounds_toArray, List.set_cons_zero, List.set_cons_succ])
              refine wpAnyH_take (i := 14) (oi := _) (v := ?_) rfl (by kernel_rfl) (by kernel_rfl) (by kernel_rfl) (fun _ _ _ h => h) (Or.inl ⟨by rfl, ?_⟩) (by assumption) ?_
              rotate_left
              · (intro w' hSw; (try dsimp only at hSw); go_simp; try with_reducible rfl)
              (try simp only [Act.put, List.setIfInBounds_toArray, List.set_cons_zero, List.set_cons_succ])
              refine wpAnyH_take (i := 15) (oi := _) (v := ?_) rfl (by kernel_rfl) (by kernel_rfl) (by kernel_rfl) (fun _ _ _ h => h) (Or.inl ⟨by rfl, ?_⟩) (by assumption) ?_
              rotate_left
              · (intro w' hSw; (try dsimp only at hSw); go_simp; try with_reducible rfl)
              (try simp only [Act.put, List.setIfInBounds_toArray, List.set_cons_zero, List.set_cons_succ])
              refine wpAnyH_take (i := 16) (oi := _) (v := ?_) rfl (by kernel_rfl) (by kernel_rfl) (by kernel_rfl) (fun _ _ _ h => h) (Or.inl ⟨by rfl, ?_⟩) (by assumption) ?_
              rotate_left
              · (intro w' hSw; (try dsimp only at hSw); go_simp; try with_reducible rfl)
              (try simp only [Act.put, List.setIfInBounds_toArray, List.set_cons_zero, List.set_cons_succ])
              refine wpAnyH_take (i := 17) (oi := _) (v := ?_) rfl (by kernel_rfl) (by kernel_rfl) (by kernel_rfl) (fun _ _ _ h => h) (Or.inl ⟨by rfl, ?_⟩) (by assumption) ?_
              rotate_left
              · (intro w' hSw; (try dsimp only at hSw); go_simp; try with_reducible rfl)
              (try simp only [Act.put, List.setIfInBounds_toArray, List.set_cons_zero, List.set_cons_succ])
              refine wpAnyH_take (i := 18) (oi := _) (v := ?_) rfl (by kernel_rfl) (by kernel_rfl) (by kernel_rfl) (fun _ _ _ h => h) (Or.inl ⟨by rfl, ?_⟩) (by assumption) ?_
              rotate_left
              · (intro w' hSw; (try dsimp only at hSw); go_simp; try with_reducible rfl)
              (try simp only [Act.put, List.setIfInBounds_toArray, List.set_cons_zero, List.set_cons_succ])
              refine wpAnyH_take (i := 19) (oi := _) (v := ?_) rfl (by kernel_rfl) (by kernel_rfl) (by kernel_rfl) (fun _ _ _ h => h) (Or.inl ⟨by rfl, ?_⟩) (by assumption) ?_
              rotate_left
              · (intro w' hSw; (try dsimp only at hSw); go_simp; try with_reducible rfl)
              (try simp only [Act.put, List.setIfInBounds_toArray, List.set_cons_zero, List.set_cons_succ])
              refine wpAnyH_ready (rs := [1, 20]) (by kernel_rfl) (by simp) ?_
              refine AllReadyH.cons (o := _) rfl (fun Kq hKq => ?_) ?_
              · go_simp
                try dsimp only
                refine hKq.out _ _ (HSQ.out _ (HBW.out.then hcd)) (fun _ => ?_)
                clear hKq Kq
                (try simp only [Act.put, List.setIfInBounds_toArray, List.set_cons_zero, List.set_cons_succ])
                refine wpAnyH_ready (rs := [20]) (by kernel_rfl) (by simp) ?_
                refine AllReadyH.cons (o := _) rfl (fun Kq hKq => ?_) AllReadyH.nil
                go_simp
                refine (HATOM.out _ hcd).mono ?_
                rintro e V1 ⟨at1, ct1, t, rfl, hmk, hat, hq1⟩
                have hc1 := hcd.then hq1
                have hBlt : B < V1.heap.size := Nat.lt_of_lt_of_le hBwr hc1.size
                have hbody1 : BodyI vo.ownBlock.toList B ah th.flat.length ch (ts.map litR) vb V1 := BodyI.below HBI.out hc1
                have hrow1 : Row (veil (B :: (vb.ownBlock.toList ++ vo.ownBlock.toList)) V1) at1 ct1 (Tm.flat t) := MadeAt.veil hmk HRT.out (HBW.out.then hcd) hq1 HUS.out
                obtain ⟨g5, cap5, wa, hrun, hblk, hba, hnext⟩ := BodyI.add hbody1 (by simp; omega) HVO.out hBlt (neg := l[k].b[j].neg) hrow1 31
                rw [List.length_map, htj] at hrun hnext
                have HQ1 := mkHid hq1
                have HNEXT := mkHid hnext
                have HAT := mkHid hat
                have HCA := mkHid (HBW.out.then hc1 |>.trans (hba.mono (by omega)))
                have HWA := mkHid hba
                have e1 : wa.cell? ⟨B, 1, none⟩ = some vb := by rw [Lib.cell_of_heap hblk]; rfl
                have f1 : wa.frozen? ⟨B, 1, none⟩ = false := Lib.frozen_of_heap hblk 1
                have HS1 := mkHid (HSQ.out _ (HBW.out.then hc1))
                have HS2 := mkHid (HSQ.out _ ((HBW.out.then hc1).then ((Below.refl _ V1).new (.cells #[.bool l[k].b[j].neg, .slice at1 (Tm.flat t).length ct1] 49))))
                have HSA := mkHid (HSQ.out _ HCA.out)
                have HSB := mkHid (HSQ.out _ (HCA.out.setCell (p := ⟨B, 1, none⟩) HBB.out (.slice (some ⟨g5, 0, none⟩) (j + 1) cap5)))
                have q1 := hbody1.cell
                have HLEN := mkHid hat.len
                clear hmk hq1 hbody1 hrow1 hnext hat hba hblk
                try dsimp only
                refine hKq.out _ _ (HS1.out) (fun _ => ?_)
                clear hKq Kq
                (try simp only [Act.put, List.setIfInBounds_toArray, List.set_cons_zero, List.set_cons_succ])
                refine wpAnyH_take (i := 21) (oi := _) (v := ?_) rfl (by kernel_rfl) (by kernel_rfl) (by kernel_rfl) (fun _ _ _ h => h) (Or.inl ⟨by rfl, ?_⟩) (by assumption) ?_
                rotate_left
                · (intro w' hSw; (try dsimp only at hSw); go_simp; try with_reducible rfl)
                (try simp only [Act.put, List.setIfInBounds_toArray, List.set_cons_zero, List.set_cons_succ])
                refine wpAnyH_ready (rs := [22]) (by kernel_rfl) (by simp) ?_
                refine AllReadyH.cons (o := _) rfl (fun Kq hKq => ?_) AllReadyH.nil
                go_simp
                try dsimp only
                refine hKq.out _ _ (HS2.out) (fun _ => ?_)
                clear hKq Kq
                (try simp only [Act.put, List.setIfInBounds_toArray, List.set_cons_zero, List.set_cons_succ])
                refine wpAnyH_ready (rs := [23]) (by kernel_rfl) (by simp) ?_
                refine AllReadyH.cons (o := _) rfl (fun Kq hKq => ?_) AllReadyH.nil
                (rw [if_pos (by rfl)]; simp [Oper.wp, execOp, resolve, invoke, builtin, Oper.upon, Act.eval, hrun, Result.andThen, Sem.run_bind])
                try dsimp only
                refine hKq.out _ _ (HSA.out) (fun _ => ?_)
                clear hKq Kq
                (try simp only [Act.put, List.setIfInBounds_toArray, List.set_cons_zero, List.set_cons_succ])
                refine wpAnyH_take (i := 24) (oi := _) (v := ?_) rfl (by kernel_rfl) (by kernel_rfl) (by kernel_rfl) (fun _ _ _ h => h) (Or.inl ⟨by rfl, ?_⟩) (by assumption) ?_
                rotate_left
                · (intro w' hSw; (try dsimp only at hSw); go_simp; try with_reducible rfl)
                (try simp only [Act.put, List.setIfInBounds_toArray, List.set_cons_zero, List.set_cons_succ])
                refine wpAnyH_ready (rs := [25]) (by kernel_rfl) (by simp) ?_
                refine AllReadyH.cons (o := _) rfl (fun Kq hKq => ?_) AllReadyH.nil
                go_simp
                try dsimp only
                refine hKq.out _ _ (HSB.out) (fun _ => ?_)
                clear hKq Kq
                (try simp only [Act.put, List.setIfInBounds_toArray, List.set_cons_zero, List.set_cons_succ])
                refine wpAnyH_done (by kernel_rfl) (NoPanic.normal ?_) _
                have HN2 : Hid (BodyI vo.ownBlock.toList B ah th.flat.length ch ((ts ++ [(l[k].b[j].neg, t)]).map litR) (.slice (some ⟨g5, 0, none⟩) (j + 1) cap5) (wa.setCell ⟨B, 1, none⟩ (.slice (some ⟨g5, 0, none⟩) (j + 1) cap5))) := by
                  rw [Hid, List.map_append]; exact HNEXT.out
                have HB2 : Hid (Below B W7 (wa.setCell ⟨B, 1, none⟩ (.slice (some ⟨g5, 0, none⟩) (j + 1) cap5))) := ((HB7.out.trans (hcd0.trans (HQ1.out.mono (by show B ≤ wr.heap.size; omega)))).trans (HWA.out.mono (by omega))).setCell (p := ⟨B, 1, none⟩) (Nat.le_refl _) _
                generalize wa.setCell ⟨B, 1, none⟩ (.slice (some ⟨g5, 0, none⟩) (j + 1) cap5) = W9 at *
                clear e1 f1 hrun HS1 HS2 HSA HSB HNEXT HCA HWA HQ1 q1
                go_wp2_with fail
                go_round
                case rel => exact ⟨j + 1, ts ++ [(l[k].b[j].neg, t)], _, by go_num, by simp; omega, by omega, by omega, HN2.out, mkHid (fun x hx => by
                  rcases List.mem_append.1 hx with hx | hx
                  · exact HTS.out x hx
                  · rw [List.mem_singleton.1 hx]; exact HAT.out), HB2.out⟩
                case measure => simp [intOf]; omega
              refine AllReadyH.cons (o := _) rfl (fun Kq hKq => ?_) AllReadyH.nil
              go_simp
              refine (HATOM.out _ hcd).mono ?_
              rintro e V1 ⟨at1, ct1, t, rfl, hmk, hat, hq1⟩
              have hc1 := hcd.then hq1
              have hBlt : B < V1.heap.size := Nat.lt_of_lt_of_le hBwr hc1.size
              have hbody1 : BodyI vo.ownBlock.toList B ah th.flat.length ch (ts.map litR) vb V1 := BodyI.below HBI.out hc1
              have hrow1 : Row (veil (B :: (vb.ownBlock.toList ++ vo.ownBlock.toList)) V1) at1 ct1 (Tm.flat t) := MadeAt.veil hmk HRT.out (HBW.out.then hcd) hq1 HUS.out
              obtain ⟨g5, cap5, wa, hrun, hblk, hba, hnext⟩ := BodyI.add hbody1 (by simp; omega) HVO.out hBlt (neg := l[k].b[j].neg) hrow1 31
              rw [List.length_map, htj] at hrun hnext
              have HQ1 := mkHid hq1
              have HNEXT := mkHid hnext
              have HAT := mkHid hat
              have HCA := mkHid (HBW.out.then hc1 |>.trans (hba.mono (by omega)))
              have HWA := mkHid hba
              have e1 : wa.cell? ⟨B, 1, none⟩ = some vb := by rw [Lib.cell_of_heap hblk]; rfl
              have f1 : wa.frozen? ⟨B, 1, none⟩ = false := Lib.frozen_of_heap hblk 1
              have HS1 := mkHid (HSQ.out _ (HBW.out.then hc1))
              have HS2 := mkHid (HSQ.out _ ((HBW.out.then hc1).then ((Below.refl _ V1).new (.cells #[.bool l[k].b[j].neg, .slice at1 (Tm.flat t).length ct1] 49))))
              have HSA := mkHid (HSQ.out _ HCA.out)
              have HSB := mkHid (HSQ.out _ (HCA.out.setCell (p := ⟨B, 1, none⟩) HBB.out (.slice (some ⟨g5, 0, none⟩) (j + 1) cap5)))
              have q1 := hbody1.cell
              have HLEN := mkHid hat.len
              clear hmk hq1 hbody1 hrow1 hnext hat hba hblk
              try dsimp only
              refine hKq.out _ _ (HS1.out) (fun _ => ?_)
              clear hKq Kq
              (try simp only [Act.put, List.setIfInBounds_toArray, List.set_cons_zero, List.set_cons_succ])
              refine wpAnyH_take (i := 21) (oi := _) (v := ?_) rfl (by kernel_rfl) (by kernel_rfl) (by kernel_rfl) (fun _ _ _ h => h) (Or.inl ⟨by rfl, ?_⟩) (by assumption) ?_
              rotate_left
              · (intro w' hSw; (try dsimp only at hSw); go_simp; try with_reducible rfl)
              (try simp only [Act.put, List.setIfInBounds_toArray, List.set_cons_zero, List.set_cons_succ])
              refine wpAnyH_ready (rs := [1, 22]) (by kernel_rfl) (by simp) ?_
              refine AllReadyH.cons (o := _) rfl (fun Kq hKq => ?_) ?_
              · go_simp
                try dsimp only
                refine hKq.out _ _ (HS1.out) (fun _ => ?_)
                clear hKq Kq
                (try simp only [Act.put, List.setIfInBounds_toArray, List.set_cons_zero, List.set_cons_succ])
                refine wpAnyH_ready (rs := [22]) (by kernel_rfl) (by simp) ?_
                refine AllReadyH.cons (o := _) rfl (fun Kq hKq => ?_) AllReadyH.nil
                go_simp
                try dsimp only
                refine hKq.out _ _ (HS2.out) (fun _ => ?_)
                clear hKq Kq
                (try simp only [Act.put, List.setIfInBounds_toArray, List.set_cons_zero, List.set_cons_succ])
                refine wpAnyH_ready (rs := [23]) (by kernel_rfl) (by simp) ?_
                refine AllReadyH.cons (o := _) rfl (fun Kq hKq => ?_) AllReadyH.nil
                (rw [if_pos (by rfl)]; simp [Oper.wp, execOp, resolve, invoke, builtin, Oper.upon, Act.eval, hrun, Result.andThen, Sem.run_bind])
                try dsimp only
                refine hKq.out _ _ (HSA.out) (fun _ => ?_)
                clear hKq Kq
                (try simp only [Act.put, List.setIfInBounds_toArray, List.set_cons_zero, List.set_cons_succ])
                refine wpAnyH_take (i := 24) (oi := _) (v := ?_) rfl (by kernel_rfl) (by kernel_rfl) (by kernel_rfl) (fun _ _ _ h => h) (Or.inl ⟨by rfl, ?_⟩) (by assumption) ?_
                rotate_left
                · (intro w' hSw; (try dsimp only at hSw); go_simp; try with_reducible rfl)
                (try simp only [Act.put, List.setIfInBounds_toArray, List.set_cons_zero, List.set_cons_succ])
                refine wpAnyH_ready (rs := [25]) (by kernel_rfl) (by simp) ?_
                refine AllReadyH.cons (o := _) rfl (fun Kq hKq => ?_) AllReadyH.nil
                go_simp
                try dsimp only
                refine hKq.out _ _ (HSB.out) (fun _ => ?_)
                clear hKq Kq
                (try simp only [Act.put, List.setIfInBounds_toArray, List.set_cons_zero, List.set_cons_succ])
                refine wpAnyH_done (by kernel_rfl) (NoPanic.normal ?_) _
                have HN2 : Hid (BodyI vo.ownBlock.toList B ah th.flat.length ch ((ts ++ [(l[k].b[j].neg, t)]).map litR) (.slice (some ⟨g5, 0, none⟩) (j + 1) cap5) (wa.setCell ⟨B, 1, none⟩ (.slice (some ⟨g5, 0, none⟩) (j + 1) cap5))) := by
                  rw [Hid, List.map_append]; exact HNEXT.out
                have HB2 : Hid (Below B W7 (wa.setCell ⟨B, 1, none⟩ (.slice (some ⟨g5, 0, none⟩) (j + 1) cap5))) := ((HB7.out.trans (hcd0.trans (HQ1.out.mono (by show B ≤ wr.heap.size; omega)))).trans (HWA.out.mono (by omega))).setCell (p := ⟨B, 1, none⟩) (Nat.le_refl _) _
                generalize wa.setCell ⟨B, 1, none⟩ (.slice (some ⟨g5, 0, none⟩) (j + 1) cap5) = W9 at *
                clear e1 f1 hrun HS1 HS2 HSA HSB HNEXT HCA HWA HQ1 q1
                go_wp2_with fail
                go_round
                case rel => exact ⟨j + 1, ts ++ [(l[k].b[j].neg, t)], _, by go_num, by simp; omega, by omega, by omega, HN2.out, mkHid (fun x hx => by
                  rcases List.mem_append.1 hx with hx | hx
                  · exact HTS.out x hx
                  · rw [List.mem_singleton.1 hx]; exact HAT.out), HB2.out⟩
                case measure => simp [intOf]; omega
              refine AllReadyH.cons (o := _) rfl (fun Kq hKq => ?_) AllReadyH.nil
              go_simp
              try dsimp only
              refine hKq.out _ _ (HS2.out) (fun _ => ?_)
              clear hKq Kq
              (try simp only [Act.put, List.setIfInBounds_toArray, List.set_cons_zero, List.set_cons_succ])
              refine wpAnyH_ready (rs := [1]) (by kernel_rfl) (by simp) ?_
              refine AllReadyH.cons (o := _) rfl (fun Kq hKq => ?_) AllReadyH.nil
              go_simp
              try dsimp only
              refine hKq.out _ _ (HS2.out) (fun _ => ?_)
              clear hKq Kq
              (try simp only [Act.put, List.setIfInBounds_toArray, List.set_cons_zero, List.set_cons_succ])
              refine wpAnyH_ready (rs := [23]) (by kernel_rfl) (by simp) ?_
              refine AllReadyH.cons (o := _) rfl (fun Kq hKq => ?_) AllReadyH.nil
              (rw [if_pos (by rfl)]; simp [Oper.wp, execOp, resolve, invoke, builtin, Oper.upon, Act.eval, hrun, Result.andThen, Sem.run_bind])
              try dsimp only
              refine hKq.out _ _ (HSA.out) (fun _ => ?_)
              clear hKq Kq
              (try simp only [Act.put, List.setIfInBounds_toArray, List.set_cons_zero, List.set_cons_succ])
              refine wpAnyH_take (i := 24) (oi := _) (v := ?_) rfl (by kernel_rfl) (by kernel_rfl) (by kernel_rfl) (fun _ _ _ h => h) (Or.inl ⟨by rfl, ?_⟩) (by assumption) ?_
              rotate_left
              · (intro w' hSw; (try dsimp only at hSw); go_simp; try with_reducible rfl)
              (try simp only [Act.put, List.setIfInBounds_toArray, List.set_cons_zero, List.set_cons_succ])
              refine wpAnyH_ready (rs := [25]) (by kernel_rfl) (by simp) ?_
              refine AllReadyH.cons (o := _) rfl (fun Kq hKq => ?_) AllReadyH.nil
              go_simp
              try dsimp only
              refine hKq.out _ _ (HSB.out) (fun _ => ?_)
              clear hKq Kq
              (try simp only [Act.put, List.setIfInBounds_toArray, List.set_cons_zero, List.set_cons_succ])
              refine wpAnyH_done (by kernel_rfl) (NoPanic.normal ?_) _
              have HN2 : Hid (BodyI vo.ownBlock.toList B ah th.flat.length ch ((ts ++ [(l[k].b[j].neg, t)]).map litR) (.slice (some ⟨g5, 0, none⟩) (j + 1) cap5) (wa.setCell ⟨B, 1, none⟩ (.slice (some ⟨g5, 0, none⟩) (j + 1) cap5))) := by
                rw [Hid, List.map_append]; exact HNEXT.out
              have HB2 : Hid (Below B W7 (wa.setCell ⟨B, 1, none⟩ (.slice (some ⟨g5, 0, none⟩) (j + 1) cap5))) := ((HB7.out.trans (hcd0.trans (HQ1.out.mono (by show B ≤ wr.heap.size; omega)))).trans (HWA.out.mono (by omega))).setCell (p := ⟨B, 1, none⟩) (Nat.le_refl _) _
              generalize wa.setCell ⟨B, 1, none⟩ (.slice (some ⟨g5, 0, none⟩) (j + 1) cap5) = W9 at *
              clear e1 f1 hrun HS1 HS2 HSA HSB HNEXT HCA HWA HQ1 q1
              go_wp2_with fail
              go_round
              case rel => exact ⟨j + 1, ts ++ [(l[k].b[j].neg, t)], _, by go_num, by simp; omega, by omega, by omega, HN2.out, mkHid (fun x hx => by
                rcases List.mem_append.1 hx with hx | hx
                · exact HTS.out x hx
                · rw [List.mem_singleton.1 hx]; exact HAT.out), HB2.out⟩
              case measure => simp [intOf]; omega
            · obtain ⟨ab, cb, rfl, hrowb⟩ := HBI.out.row (r := vo.ownBlock) (fun g hg => HVO.out g (by simpa using hg))
              have y0 := HBI.out.cell0
              have y1 := HBI.out.cell
              have hkw : Keeps (veil vo.ownBlock.toList W7) (veil vo.ownBlock.toList wr) := veil_keepsK (Keeps.of (hb7r.mono hB1))
              have haccr : Hid (AccInv w.heap.size 33 (cs.map Ct.row) vo wr) := HACC7.out.below (hb7r.mono hB1)
              have hrh : Hid (Row (hide vo.ownBlock wr) ah ch th.flat) := (HROWH.out.keeps hkw).keeps (veil_hide fun g hg => by simp [hg])
              have hrb : Hid (Row (hide vo.ownBlock wr) ab cb (ts.map litR)) := hrowb
              have HBW := mkHid hbwr
              have hszw := hbwr.size
              clear hkw hrowb hb7r hbwr
              go_wp2_with (at_builtin; refine wpList_acc (α := Cl) rfl _ _ 23 rfl w.heap.size 33 48 _ Tryd.underlying23 infoClauseM rfl (by decide) _ (cs.map Ct.row) haccr.out (by rfl) _ #[.slice ah th.flat.length ch, .slice ab j cb] (⟨th.flat, ts.map litR⟩ : Cl) ⟨ah, ch, ab, cb, by simp [htj], hrh.out, hrb.out⟩ (by rfl) (by simp; omega) hszw ?_; intro v9 W9 hacc9 hb9)
              go_round
              case rel => exact ⟨k + 1, cs ++ [⟨th, ts⟩], by go_num, by simp; omega, by omega, by omega, by rw [Hid, List.map_append]; exact hacc9, mkHid (fun x hx => by
                rcases List.mem_append.1 hx with hx | hx
                · exact HCS.out x hx
                · rw [List.mem_singleton.1 hx]; exact ⟨HATH.out, HTS.out, by show ts.length ≤ 4; omega⟩), HBW.out.trans hb9⟩
              case measure => simp [intOf]; omega
          · obtain ⟨ab, cb, rfl, hrowb⟩ := HBI.out.row (r := vo.ownBlock) (fun g hg => HVO.out g (by simpa using hg))
            have y0 := HBI.out.cell0
            have y1 := HBI.out.cell
            have hkw : Keeps (veil vo.ownBlock.toList W7) (veil vo.ownBlock.toList wr) := veil_keepsK (Keeps.of (hb7r.mono hB1))
            have haccr : Hid (AccInv w.heap.size 33 (cs.map Ct.row) vo wr) := HACC7.out.below (hb7r.mono hB1)
            have hrh : Hid (Row (hide vo.ownBlock wr) ah ch th.flat) := (HROWH.out.keeps hkw).keeps (veil_hide fun g hg => by simp [hg])
            have hrb : Hid (Row (hide vo.ownBlock wr) ab cb (ts.map litR)) := hrowb
            have HBW := mkHid hbwr
            have hszw := hbwr.size
            clear hkw hrowb hb7r hbwr
            go_wp2_with (at_builtin; refine wpList_acc (α := Cl) rfl _ _ 23 rfl w.heap.size 33 48 _ Tryd.underlying23 infoClauseM rfl (by decide) _ (cs.map Ct.row) haccr.out (by rfl) _ #[.slice ah th.flat.length ch, .slice ab j cb] (⟨th.flat, ts.map litR⟩ : Cl) ⟨ah, ch, ab, cb, by simp [htj], hrh.out, hrb.out⟩ (by rfl) (by simp; omega) hszw ?_; intro v9 W9 hacc9 hb9)
            go_round
            case rel => exact ⟨k + 1, cs ++ [⟨th, ts⟩], by go_num, by simp; omega, by omega, by omega, by rw [Hid, List.map_append]; exact hacc9, mkHid (fun x hx => by
              rcases List.mem_append.1 hx with hx | hx
              · exact HCS.out x hx
              · rw [List.mem_singleton.1 hx]; exact ⟨HATH.out, HTS.out, by show ts.length ≤ 4; omega⟩), HBW.out.trans hb9⟩
            case measure => simp [intOf]; omega
      · obtain ⟨a9, c9, rfl, hr9⟩ := HACC.out.row
        have HR9 := mkHid hr9
        have HB9 := mkHid hbw
        clear hr9
        go_wp2
        go_ret
        exact ⟨a9, c9, cs, rfl, HR9.out, HCS.out, by omega, HB9.out⟩
    · obtain ⟨a9, c9, rfl, hr9⟩ := HACC.out.row
      have HR9 := mkHid hr9
      have HB9 := mkHid hbw
      clear hr9
      go_wp2
      go_ret
      exact ⟨a9, c9, cs, rfl, HR9.out, HCS.out, by omega, HB9.out⟩
end Go.Proofs.YtabjghmfjoefpaaDoor
set_option linter.unusedVariables false
namespace Go.Proofs.YtabjghmfjoefpaaDoor
open Go.RowKit

/-! ### the laws' own makers -/
set_option maxHeartbeats 1600000 in
theorem hfun_any (nm : ByteArray) (n : Int) (a : Option Addr) (cap : Nat) (w : World) (l : List Cel) (hr : Row w a cap l) (hl : l.length ≤ 1000) (hn : 0 ≤ n ∧ n ≤ 1000) (hnm : nm.size ≤ 1000) :
    Calls Tryd.prog 31 #[.string nm, .int .i64 n, .slice a l.length cap] w fun e w' => ∃ a' cap', e = .returned (.slice a' (l.length + 1) cap') ∧ NewRow w.heap.size w' a' cap' (⟨3, nm, n⟩ :: l) ∧ Below w.heap.size w w' := by
  have hm := hr.max
  have hle := hr.le
  have hcf : (⟨3, nm, n⟩ : Cel).fit := ⟨by simp, by simp, by show (-9223372036854775808 : Int) ≤ n; omega, by show n ≤ 9223372036854775807; omega, by show nm.size ≤ 9223372036854775807; omega⟩
  have hb0 := (Below.refl w.heap.size w).new (.cells #[.int .i64 3, .string nm, .int .i64 n] 62)
  have hown0 : (w.alloc (.cells #[.int .i64 3, .string nm, .int .i64 n] 62)).ownsRow w.heap.size 62 3 (.slice (some ⟨w.heap.size, 0, none⟩) 1 1) 1 (flat [⟨3, nm, n⟩]) := by
    have := World.ownsRow_lit (base := w.heap.size) (e := 62) (size := 3) w #[.int .i64 3, .string nm, .int .i64 n] 1 (Nat.le_refl _) (by unfold maxLen; omega) rfl
    simpa [flat] using this
  go_enter Tryd.func31, Tryd.ntmps31
  go_wp2_with (at_builtin; refine wpList_app rfl _ _ 22 rfl w.heap.size 62 3 32 _ Tryd.underlying22 Tryd.infoCell rfl (by decide) (by decide) _ _ _ rfl hown0 a l.length cap (flat l) rfl ((hr.below hb0).src) (by omega) hb0.size ?_; intro v' w3 hown3 _ hb3)
  rw [← flat_append] at hown3
  obtain ⟨a2, cap2, rfl, hrow⟩ := own_new (xs := [⟨3, nm, n⟩] ++ l) (by rw [List.length_append, List.length_singleton]; exact hown3) (fun c hc => by
    rcases List.mem_append.1 hc with h | h
    · rw [List.mem_singleton] at h; rw [h]; exact hcf
    · exact hr.fit c h)
  go_ret
  exact ⟨a2, cap2, by rw [List.length_append, Nat.add_comm]; rfl, hrow, hb0.trans hb3⟩
end Go.Proofs.YtabjghmfjoefpaaDoor
set_option linter.unusedVariables false
namespace Go.Proofs.YtabjghmfjoefpaaDoor
open Go.RowKit

/-! ### the head's terms and texts -/
namespace Hp
def v0 : Cel := ⟨1, ⟨#[]⟩, 0⟩
def v27 : Cel := ⟨1, ⟨#[]⟩, 27⟩
def aC : Cel := ⟨3, ⟨#[97]⟩, 0⟩
def bC : Cel := ⟨3, ⟨#[98]⟩, 0⟩
def nilC : Cel := ⟨3, ⟨#[91, 93]⟩, 0⟩
def m1 : Cel := ⟨2, ⟨#[]⟩, -1⟩
def dotC : Cel := ⟨3, ⟨#[46]⟩, 2⟩
def plusC : Cel := ⟨3, ⟨#[43]⟩, 2⟩
def lf (c : Cel) : Tm := .mk c []
def t1 : Tm := .mk ⟨3, ⟨#[61]⟩, 2⟩ [lf v0, .mk plusC [lf v27, lf m1]]
def t2 : Tm := .mk dotC [lf aC, .mk dotC [lf v0, lf nilC]]
def t3 : Tm := .mk dotC [lf aC, lf v0]
def t4 : Tm := .mk ⟨3, ⟨#[91, 93]⟩, 1⟩ [lf aC]
def t5 : Tm := lf nilC
def t6 : Tm := .mk ⟨3, ⟨#[45]⟩, 1⟩ [lf m1]
def t7 : Tm := lf ⟨3, ⟨#[65, 98, 32, 99]⟩, 0⟩
def t8 : Tm := .mk ⟨3, ⟨#[43]⟩, 3⟩ [lf aC, lf aC, lf aC]
def cA : Ct := ⟨.mk ⟨3, ⟨#[112]⟩, 1⟩ [lf v0], [(false, .mk ⟨3, ⟨#[113]⟩, 2⟩ [lf v0, lf v27]), (true, .mk ⟨3, ⟨#[61]⟩, 2⟩ [lf v27, lf aC])]⟩
def cB : Ct := ⟨lf aC, []⟩
def cC : Ct := ⟨lf bC, []⟩
theorem leaf_ok {c : Cel} (h : cellOk c = true) (ha : ar c = 0) : (lf c).ok := ⟨h, ha.symm, trivial⟩
theorem v0_ok : (lf v0).ok := leaf_ok (by decide +kernel) (by decide +kernel)
theorem v27_ok : (lf v27).ok := leaf_ok (by decide +kernel) (by decide +kernel)
theorem a_ok : (lf aC).ok := leaf_ok (by decide +kernel) (by decide +kernel)
theorem b_ok : (lf bC).ok := leaf_ok (by decide +kernel) (by decide +kernel)
theorem nil_ok : (lf nilC).ok := leaf_ok (by decide +kernel) (by decide +kernel)
theorem m1_ok : (lf m1).ok := leaf_ok (by decide +kernel) (by decide +kernel)
theorem t1_ok : t1.ok := ⟨by decide +kernel, by decide +kernel, v0_ok, ⟨by decide +kernel, by decide +kernel, v27_ok, m1_ok, trivial⟩, trivial⟩
theorem t2_ok : t2.ok := ⟨by decide +kernel, by decide +kernel, a_ok, ⟨by decide +kernel, by decide +kernel, v0_ok, nil_ok, trivial⟩, trivial⟩
theorem t3_ok : t3.ok := ⟨by decide +kernel, by decide +kernel, a_ok, v0_ok, trivial⟩
theorem t4_ok : t4.ok := ⟨by decide +kernel, by decide +kernel, a_ok, trivial⟩
theorem t6_ok : t6.ok := ⟨by decide +kernel, by decide +kernel, m1_ok, trivial⟩
theorem t7_ok : t7.ok := leaf_ok (by decide +kernel) (by decide +kernel)
theorem t8_ok : t8.ok := ⟨by decide +kernel, by decide +kernel, a_ok, a_ok, a_ok, trivial⟩
theorem cA_ok : cA.ok := ⟨⟨by decide +kernel, by decide +kernel, v0_ok, trivial⟩, by decide +kernel, fun t ht => by
  simp [cA] at ht; rcases ht with rfl | rfl
  · exact ⟨by decide +kernel, by decide +kernel, v0_ok, v27_ok, trivial⟩
  · exact ⟨by decide +kernel, by decide +kernel, v27_ok, a_ok, trivial⟩, fun t ht => by
  simp [cA] at ht; rcases ht with rfl | rfl <;> decide +kernel⟩
theorem cB_ok : cB.ok := ⟨a_ok, by decide +kernel, fun t ht => by simp [cB] at ht, fun t ht => by simp [cB] at ht⟩
theorem cC_ok : cC.ok := ⟨b_ok, by decide +kernel, fun t ht => by simp [cC] at ht, fun t ht => by simp [cC] at ht⟩
theorem d1 : Lib.decDigits 1 = [49] := decDigits_one (by decide)
theorem d38 : Lib.decDigits 38 = [51, 56] := by rw [decDigits_step (by decide), decDigits_one (by decide)]; rfl
theorem x_v0 : textT (lf v0) = [65] := by decide +kernel
theorem x_v27 : textT (lf v27) = [66, 49] := by
  rw [lf, text_var rfl]; show UInt8.ofNat (65 + 27 % 26) :: Lib.decDigits (27 / 26) = _; rw [show 27 / 26 = 1 from rfl, d1]; rfl
theorem x_m1 : textT (lf m1) = [45, 49] := by
  rw [lf, text_int rfl]; show 45 :: Lib.decDigits 1 = _; rw [d1]
theorem x_a : textT (lf aC) = [97] := by decide +kernel
theorem x_b : textT (lf bC) = [98] := by decide +kernel
theorem x1 : textT t1 = [40, 65, 32, 61, 32, 40, 66, 49, 32, 43, 32, 45, 49, 41, 41] := by
  have h : textT (.mk plusC [lf v27, lf m1]) = [40, 66, 49, 32, 43, 32, 45, 49, 41] := by
    rw [text_infix rfl (by decide +kernel)]; simp only [textsT, List.map_cons, List.map_nil, x_v27, x_m1]; decide +kernel
  rw [t1, text_infix rfl (by decide +kernel)]; simp only [textsT, List.map_cons, List.map_nil, x_v0, h]; decide +kernel
theorem x2 : textT t2 = [91, 97, 44, 65, 93] := by decide +kernel
theorem x3 : textT t3 = [91, 97, 124, 65, 93] := by decide +kernel
theorem x4 : textT t4 = [39, 91, 93, 39, 40, 97, 41] := by decide +kernel
theorem x5 : textT t5 = [91, 93] := by decide +kernel
theorem x6 : textT t6 = [45, 40, 45, 49, 41] := by
  rw [t6, text_minus rfl (by decide +kernel) (by decide +kernel)]; simp only [textsT, List.map_cons, List.map_nil, x_m1]; decide +kernel
theorem x7 : textT t7 = [39, 65, 98, 32, 99, 39] := by decide +kernel
theorem x8 : textT t8 = [39, 43, 39, 40, 97, 44, 97, 44, 97, 41] := by decide +kernel
theorem xq : textT (.mk ⟨3, ⟨#[113]⟩, 2⟩ [lf v0, lf v27]) = [113, 40, 65, 44, 66, 49, 41] := by
  rw [text_plain rfl (by decide +kernel) (by decide +kernel) (by decide +kernel) (by decide +kernel)]; simp only [textsT, List.map_cons, List.map_nil, x_v0, x_v27]; decide +kernel
theorem xe : textT (.mk ⟨3, ⟨#[61]⟩, 2⟩ [lf v27, lf aC]) = [40, 66, 49, 32, 61, 32, 97, 41] := by
  rw [text_infix rfl (by decide +kernel)]; simp only [textsT, List.map_cons, List.map_nil, x_a, x_v27]; decide +kernel
theorem xA : cA.text = [112, 40, 65, 41, 32, 58, 45, 32, 113, 40, 65, 44, 66, 49, 41, 44, 32, 92, 43, 32, 40, 66, 49, 32, 61, 32, 97, 41, 46] := by
  have h : textT cA.h = [112, 40, 65, 41] := by decide +kernel
  rw [Ct.text, clauseT, h]
  simp only [cA, litsT, List.map_cons, List.map_nil, litT, xq, xe]
  decide +kernel
theorem xBC : progT [cB, cC] = [97, 46, 10, 98, 46, 10] := by decide +kernel
theorem xV25 : varL 25 = [90] := by decide +kernel
theorem xV26 : varL 26 = [65, 49] := by unfold varL; rw [if_neg (by decide), show 26 / 26 = 1 from rfl, d1]; rfl
theorem xV999 : varL 999 = [76, 51, 56] := by unfold varL; rw [if_neg (by decide), show 999 / 26 = 38 from rfl, d38]; rfl
theorem xQ1 : nameL [97, 66, 95, 57] = [97, 66, 95, 57] := by decide +kernel
theorem xQ2 : nameL [95, 97] = [39, 95, 97, 39] := by decide +kernel

/-! ### contracts at known answers -/
theorem term_is (t : Tm) (ht : t.ok) (n : Nat) (hn : t.flat.length = n) (h200 : n ≤ 200) {x : List UInt8} (hx : textT t = x) (hx2 : x.length ≤ 1000) (a : Option Addr) (cap : Nat) (w : World) (hp : Pow w) {xs : List Cel} (hr : Row w a cap xs) (hxs : xs = t.flat) :
    Calls Tryd.prog 16 #[.slice a n cap] w fun e w' => e = .returned (.string ⟨x.toArray⟩) ∧ Below w.heap.size w w' := by
  subst hx; subst hn; subst hxs
  exact pterm_any t ht h200 a cap w (by omega) hp hr
theorem clause_is (c : Ct) (hc : c.ok) (n m : Nat) (hn : c.h.flat.length = n) (hm : c.b.length = m) {x : List UInt8} (hx : c.text = x) (hx2 : x.length ≤ 1000) (a1 : Option Addr) (cap1 : Nat) (a2 : Option Addr) (cap2 : Nat) (w : World) (hp : Pow w) {hs : List Cel} {bs : List Lt} (hr1 : Row w a1 cap1 hs) (hr2 : Row w a2 cap2 bs) (e1 : hs = c.h.flat) (e2 : bs = c.b.map litR) :
    Calls Tryd.prog 13 #[.agg #[.slice a1 n cap1, .slice a2 m cap2]] w fun e w' => e = .returned (.string ⟨x.toArray⟩) ∧ Below w.heap.size w w' := by
  subst hx; subst hn; subst hm; subst e1; subst e2
  exact pclause_any c hc a1 cap1 a2 cap2 w (by omega) hp hr1 hr2
theorem program_is (cs : List Ct) (hc : ∀ c ∈ cs, c.ok) (n : Nat) (hn : cs.length = n) {x : List UInt8} (hx : progT cs = x) (hx2 : x.length ≤ 1000) (a : Option Addr) (cap : Nat) (w : World) (hp : Pow w) (hr : Row w a cap (cs.map Ct.row)) :
    Calls Tryd.prog 18 #[.slice a n cap] w fun e w' => e = .returned (.string ⟨x.toArray⟩) ∧ Below w.heap.size w w' := by
  subst hx; subst hn
  exact pprogram_any cs hc a cap w (by omega) hp hr
theorem quote_is (s : ByteArray) {x : List UInt8} (hx : nameL s.data.toList = x) (hs : s.size ≤ 1000) (w : World) :
    Calls Tryd.prog 20 #[.string s] w fun e w' => e = .returned (.string ⟨x.toArray⟩) ∧ Below w.heap.size w w' := by
  subst hx; exact quote_any s w (by omega)
theorem var_is (n : Nat) (m : Int) (hm : m = n) {x : List UInt8} (hx : varL n = x) (hn : n ≤ 1000) (w : World) (hp : Pow w) :
    Calls Tryd.prog 22 #[.int .i64 m] w fun e w' => e = .returned (.string ⟨x.toArray⟩) ∧ Below w.heap.size w w' := by
  subst hx; subst hm; exact varName_any n w (by omega) hp
theorem fit0 (k n : Int) (s : ByteArray) (h1 : 0 ≤ k ∧ k ≤ 3) (h2 : -100000 ≤ n ∧ n ≤ 100000) (h3 : s.size ≤ 1000) : (⟨k, s, n⟩ : Cel).fit := Md.cfit k n s h1 h2 h3
/-- cells just laid -/
theorem rowN (w : World) (xs : List Cel) (hf : ∀ c ∈ xs, c.fit) (n : Nat) (hn : xs.length = n) (cs : Array Value) (hc : cs.toList = flat xs) (h1 : n ≤ 1000) : Row (w.alloc (.cells cs 62)) (some ⟨w.heap.size, 0, none⟩) n xs := by
  subst hn
  have := row_new w cs (62, 0) (xs := xs) (by rw [hc]; exact crows_flat _ hf) (by omega)
  exact this
theorem fun_is (nm : ByteArray) (n : Int) (a : Option Addr) (cap : Nat) (w : World) {l : List Cel} (hr : Row w a cap l) (k : Nat) (hk : l.length = k) (hl : k ≤ 100) (hn : 0 ≤ n ∧ n ≤ 100) (hnm : nm.size ≤ 100) :
    Calls Tryd.prog 31 #[.string nm, .int .i64 n, .slice a k cap] w fun e w' => ∃ a' cap', e = .returned (.slice a' (k + 1) cap') ∧ NewRow w.heap.size w' a' cap' (⟨3, nm, n⟩ :: l) ∧ Below w.heap.size w w' := by
  subst hk
  exact hfun_any nm n a cap w l hr (by omega) (by omega) (by omega)
end Hp
end Go.Proofs.YtabjghmfjoefpaaDoor
set_option linter.unusedVariables false
namespace Go.Proofs.YtabjghmfjoefpaaDoor
open Go.RowKit

namespace Hd
/-- the boxes that the head begins with -/
def SB (B : Nat) (W : World) : Prop := W.cell? ⟨B, 0, none⟩ = some (.int .i64 3) ∧ W.cell? ⟨B, 1, none⟩ = some (.string ⟨#[97]⟩) ∧ W.cell? ⟨B, 2, none⟩ = some (.int .i64 0) ∧ W.cell? ⟨B + 1, 0, none⟩ = some (.int .i64 1) ∧ W.cell? ⟨B + 1, 1, none⟩ = some (.string ⟨#[]⟩) ∧ W.cell? ⟨B + 1, 2, none⟩ = some (.int .i64 0) ∧ W.cell? ⟨B + 1 + 1, 0, none⟩ = some (.int .i64 1) ∧ W.cell? ⟨B + 1 + 1, 1, none⟩ = some (.string ⟨#[]⟩) ∧ W.cell? ⟨B + 1 + 1, 2, none⟩ = some (.int .i64 27) ∧ W.cell? ⟨B + 1 + 1 + 1, 0, none⟩ = some (.int .i64 3) ∧ W.cell? ⟨B + 1 + 1 + 1, 1, none⟩ = some (.string ⟨#[91, 93]⟩) ∧ W.cell? ⟨B + 1 + 1 + 1, 2, none⟩ = some (.int .i64 0) ∧ W.cell? ⟨B + 1 + 1 + 1 + 1, 0, none⟩ = some (.int .i64 2) ∧ W.cell? ⟨B + 1 + 1 + 1 + 1, 1, none⟩ = some (.string ⟨#[]⟩) ∧ W.cell? ⟨B + 1 + 1 + 1 + 1, 2, none⟩ = some (.int .i64 (-1)) ∧ W.cell? ⟨B + 1 + 1 + 1 + 1 + 1, 0, none⟩ = some (.int .i64 3) ∧ W.cell? ⟨B + 1 + 1 + 1 + 1 + 1, 1, none⟩ = some (.string ⟨#[46]⟩) ∧ W.cell? ⟨B + 1 + 1 + 1 + 1 + 1, 2, none⟩ = some (.int .i64 2) ∧ W.cell? ⟨B + 1 + 1 + 1 + 1 + 1 + 1, 0, none⟩ = some (.int .i64 3) ∧ W.cell? ⟨B + 1 + 1 + 1 + 1 + 1 + 1, 1, none⟩ = some (.string ⟨#[43]⟩) ∧ W.cell? ⟨B + 1 + 1 + 1 + 1 + 1 + 1, 2, none⟩ = some (.int .i64 2)
def X7 (w : World) : World := ((((((w.alloc (.cells #[.int .i64 3, .string ⟨#[97]⟩, .int .i64 0] 62)).alloc (.cells #[.int .i64 1, .string ⟨#[]⟩, .int .i64 0] 62)).alloc (.cells #[.int .i64 1, .string ⟨#[]⟩, .int .i64 27] 62)).alloc (.cells #[.int .i64 3, .string ⟨#[91, 93]⟩, .int .i64 0] 62)).alloc (.cells #[.int .i64 2, .string ⟨#[]⟩, .int .i64 (-1)] 62)).alloc (.cells #[.int .i64 3, .string ⟨#[46]⟩, .int .i64 2] 62)).alloc (.cells #[.int .i64 3, .string ⟨#[43]⟩, .int .i64 2] 62)
theorem X7_size (w : World) : (X7 w).heap.size = w.heap.size + 1 + 1 + 1 + 1 + 1 + 1 + 1 := by simp [X7]
theorem X7_below (w : World) : Below w.heap.size w (X7 w) := ((((((Below.refl _ _).new _).new _).new _).new _).new _).new _ |>.new _
theorem sb_x (w : World) : SB w.heap.size (X7 w) := by
  unfold SB X7
  go_simp
theorem sb_of (w W : World) (h : Below (X7 w).heap.size (X7 w) W) : SB w.heap.size W := by
  obtain ⟨q0, q1, q2, q3, q4, q5, q6, q7, q8, q9, q10, q11, q12, q13, q14, q15, q16, q17, q18, q19, q20⟩ := sb_x w
  exact ⟨keep q0 h, keep q1 h, keep q2 h, keep q3 h, keep q4 h, keep q5 h, keep q6 h, keep q7 h, keep q8 h, keep q9 h, keep q10 h, keep q11 h, keep q12 h, keep q13 h, keep q14 h, keep q15 h, keep q16 h, keep q17 h, keep q18 h, keep q19 h, keep q20 h⟩
theorem cutH {P : Program} {md : Region.Mode} {ops : Array Oper} {Q : Exit → Act → World → Prop} {S : World → Prop} {fuel : Nat} {listed : Array Bool} {a : Act} {w : World} (H : ∀ ops' Q' a', ops' = ops → Q' = Q → a' = a → wpAnyH P md ops' Q' S fuel listed a' w) : wpAnyH P md ops Q S fuel listed a w := H _ _ _ rfl rfl rfl
theorem wpAnyH_cast {P : Program} {md : Region.Mode} {ops : Array Oper} {Q : Exit → Act → World → Prop} {S : World → Prop} {fuel : Nat} {listed listed' : Array Bool} {a a' : Act} {w : World} (h : wpAnyH P md ops Q S fuel listed' a' w) (h1 : listed = listed') (h2 : a = a') : wpAnyH P md ops Q S fuel listed a w := by subst h1; subst h2; exact h
theorem new_veil {α : Type} [Rep α] {B : Nat} {W : World} {a : Option Addr} {cap : Nat} {xs : List α} (h : NewRow B W a cap xs) {us : List Nat} (hu : ∀ k ∈ us, k < B) : Row (veil us W) a cap xs :=
  Row.keeps h (fun b o v hc => by
    obtain ⟨h1, h2⟩ := under_cell hc
    exact veil_of (fun e => by have := hu _ e; omega) h2)
theorem own_veil {us : List Nat} {w : World} {B e size : Nat} {v : Value} {n : Nat} {xs : List Value} (h : w.ownsRow B e size v n xs) (hr : ∀ g ∈ us, g < B) : (veil us w).ownsRow B e size v n xs := by
  refine ⟨h.1, ?_⟩
  rcases h.2 with h | ⟨g, cap, cur, rfl, hb, hg, rest⟩
  · exact .inl h
  · exact .inr ⟨g, cap, cur, rfl, hb, by rw [veil_heap (fun e => by have := hr _ e; omega)]; exact hg, rest⟩
/-- cells just laid, read beside elder blocks -/
theorem rowV (us : List Nat) (w : World) (hu : ∀ k ∈ us, k < w.heap.size) (xs : List Cel) (hf : ∀ c ∈ xs, c.fit) (n : Nat) (hn : xs.length = n) (cs : Array Value) (hc : cs.toList = flat xs) (hs : cs.size = n * 3) (h1 : n ≤ 1000) : Row (veil us (w.alloc (.cells cs 62))) (some ⟨w.heap.size, 0, none⟩) n xs := by
  subst hn
  have h := World.ownsRow_lit (base := w.heap.size) (e := 62) (size := 3) w cs xs.length (Nat.le_refl _) (by unfold maxLen; omega) hs
  rw [hc] at h
  obtain ⟨a, cap, e, hr⟩ := own_new (xs := xs) h hf
  cases e
  exact new_veil hr hu
theorem lits2 (us : List Nat) (w : World) (hu : ∀ k ∈ us, k < w.heap.size) {a b : Option Addr} {c d : Nat} {t u : List Cel} {n m : Bool} (k1 k2 : Nat) (ht : t.length = k1) (hu2 : u.length = k2) (h1 : Row (veil us w) a c t) (h2 : Row (veil us w) b d u) :
    Row (veil us (w.alloc (.cells #[.bool n, .slice a k1 c, .bool m, .slice b k2 d] 49))) (some ⟨w.heap.size, 0, none⟩) 2 ([⟨n, t⟩, ⟨m, u⟩] : List Lt) := by
  subst ht; subst hu2
  have h := World.ownsRow_lit (base := w.heap.size) (e := 49) (size := 2) w #[.bool n, .slice a t.length c, .bool m, .slice b u.length d] 2 (Nat.le_refl _) (by unfold maxLen; omega) rfl
  have hk : Keeps (veil us w) (veil us (w.alloc (.cells #[.bool n, .slice a t.length c, .bool m, .slice b u.length d] 49))) := veil_keepsK (Keeps.of ((Below.refl _ _).new _))
  obtain ⟨a2, c2, e, hrow⟩ := own_rowG (xs := ([⟨n, t⟩, ⟨m, u⟩] : List Lt)) (own_veil h hu) (.cons (cs := [.bool n, .slice a t.length c]) ⟨a, c, rfl, h1.keeps hk⟩ (.cons (cs := [.bool m, .slice b u.length d]) ⟨b, d, rfl, h2.keeps hk⟩ .nil))
  cases e
  exact hrow
theorem grow (us : List Nat) {w W : World} (h : Below w.heap.size w W) {α : Type} [Rep α] {a : Option Addr} {cap : Nat} {xs : List α} (hr : Row (veil us w) a cap xs) : Row (veil us W) a cap xs := hr.keeps (veil_keepsK (Keeps.of h))
theorem more {w : World} (o : Obj) {α : Type} [Rep α] {a : Option Addr} {cap : Nat} {xs : List α} (hr : Row (veil [] w) a cap xs) : Row (veil [w.heap.size] (w.alloc o)) a cap xs :=
  hr.keeps (fun b i v hc => by
    have h2 := (veil_cell hc).2
    have hl := cell_lt h2
    exact veil_of (by simp; omega) (keep h2 ((Below.refl _ _).new o)))
theorem plain {us : List Nat} {w : World} {α : Type} [Rep α] {a : Option Addr} {cap : Nat} {xs : List α} (hr : Row (veil us w) a cap xs) : Row w a cap xs := hr.keeps (veil_keeps _ _)
/-- behind the head's fourth statement -/
structure Post (W0 W' : World) (b15 b13 : Nat) (a2 : Option Addr) (c2 : Nat) : Prop where
  blk : W'.heap[b15]? = some (.cells #[.slice a2 2 c2, .slice (some ⟨b13, 0, none⟩) 2 2] 33 (0, 0))
  r2 : Row W' a2 c2 [⟨3, ⟨#[112]⟩, 1⟩, Hp.v0]
  r13 : Row W' (some ⟨b13, 0, none⟩) 2 ([⟨false, [⟨3, ⟨#[113]⟩, 2⟩, Hp.v0, Hp.v27]⟩, ⟨true, [⟨3, ⟨#[61]⟩, 2⟩, Hp.v27, Hp.aC]⟩] : List Lt)
  hc : Below W0.heap.size W0 W'
end Hd
end Go.Proofs.YtabjghmfjoefpaaDoor
