/-
  Of layer 7 of sorrel: whatever arguments come in, the law ProgCut returns true, and what was handed in reads as it did: a safe clause's beginnings, with a head without variables, are safe; with a positive literal ahead, or behind, it stays so, while there are no more than eight. No condition.
-/
import Derived.Test.YtkgebkinlpmpnaaZr5
namespace Go.Proofs.Ytkgebkinlpmpnaa
open Go.RowKit Go.Shelf Go.Lib


set_option maxHeartbeats 16000000 in
set_option maxRecDepth 100000 in
theorem lawCut_any (w : World) (x : Cl) (a : Option Addr) (cap : Nat) (a' : Option Addr) (cap' : Nat) (hv : ClV w a cap a' cap' x) (n : Int) (wf : (Lit.int .u8 n).wf = true) (t : List Cel) (at0 : Option Addr) (ct : Nat) (hr : Row w at0 ct t) :
    Calls Try.prog 5 #[.agg #[.slice a x.h.length cap, .slice a' x.b.length cap'], .int .u8 n, .slice at0 t.length ct] w fun e w' => e = .returned (.bool true) ∧ Below w.heap.size w w' := by
  have hm1 := hv.h.max
  have hm2 := hv.h.le
  have hm3 := hv.b.max
  have hm4 := hv.b.le
  have hm5 := hr.max
  have hm6 := hr.le
  have hb0 := (Below.refl w.heap.size w).new (.cells #[.slice a x.h.length cap, .slice a' x.b.length cap'] 31)
  have q0 : (w.alloc (.cells #[.slice a x.h.length cap, .slice a' x.b.length cap'] 31)).cell? ⟨w.heap.size, 0, none⟩ = some (.slice a x.h.length cap) := World.cell?_alloc_at _ _ _ 0 rfl
  have q1 : (w.alloc (.cells #[.slice a x.h.length cap, .slice a' x.b.length cap'] 31)).cell? ⟨w.heap.size, 1, none⟩ = some (.slice a' x.b.length cap') := World.cell?_alloc_at _ _ _ 1 rfl
  have HV := mkHid hv
  cases hG : greatB [x] with
  | true =>
    have HG := mkHid hG
    clear hG hv
    go_enter Try.func5, Try.ntmps5
    go_wp2_with fail
    refine (head7_any _).mono ?_; rintro e w1 ⟨rfl, hb1⟩
    have hb := hb0.then hb1
    have p0 := keep q0 hb1
    have p1 := keep q1 hb1
    go_wp2_with fail
    refine (great_is (cls1 (HV.out.below hb)) HG).mono ?_; rintro e w2 ⟨rfl, rfl⟩
    replace hb := hb.new (.cells #[.slice a x.h.length cap, .slice a' x.b.length cap'] 31)
    have r0 := keep p0 ((Below.refl w1.heap.size w1).new (.cells #[.slice a x.h.length cap, .slice a' x.b.length cap'] 31))
    have r1 := keep p1 ((Below.refl w1.heap.size w1).new (.cells #[.slice a x.h.length cap, .slice a' x.b.length cap'] 31))
    generalize w1.alloc (.cells #[.slice a x.h.length cap, .slice a' x.b.length cap'] 31) = w1' at *
    clear p0 p1 q0 q1 hb1 hb0
    go_wp2_with fail
    go_ret
    exact ⟨rfl, hb⟩
  | false =>
    have HG := mkHid hG
    clear hG hv
    cases hS : safeB x with
    | false =>
      have HS := mkHid hS
      clear hS
      go_enter Try.func5, Try.ntmps5
      go_wp2_with fail
      refine (head7_any _).mono ?_; rintro e w1 ⟨rfl, hb1⟩
      have hb := hb0.then hb1
      have p0 := keep q0 hb1
      have p1 := keep q1 hb1
      go_wp2_with fail
      refine (great_is (cls1 (HV.out.below hb)) HG).mono ?_; rintro e w2 ⟨rfl, rfl⟩
      replace hb := hb.new (.cells #[.slice a x.h.length cap, .slice a' x.b.length cap'] 31)
      have r0 := keep p0 ((Below.refl w1.heap.size w1).new (.cells #[.slice a x.h.length cap, .slice a' x.b.length cap'] 31))
      have r1 := keep p1 ((Below.refl w1.heap.size w1).new (.cells #[.slice a x.h.length cap, .slice a' x.b.length cap'] 31))
      generalize w1.alloc (.cells #[.slice a x.h.length cap, .slice a' x.b.length cap'] 31) = w1' at *
      clear p0 p1 q0 q1 hb1 hb0
      go_wp2_with fail
      refine (safep_is _ _ _ _ _ x false (HV.out.below hb) HS).mono ?_; rintro e w3 ⟨rfl, hb3⟩
      go_wp2_with fail
      go_ret
      exact ⟨rfl, hb.then hb3⟩
    | true =>
      have HS := mkHid hS
      clear hS
      cases hA : atomB t with
      | false =>
        have HA := mkHid hA
        clear hA
        go_enter Try.func5, Try.ntmps5
        go_wp2_with fail
        refine (head7_any _).mono ?_; rintro e w1 ⟨rfl, hb1⟩
        have hb := hb0.then hb1
        have p0 := keep q0 hb1
        have p1 := keep q1 hb1
        go_wp2_with fail
        refine (great_is (cls1 (HV.out.below hb)) HG).mono ?_; rintro e w2 ⟨rfl, rfl⟩
        replace hb := hb.new (.cells #[.slice a x.h.length cap, .slice a' x.b.length cap'] 31)
        have r0 := keep p0 ((Below.refl w1.heap.size w1).new (.cells #[.slice a x.h.length cap, .slice a' x.b.length cap'] 31))
        have r1 := keep p1 ((Below.refl w1.heap.size w1).new (.cells #[.slice a x.h.length cap, .slice a' x.b.length cap'] 31))
        generalize w1.alloc (.cells #[.slice a x.h.length cap, .slice a' x.b.length cap'] 31) = w1' at *
        clear p0 p1 q0 q1 hb1 hb0
        go_wp2_with fail
        refine (safep_is _ _ _ _ _ x true (HV.out.below hb) HS).mono ?_; rintro e w3 ⟨rfl, hb3⟩
        replace hb := hb.then hb3
        go_wp2_with fail
        refine (refatom_is (hr.below hb) HA).mono ?_; rintro e w4 ⟨rfl, hb4⟩
        go_wp2_with fail
        go_ret
        exact ⟨rfl, hb.then hb4⟩
      | true =>
        have HA := mkHid hA
        have h8 := (may_facts (safe_iff.1 HS.out).1).1
        have hah := atom_200 (may_facts (safe_iff.1 HS.out).1).2.2
        have hat2 := atom_200 hA
        clear hA
        have hn2 : 0 ≤ n ∧ n ≤ 255 := by
          simp [Lit.wf, IntKind.min, IntKind.max, IntKind.signed, IntKind.bits] at wf
          omega
        obtain ⟨k, hk, hkl⟩ : ∃ k : Nat, Int.tmod n ((x.b.length : Int) + 1) = k ∧ k ≤ x.b.length := by
          have h1 : Int.tmod n ((x.b.length : Int) + 1) = n % ((x.b.length : Int) + 1) := Int.tmod_eq_emod_of_nonneg hn2.1
          have h2 := Int.emod_nonneg n (show ((x.b.length : Int) + 1) ≠ 0 by omega)
          have h3 := Int.emod_lt_of_pos n (show (0 : Int) < (x.b.length : Int) + 1 by omega)
          generalize n % ((x.b.length : Int) + 1) = r at h1 h2 h3
          exact ⟨r.toNat, by rw [h1]; omega, by omega⟩
        have hz : (((x.b.length : Int) + 1) == 0) = false := beq_false_of_ne (by omega)
        have hz2 : decide (((x.b.length : Int) + 1) = 0) = false := decide_eq_false (by omega)
        obtain ⟨T, hT⟩ : ∃ T, x.b.take k = T := ⟨_, rfl⟩
        have hTl : T.length = k := by rw [← hT, List.length_take]; omega
        have HTK : Hid (∀ W a c, Row W a c x.b → Row W a c T) := fun W a c h => by rw [← hT]; exact row_takeG h k
        have HC1 := mkHid (cut_take HS.out k)
        rw [hT] at HC1
        subst hTl
        clear hT
        have HC2 := mkHid (cut_ahead HS.out HA.out)
        have HC3 := mkHid (cut_behind HS.out HA.out)
        go_enter Try.func5, Try.ntmps5
        go_wp2_with fail
        refine (head7_any _).mono ?_; rintro e w1 ⟨rfl, hb1⟩
        have hb := hb0.then hb1
        have p0 := keep q0 hb1
        have p1 := keep q1 hb1
        go_wp2_with fail
        refine (great_is (cls1 (HV.out.below hb)) HG).mono ?_; rintro e w2 ⟨rfl, rfl⟩
        replace hb := hb.new (.cells #[.slice a x.h.length cap, .slice a' x.b.length cap'] 31)
        have r0 := keep p0 ((Below.refl w1.heap.size w1).new (.cells #[.slice a x.h.length cap, .slice a' x.b.length cap'] 31))
        have r1 := keep p1 ((Below.refl w1.heap.size w1).new (.cells #[.slice a x.h.length cap, .slice a' x.b.length cap'] 31))
        generalize w1.alloc (.cells #[.slice a x.h.length cap, .slice a' x.b.length cap'] 31) = w1' at *
        clear p0 p1 q0 q1 hb1 hb0
        go_wp2_with fail
        refine (safep_is _ _ _ _ _ x true (HV.out.below hb) HS).mono ?_; rintro e w3 ⟨rfl, hb3⟩
        replace hb := hb.then hb3
        replace r0 := keep r0 hb3
        replace r1 := keep r1 hb3
        go_wp2_with fail
        refine (refatom_is (hr.below hb) HA).mono ?_; rintro e w4 ⟨rfl, hb4⟩
        replace hb := hb.then hb4
        replace r0 := keep r0 hb4
        replace r1 := keep r1 hb4
        clear hb3 hb4
        have hsf : ∀ c ∈ soL, c.fit := by intro c hc; simp [soL] at hc; subst hc; exact ⟨by simp, by simp, by simp, by simp, by show (2 : Nat) ≤ _; omega⟩
        have hso0 : Row (w4.alloc (.cells #[.int .i64 3, .string ⟨#[115, 111]⟩, .int .i64 0] 50)) (some ⟨w4.heap.size, 0, none⟩) 1 soL := Row.ex1 (w := w4) (xs := soL) hsf (by simp [soL])
        have hbx : Below w4.heap.size w4 ((w4.alloc (.cells #[.int .i64 3, .string ⟨#[115, 111]⟩, .int .i64 0] 50)).alloc (.cells #[.bool false, .slice at0 t.length ct] 47)) := ((Below.refl w4.heap.size w4).new _).new _
        have hbX : Below w.heap.size w ((w4.alloc (.cells #[.int .i64 3, .string ⟨#[115, 111]⟩, .int .i64 0] 50)).alloc (.cells #[.bool false, .slice at0 t.length ct] 47)) := hb.then hbx
        have hso1 : Row ((w4.alloc (.cells #[.int .i64 3, .string ⟨#[115, 111]⟩, .int .i64 0] 50)).alloc (.cells #[.bool false, .slice at0 t.length ct] 47)) (some ⟨w4.heap.size, 0, none⟩) 1 soL := hso0.below ((Below.refl _ _).new _)
        have ho1 := AccInv.one (w := ((w4.alloc (.cells #[.int .i64 3, .string ⟨#[115, 111]⟩, .int .i64 0] 50)).alloc (.cells #[.bool false, .slice at0 t.length ct] 47))) (B := ((w4.alloc (.cells #[.int .i64 3, .string ⟨#[115, 111]⟩, .int .i64 0] 50)).alloc (.cells #[.bool false, .slice at0 t.length ct] 47)).heap.size) (neg := false) (Nat.le_refl _) (hr.below hbX)
        have hbXY : Below ((w4.alloc (.cells #[.int .i64 3, .string ⟨#[115, 111]⟩, .int .i64 0] 50)).alloc (.cells #[.bool false, .slice at0 t.length ct] 47)).heap.size ((w4.alloc (.cells #[.int .i64 3, .string ⟨#[115, 111]⟩, .int .i64 0] 50)).alloc (.cells #[.bool false, .slice at0 t.length ct] 47)) (((w4.alloc (.cells #[.int .i64 3, .string ⟨#[115, 111]⟩, .int .i64 0] 50)).alloc (.cells #[.bool false, .slice at0 t.length ct] 47)).alloc (.cells #[.bool false, .slice at0 t.length ct] 47)) := (Below.refl _ _).new _
        have hrb := (HV.out.b.below hbX).keeps (ho1.fresh hbXY)
        have hX1 : ((w4.alloc (.cells #[.int .i64 3, .string ⟨#[115, 111]⟩, .int .i64 0] 50)).alloc (.cells #[.bool false, .slice at0 t.length ct] 47)).cell? ⟨w4.heap.size + 1, 0, none⟩ = some (.bool false) := by go_simp
        have hX2 : ((w4.alloc (.cells #[.int .i64 3, .string ⟨#[115, 111]⟩, .int .i64 0] 50)).alloc (.cells #[.bool false, .slice at0 t.length ct] 47)).cell? ⟨w4.heap.size + 1, 1, none⟩ = some (.slice at0 t.length ct) := by go_simp
        have hY0 := keep (keep r0 hbx) hbXY
        have hY1 := keep (keep r1 hbx) hbXY
        have hsX : ((w4.alloc (.cells #[.int .i64 3, .string ⟨#[115, 111]⟩, .int .i64 0] 50)).alloc (.cells #[.bool false, .slice at0 t.length ct] 47)).heap.size = w4.heap.size + 1 + 1 := by simp
        have hsY : ((w4.alloc (.cells #[.int .i64 3, .string ⟨#[115, 111]⟩, .int .i64 0] 50)).alloc (.cells #[.bool false, .slice at0 t.length ct] 47)).heap.size ≤ (((w4.alloc (.cells #[.int .i64 3, .string ⟨#[115, 111]⟩, .int .i64 0] 50)).alloc (.cells #[.bool false, .slice at0 t.length ct] 47)).alloc (.cells #[.bool false, .slice at0 t.length ct] 47)).heap.size := hbXY.size
        have hsz4 : w.heap.size < w4.heap.size := cell_lt r0
        have hbY : Below w.heap.size w (((w4.alloc (.cells #[.int .i64 3, .string ⟨#[115, 111]⟩, .int .i64 0] 50)).alloc (.cells #[.bool false, .slice at0 t.length ct] 47)).alloc (.cells #[.bool false, .slice at0 t.length ct] 47)) := hbX.then hbXY
        have hY2 := keep hX1 hbXY
        have hY3 := keep hX2 hbXY
        have HSO := mkHid hso0
        have hbS : Below (w4.alloc (.cells #[.int .i64 3, .string ⟨#[115, 111]⟩, .int .i64 0] 50)).heap.size (w4.alloc (.cells #[.int .i64 3, .string ⟨#[115, 111]⟩, .int .i64 0] 50)) (((w4.alloc (.cells #[.int .i64 3, .string ⟨#[115, 111]⟩, .int .i64 0] 50)).alloc (.cells #[.bool false, .slice at0 t.length ct] 47)).alloc (.cells #[.bool false, .slice at0 t.length ct] 47)) := ((Below.refl (w4.alloc (.cells #[.int .i64 3, .string ⟨#[115, 111]⟩, .int .i64 0] 50)).heap.size (w4.alloc (.cells #[.int .i64 3, .string ⟨#[115, 111]⟩, .int .i64 0] 50))).new _).new _
        have HBS := mkHid hbS
        rw [hsX] at ho1 hsY hrb
        clear hso0 hso1 hbS hX1 hX2 hbXY hbX hbx hsX
        have HSF := mkHid hsf
        clear hsf
        go_wp2_with (at_builtin; (refine wpList_accs (α := Lt) rfl _ _ 29 rfl (w4.heap.size + 1 + 1) 47 32 _ Try.underlying29 Try.infoLit rfl (by decide) _ [(⟨false, t⟩ : Lt)] ho1 (by rfl) _ _ x.b hrb (by rfl) (by simp; omega) hsY ?_; intro v11 w11 hacc11 hb11; have f0 := keepB hb11 hY0 (by omega); have f1 := keepB hb11 hY1 (by omega); have f2 := keepB hb11 hY2 (by omega); have f3 := keepB hb11 hY3 (by omega)); have hso3 : Row w11 (some ⟨w4.heap.size, 0, none⟩) 1 soL := HSO.out.below (HBS.out.trans (hb11.mono (by rw [World.size_alloc]; omega))))
        obtain ⟨Z1, hZ1⟩ : ∃ Z, (⟨false, t⟩ : Lt) :: x.b = Z := ⟨_, rfl⟩
        obtain ⟨Z2, hZ2⟩ : ∃ Z, x.b ++ [(⟨false, t⟩ : Lt)] = Z := ⟨_, rfl⟩
        rw [hZ1] at HC2
        rw [hZ2] at HC3
        have hacc12 : AccInv (w4.heap.size + 1 + 1) 47 Z1 v11 w11 := hacc11.lit hZ1
        obtain ⟨a11, c11, rfl, hr11⟩ := hacc12.row
        have hb12 : Below w.heap.size w w11 := hbY.trans (hb11.mono (by omega))
        have HSQ : Hid (∀ W', Below w11.heap.size w11 W' → (fun w' : World => w'.cell? ⟨w.heap.size, 1, none⟩ = some (.slice a' x.b.length cap') ∧ w'.cell? ⟨w4.heap.size + 1, 0, none⟩ = some (.bool false) ∧ w'.cell? ⟨w4.heap.size + 1, 1, none⟩ = some (.slice at0 t.length ct)) W') := fun W' h => ⟨keep f1 h, keep f2 h, keep f3 h⟩
        have hcd := (Below.refl w11.heap.size w11).drew
        have hrb3 := HV.out.b.below hb12
        have hrt3 := hr.below hb12
        refine wp_region_noPanic ?_
        refine wp_region_held_drew (S := (fun w' : World => w'.cell? ⟨w.heap.size, 1, none⟩ = some (.slice a' x.b.length cap') ∧ w'.cell? ⟨w4.heap.size + 1, 0, none⟩ = some (.bool false) ∧ w'.cell? ⟨w4.heap.size + 1, 1, none⟩ = some (.slice at0 t.length ct))) (by kernel_rfl) (HSQ.out _ hcd) (fun hSd => ?_)
        refine wpAnyH_take (i := 1) (oi := _) (v := ?_) rfl (by kernel_rfl) (by kernel_rfl) (by kernel_rfl) (fun _ _ _ h => h) (Or.inl ⟨by rfl, ?_⟩) (by assumption) ?_
        rotate_left
        · (intro w' hSw; (try dsimp only at hSw); go_simp; try with_reducible rfl)
        (try simp only [Act.put, List.setIfInBounds_toArray, List.set_cons_zero, List.set_cons_succ])
        refine wpAnyH_take (i := 2) (oi := _) (v := ?_) rfl (by kernel_rfl) (by kernel_rfl) (by kernel_rfl) (fun _ _ _ h => h) (Or.inl ⟨by rfl, ?_⟩) (by assumption) ?_
        rotate_left
        · (intro w' hSw; (try dsimp only at hSw); go_simp; try with_reducible rfl)
        (try simp only [Act.put, List.setIfInBounds_toArray, List.set_cons_zero, List.set_cons_succ])
        refine wpAnyH_take (i := 4) (oi := _) (v := ?_) rfl (by kernel_rfl) (by kernel_rfl) (by kernel_rfl) (fun _ _ _ h => h) (Or.inl ⟨by rfl, ?_⟩) (by assumption) ?_
        rotate_left
        · (intro w' hSw; (try dsimp only at hSw); go_simp; try with_reducible rfl)
        (try simp only [Act.put, List.setIfInBounds_toArray, List.set_cons_zero, List.set_cons_succ])
        refine wpAnyH_ready (rs := [0, 5]) (by kernel_rfl) (by simp) ?_
        refine AllReadyH.cons (o := _) rfl (fun Kq hKq => ?_) ?_
        rotate_left
        · refine AllReadyH.cons (o := _) rfl (fun Kq hKq => ?_) AllReadyH.nil
          go_simp
          have hcB : Below w11.heap.size w11 ((w11.alloc (.cells #[.bool false, .slice at0 t.length ct] 47)).drew) := ((Below.refl w11.heap.size w11).new _).drew
          have l0 : ((w11.alloc (.cells #[.bool false, .slice at0 t.length ct] 47)).drew).cell? ⟨w11.heap.size, 0, none⟩ = some (.bool false) := World.cell?_alloc_at _ _ _ 0 rfl
          have l1 : ((w11.alloc (.cells #[.bool false, .slice at0 t.length ct] 47)).drew).cell? ⟨w11.heap.size, 1, none⟩ = some (.slice at0 t.length ct) := World.cell?_alloc_at _ _ _ 1 rfl
          have hsB : w11.heap.size < ((w11.alloc (.cells #[.bool false, .slice at0 t.length ct] 47)).drew).heap.size := by show _ < (w11.alloc (.cells #[.bool false, .slice at0 t.length ct] 47)).heap.size; simp
          try dsimp only
          refine hKq.out _ _ (HSQ.out _ hcB) (fun _ => ?_)
          clear hKq Kq
          (try simp only [Act.put, List.setIfInBounds_toArray, List.set_cons_zero, List.set_cons_succ])
          generalize (w11.alloc (.cells #[.bool false, .slice at0 t.length ct] 47)).drew = WB at *
          refine wpAnyH_ready (rs := [0]) (by kernel_rfl) (by simp) ?_
          refine AllReadyH.cons (o := _) rfl (fun Kq hKq => ?_) AllReadyH.nil
          go_simp
          have hcC : Below w11.heap.size w11 (WB.alloc (.cells #[] 47)) := hcB.new _
          have hkC : AccInv w11.heap.size 47 ([] : List Lt) (.slice (some ⟨WB.heap.size, 0, none⟩) 0 0) (WB.alloc (.cells #[] 47)) := AccInv.made (α := Lt) (B := w11.heap.size) (e := 47) (T := 47) WB (Nat.le_of_lt hsB) rfl
          have l0 := keep l0 ((Below.refl WB.heap.size WB).new (.cells #[] 47))
          have l1 := keep l1 ((Below.refl WB.heap.size WB).new (.cells #[] 47))
          have hneC : (Value.slice (some ⟨WB.heap.size, 0, none⟩) 0 0).ownBlock ≠ some w11.heap.size := fun e => by have e2 : some WB.heap.size = some w11.heap.size := e; injection e2 with e2; omega
          obtain ⟨v1, w1_, a2, c2, w2, hrun1, hrun2, hr2, hc1, hc2⟩ := app_two hcC hkC l0 l1 hneC hrb3 hrt3 (by omega) hZ2
          try dsimp only
          refine hKq.out _ _ (HSQ.out _ hcC) (fun _ => ?_)
          clear hKq Kq
          (try simp only [Act.put, List.setIfInBounds_toArray, List.set_cons_zero, List.set_cons_succ])
          refine wpAnyH_ready (rs := [3]) (by kernel_rfl) (by simp) ?_
          refine AllReadyH.cons (o := _) rfl (fun Kq hKq => ?_) AllReadyH.nil
          (rw [if_pos (by rfl)]; simp [Oper.wp, execOp, resolve, invoke, builtin, Oper.upon, Act.eval, hrun1, Result.andThen, Sem.run_bind])
          try dsimp only
          refine hKq.out _ _ (HSQ.out _ hc1) (fun _ => ?_)
          clear hKq Kq
          (try simp only [Act.put, List.setIfInBounds_toArray, List.set_cons_zero, List.set_cons_succ])
          refine wpAnyH_ready (rs := [6]) (by kernel_rfl) (by simp) ?_
          refine AllReadyH.cons (o := _) rfl (fun Kq hKq => ?_) AllReadyH.nil
          (rw [if_pos (by rfl)]; simp [Oper.wp, execOp, resolve, invoke, builtin, Oper.upon, Act.eval, hrun2, Result.andThen, Sem.run_bind])
          try dsimp only
          refine hKq.out _ _ (HSQ.out _ hc2) (fun _ => ?_)
          clear hKq Kq
          (try simp only [Act.put, List.setIfInBounds_toArray, List.set_cons_zero, List.set_cons_succ])
          refine wpAnyH_ready (rs := [7]) (by kernel_rfl) (by simp) ?_
          refine AllReadyH.cons (o := _) rfl (fun Kq hKq => ?_) AllReadyH.nil
          go_simp
          try dsimp only
          refine hKq.out _ _ (HSQ.out _ hc2) (fun _ => ?_)
          clear hKq Kq
          (try simp only [Act.put, List.setIfInBounds_toArray, List.set_cons_zero, List.set_cons_succ])
          refine wpAnyH_done (by kernel_rfl) (NoPanic.normal ?_) _
          clear HSQ hcd
          have hbz := hb12.then hc2
          have g0 := keep f0 hc2
          have g1 := keep f1 hc2
          have hsoz := hso3.below hc2
          have hr11z := hr11.below hc2
          have hvk : ClV w2 (some ⟨w4.heap.size, 0, none⟩) 1 a' cap' ⟨soL, T⟩ := ⟨hsoz, HTK.out _ _ _ (HV.out.b.below hbz)⟩
          obtain ⟨rm, hrm⟩ : ∃ rm, decide (x.b.length < 8) = rm := ⟨_, rfl⟩
          have hrm2 : decide ((x.b.length : Int) < 8) = rm := by rw [← hrm, decide_eq_decide]; omega
          have HRM := mkHid hrm
          rw [hrm] at HC2 HC3
          have y1 : (rm == rm) = true := by simp
          have y2 : decide (rm = rm) = true := by simp
          have hz1 := hr11z.max
          have hz2 := hr11z.le
          have hz3 := hr2.max
          have hz4 := hr2.le
          have hax : ClV w2 a cap a11 c11 ⟨x.h, Z1⟩ := ⟨HV.out.h.below hbz, hr11z⟩
          have haz : ClV w2 a cap a2 c2 ⟨x.h, Z2⟩ := ⟨HV.out.h.below hbz, hr2⟩
          have HVK := mkHid hvk
          have HAX := mkHid hax
          have HAZ := mkHid haz
          clear hvk hax haz hsoz hr11z hr2 hrun1 hrun2 f0 f1 f2 f3 hc2 hb12
          go_wp2_with fail
          refine (safep_is _ _ _ _ _ ⟨soL, T⟩ true HVK.out HC1).mono ?_; rintro e w12 ⟨rfl, hb13⟩
          replace g0 := keep g0 hb13
          replace g1 := keep g1 hb13
          go_wp2_with fail
          refine (safep_is _ _ _ _ _ ⟨x.h, Z1⟩ rm (HAX.out.below hb13) HC2).mono ?_; rintro e w13 ⟨rfl, hb14⟩
          replace g0 := keep g0 hb14
          replace g1 := keep g1 hb14
          go_wp2_with fail
          refine (safep_is _ _ _ _ _ ⟨x.h, Z2⟩ rm ((HAZ.out.below hb13).below hb14) HC3).mono ?_; rintro e w14 ⟨rfl, hb15⟩
          go_wp2_with fail
          go_ret
          exact ⟨rfl, ((hbz.then hb13).then hb14).then hb15⟩
        · go_simp
          have hcA : Below w11.heap.size w11 ((w11.alloc (.cells #[] 47)).drew) := ((Below.refl w11.heap.size w11).new _).drew
          have hkA : AccInv w11.heap.size 47 ([] : List Lt) (.slice (some ⟨w11.heap.size, 0, none⟩) 0 0) ((w11.alloc (.cells #[] 47)).drew) := (AccInv.made (α := Lt) (B := w11.heap.size) (e := 47) (T := 47) w11 (Nat.le_refl _) rfl).below (Below.refl _ _).drew
          have hsA : w11.heap.size < ((w11.alloc (.cells #[] 47)).drew).heap.size := by show _ < (w11.alloc (.cells #[] 47)).heap.size; simp
          try dsimp only
          refine hKq.out _ _ (HSQ.out _ hcA) (fun _ => ?_)
          clear hKq Kq
          (try simp only [Act.put, List.setIfInBounds_toArray, List.set_cons_zero, List.set_cons_succ])
          generalize (w11.alloc (.cells #[] 47)).drew = WA at *
          refine wpAnyH_ready (rs := [3, 5]) (by kernel_rfl) (by simp) ?_
          refine AllReadyH.cons (o := _) rfl (fun Kq hKq => ?_) ?_
          rotate_left
          · refine AllReadyH.cons (o := _) rfl (fun Kq hKq => ?_) AllReadyH.nil
            go_simp
            have hcB : Below w11.heap.size w11 (WA.alloc (.cells #[.bool false, .slice at0 t.length ct] 47)) := hcA.new _
            have hkB := hkA.below ((Below.refl WA.heap.size WA).new (.cells #[.bool false, .slice at0 t.length ct] 47))
            have l0 : (WA.alloc (.cells #[.bool false, .slice at0 t.length ct] 47)).cell? ⟨WA.heap.size, 0, none⟩ = some (.bool false) := World.cell?_alloc_at _ _ _ 0 rfl
            have l1 : (WA.alloc (.cells #[.bool false, .slice at0 t.length ct] 47)).cell? ⟨WA.heap.size, 1, none⟩ = some (.slice at0 t.length ct) := World.cell?_alloc_at _ _ _ 1 rfl
            have hneB : (Value.slice (some ⟨w11.heap.size, 0, none⟩) 0 0).ownBlock ≠ some WA.heap.size := fun e => by have e2 : some w11.heap.size = some WA.heap.size := e; injection e2 with e2; omega
            obtain ⟨v1, w1_, a2, c2, w2, hrun1, hrun2, hr2, hc1, hc2⟩ := app_two hcB hkB l0 l1 hneB hrb3 hrt3 (by omega) hZ2
            try dsimp only
            refine hKq.out _ _ (HSQ.out _ hcB) (fun _ => ?_)
            clear hKq Kq
            (try simp only [Act.put, List.setIfInBounds_toArray, List.set_cons_zero, List.set_cons_succ])
            refine wpAnyH_ready (rs := [3]) (by kernel_rfl) (by simp) ?_
            refine AllReadyH.cons (o := _) rfl (fun Kq hKq => ?_) AllReadyH.nil
            (rw [if_pos (by rfl)]; simp [Oper.wp, execOp, resolve, invoke, builtin, Oper.upon, Act.eval, hrun1, Result.andThen, Sem.run_bind])
            try dsimp only
            refine hKq.out _ _ (HSQ.out _ hc1) (fun _ => ?_)
            clear hKq Kq
            (try simp only [Act.put, List.setIfInBounds_toArray, List.set_cons_zero, List.set_cons_succ])
            refine wpAnyH_ready (rs := [6]) (by kernel_rfl) (by simp) ?_
            refine AllReadyH.cons (o := _) rfl (fun Kq hKq => ?_) AllReadyH.nil
            (rw [if_pos (by rfl)]; simp [Oper.wp, execOp, resolve, invoke, builtin, Oper.upon, Act.eval, hrun2, Result.andThen, Sem.run_bind])
            try dsimp only
            refine hKq.out _ _ (HSQ.out _ hc2) (fun _ => ?_)
            clear hKq Kq
            (try simp only [Act.put, List.setIfInBounds_toArray, List.set_cons_zero, List.set_cons_succ])
            refine wpAnyH_ready (rs := [7]) (by kernel_rfl) (by simp) ?_
            refine AllReadyH.cons (o := _) rfl (fun Kq hKq => ?_) AllReadyH.nil
            go_simp
            try dsimp only
            refine hKq.out _ _ (HSQ.out _ hc2) (fun _ => ?_)
            clear hKq Kq
            (try simp only [Act.put, List.setIfInBounds_toArray, List.set_cons_zero, List.set_cons_succ])
            refine wpAnyH_done (by kernel_rfl) (NoPanic.normal ?_) _
            clear HSQ hcd
            have hbz := hb12.then hc2
            have g0 := keep f0 hc2
            have g1 := keep f1 hc2
            have hsoz := hso3.below hc2
            have hr11z := hr11.below hc2
            have hvk : ClV w2 (some ⟨w4.heap.size, 0, none⟩) 1 a' cap' ⟨soL, T⟩ := ⟨hsoz, HTK.out _ _ _ (HV.out.b.below hbz)⟩
            obtain ⟨rm, hrm⟩ : ∃ rm, decide (x.b.length < 8) = rm := ⟨_, rfl⟩
            have hrm2 : decide ((x.b.length : Int) < 8) = rm := by rw [← hrm, decide_eq_decide]; omega
            have HRM := mkHid hrm
            rw [hrm] at HC2 HC3
            have y1 : (rm == rm) = true := by simp
            have y2 : decide (rm = rm) = true := by simp
            have hz1 := hr11z.max
            have hz2 := hr11z.le
            have hz3 := hr2.max
            have hz4 := hr2.le
            have hax : ClV w2 a cap a11 c11 ⟨x.h, Z1⟩ := ⟨HV.out.h.below hbz, hr11z⟩
            have haz : ClV w2 a cap a2 c2 ⟨x.h, Z2⟩ := ⟨HV.out.h.below hbz, hr2⟩
            have HVK := mkHid hvk
            have HAX := mkHid hax
            have HAZ := mkHid haz
            clear hvk hax haz hsoz hr11z hr2 hrun1 hrun2 f0 f1 f2 f3 hc2 hb12
            go_wp2_with fail
            refine (safep_is _ _ _ _ _ ⟨soL, T⟩ true HVK.out HC1).mono ?_; rintro e w12 ⟨rfl, hb13⟩
            replace g0 := keep g0 hb13
            replace g1 := keep g1 hb13
            go_wp2_with fail
            refine (safep_is _ _ _ _ _ ⟨x.h, Z1⟩ rm (HAX.out.below hb13) HC2).mono ?_; rintro e w13 ⟨rfl, hb14⟩
            replace g0 := keep g0 hb14
            replace g1 := keep g1 hb14
            go_wp2_with fail
            refine (safep_is _ _ _ _ _ ⟨x.h, Z2⟩ rm ((HAZ.out.below hb13).below hb14) HC3).mono ?_; rintro e w14 ⟨rfl, hb15⟩
            go_wp2_with fail
            go_ret
            exact ⟨rfl, ((hbz.then hb13).then hb14).then hb15⟩
          · obtain ⟨v1, w1_, a2, c2, w2, hrun1, hrun2, hr2, hc1, hc2, hc3⟩ := app_mid (neg := false) hcA hkA hrb3 hrt3 (by omega) hZ2
            (rw [if_pos (by rfl)]; simp [Oper.wp, execOp, resolve, invoke, builtin, Oper.upon, Act.eval, hrun1, Result.andThen, Sem.run_bind])
            try dsimp only
            refine hKq.out _ _ (HSQ.out _ hc1) (fun _ => ?_)
            clear hKq Kq
            (try simp only [Act.put, List.setIfInBounds_toArray, List.set_cons_zero, List.set_cons_succ])
            refine wpAnyH_ready (rs := [5]) (by kernel_rfl) (by simp) ?_
            refine AllReadyH.cons (o := _) rfl (fun Kq hKq => ?_) AllReadyH.nil
            go_simp
            try dsimp only
            refine hKq.out _ _ (HSQ.out _ hc2) (fun _ => ?_)
            clear hKq Kq
            (try simp only [Act.put, List.setIfInBounds_toArray, List.set_cons_zero, List.set_cons_succ])
            refine wpAnyH_ready (rs := [6]) (by kernel_rfl) (by simp) ?_
            refine AllReadyH.cons (o := _) rfl (fun Kq hKq => ?_) AllReadyH.nil
            (rw [if_pos (by rfl)]; simp [Oper.wp, execOp, resolve, invoke, builtin, Oper.upon, Act.eval, hrun2, Result.andThen, Sem.run_bind])
            try dsimp only
            refine hKq.out _ _ (HSQ.out _ hc3) (fun _ => ?_)
            clear hKq Kq
            (try simp only [Act.put, List.setIfInBounds_toArray, List.set_cons_zero, List.set_cons_succ])
            refine wpAnyH_ready (rs := [7]) (by kernel_rfl) (by simp) ?_
            refine AllReadyH.cons (o := _) rfl (fun Kq hKq => ?_) AllReadyH.nil
            go_simp
            try dsimp only
            refine hKq.out _ _ (HSQ.out _ hc3) (fun _ => ?_)
            clear hKq Kq
            (try simp only [Act.put, List.setIfInBounds_toArray, List.set_cons_zero, List.set_cons_succ])
            refine wpAnyH_done (by kernel_rfl) (NoPanic.normal ?_) _
            clear HSQ hcd
            have hbz := hb12.then hc3
            have g0 := keep f0 hc3
            have g1 := keep f1 hc3
            have hsoz := hso3.below hc3
            have hr11z := hr11.below hc3
            have hvk : ClV w2 (some ⟨w4.heap.size, 0, none⟩) 1 a' cap' ⟨soL, T⟩ := ⟨hsoz, HTK.out _ _ _ (HV.out.b.below hbz)⟩
            obtain ⟨rm, hrm⟩ : ∃ rm, decide (x.b.length < 8) = rm := ⟨_, rfl⟩
            have hrm2 : decide ((x.b.length : Int) < 8) = rm := by rw [← hrm, decide_eq_decide]; omega
            have HRM := mkHid hrm
            rw [hrm] at HC2 HC3
            have y1 : (rm == rm) = true := by simp
            have y2 : decide (rm = rm) = true := by simp
            have hz1 := hr11z.max
            have hz2 := hr11z.le
            have hz3 := hr2.max
            have hz4 := hr2.le
            have hax : ClV w2 a cap a11 c11 ⟨x.h, Z1⟩ := ⟨HV.out.h.below hbz, hr11z⟩
            have haz : ClV w2 a cap a2 c2 ⟨x.h, Z2⟩ := ⟨HV.out.h.below hbz, hr2⟩
            have HVK := mkHid hvk
            have HAX := mkHid hax
            have HAZ := mkHid haz
            clear hvk hax haz hsoz hr11z hr2 hrun1 hrun2 f0 f1 f2 f3 hc3 hb12
            go_wp2_with fail
            refine (safep_is _ _ _ _ _ ⟨soL, T⟩ true HVK.out HC1).mono ?_; rintro e w12 ⟨rfl, hb13⟩
            replace g0 := keep g0 hb13
            replace g1 := keep g1 hb13
            go_wp2_with fail
            refine (safep_is _ _ _ _ _ ⟨x.h, Z1⟩ rm (HAX.out.below hb13) HC2).mono ?_; rintro e w13 ⟨rfl, hb14⟩
            replace g0 := keep g0 hb14
            replace g1 := keep g1 hb14
            go_wp2_with fail
            refine (safep_is _ _ _ _ _ ⟨x.h, Z2⟩ rm ((HAZ.out.below hb13).below hb14) HC3).mono ?_; rintro e w14 ⟨rfl, hb15⟩
            go_wp2_with fail
            go_ret
            exact ⟨rfl, ((hbz.then hb13).then hb14).then hb15⟩
end Go.Proofs.Ytkgebkinlpmpnaa
namespace Go.Proofs.Ytkgebkinlpmpnaa
open Go.RowKit Go.ChangeShapes Go.WideShapes Go.ChangeAt
open Go.ChangeMaps (open_string)

set_option maxRecDepth 100000 in
set_option maxHeartbeats 1000000 in
theorem ProgCut_lifted (os : Os) (started : os.Started) (H : Type) (enc : TypeId × Value → H) :
    ReturnsInHanded {} Try.checked os 5 .any (Rows.progCutSpec.pre6 enc Try.prog Try.f5 Rows.progCutRow.domain false) (Rows.progCutSpec.post enc Try.prog Try.f5 false true false false) := by
  refine returnsInHanded_of_change (C := Try.checked) Try.own started (by kernel_rfl) Try.func5
    (ChangeSpec.witness6 (enc := enc) (C := Try.checked) false ⟨#[], #[.agg #[.slice none 0 0, .slice none 0 0], .int .u8 0, .slice none 0 0], []⟩ 8 (by kernel_rfl) (by kernel_rfl) (by kernel_rfl) (by kernel_rfl)) ?_
  intro W base args ds gs before hval0 hW hcnd _
  have hval : ∀ (j : Nat) t v, Try.f5.params[j]? = some t → args[j]? = some v → Value.okWide Try.prog W .any base t v := hval0
  have hW' := hW
  obtain ⟨p, q, hA0, hV, rfl, hfz, hnd⟩ := hW
  have hA : DataW.TrodAll enc Try.prog W 0 (fun _ => true) true Try.f5.params.toList args.toList ds p := hA0
  rw [Try.params5] at hA hval
  obtain ⟨v0, vs0, d0, ds0, p0, q0, hargs, rfl, rfl, h0, r0⟩ := trodAll_cons hA
  obtain ⟨v1, vs1, d1, ds1, p1, q1, rfl, rfl, rfl, h1, r1⟩ := trodAll_cons r0
  obtain ⟨v2, vs2, d2, ds2, p2, q2, rfl, rfl, rfl, h2, r2⟩ := trodAll_cons r1
  obtain ⟨rfl, rfl, rfl⟩ := trodAll_nil r2
  obtain rfl : args = #[v0, v1, v2] := by cases args; simp_all
  obtain ⟨rfl, rfl⟩ := trodVars_none hV
  have k0 := h0
  have lt0 : ∀ x ∈ p0, x.block < W.heap.size := by obtain ⟨m, hm⟩ := k0; exact DataW.trod_lt m _ _ _ hm
  obtain ⟨x0, a0, b0, e0, c0, rfl, hv0⟩ : ∃ (x : Cl) (a : Option Addr) (b : Nat) (e : Option Addr) (c : Nat), v0 = .agg #[.slice a x.h.length b, .slice e x.b.length c] ∧ ClV W a b e c x := by
    obtain ⟨⟨l⟩, rfl⟩ := agg_clause (hval 0 31 v0 rfl rfl)
    obtain ⟨fuel, hf⟩ := h0
    obtain ⟨x, a, b, e, c, hc, g0, g1⟩ := open_clause7 hf
    have hc' : l = [.slice a x.h.length b, .slice e x.b.length c] := hc
    exact ⟨x, a, b, e, c, by rw [hc'], ⟨g0, g1⟩⟩
  have k1 := h1
  have lt1 : ∀ x ∈ p1, x.block < W.heap.size := by obtain ⟨m, hm⟩ := k1; exact DataW.trod_lt m _ _ _ hm
  obtain ⟨n1, rfl, _, _, wf1⟩ := open_int Try.underlying5 (hval 1 5 v1 rfl rfl) h1
  have k2 := h2
  have lt2 : ∀ x ∈ p2, x.block < W.heap.size := by obtain ⟨m, hm⟩ := k2; exact DataW.trod_lt m _ _ _ hm
  obtain ⟨a2, len2, cap2, rfl⟩ := okWide_slice Try.underlying28 (hval 2 28 v2 rfl rfl)
  obtain ⟨xs2, rfl, hr2⟩ : ∃ xs : List Cel, xs.length = len2 ∧ Row W a2 cap2 xs := by
    obtain ⟨fuel, hf⟩ := h2
    exact open_cells hf
  clear hA0 hval0
  refine (lawCut_any W x0 a0 b0 e0 c0 hv0 n1 wf1 xs2 a2 cap2 hr2).mono fun e W' ⟨he, bel⟩ => ?_
  subst he
  exact ⟨_, rfl, _, _, _, [], _, [], hW', trodAll_mk1 (shut_bool Try.underlying4 _), (trodAll_cons_mk (Below.trod Try.laidOut (by kernel_rfl) (of_decide_eq_true (by kernel_rfl)) k0 bel lt0) (trodAll_cons_mk (Below.trod Try.laidOut (by kernel_rfl) (of_decide_eq_true (by kernel_rfl)) k1 bel lt1) (trodAll_cons_mk (Below.trod Try.laidOut (by kernel_rfl) (of_decide_eq_true (by kernel_rfl)) k2 bel lt2) trodAll_mk0))), rfl, bel.frame _, fun h => by cases h⟩

theorem ProgCut_over : Rows.progCutRow.holds Try.pinned (OpenSpec.ofChange Rows.progCutSpec) :=
  OpenClaim.holds_of_wide 5 Try.f5 rfl rfl rfl rfl rfl rfl rfl ⟨rfl, rfl, rfl, rfl, rfl⟩ rfl rfl rfl rfl rfl (by kernel_rfl) Try.func5 (by kernel_rfl)
    (of_decide_eq_true (by kernel_rfl)) (by unfold Func.isWrapper; first | (rw [if_pos (by decide +kernel)]; kernel_rfl) | (rw [if_neg (by decide +kernel)]; exact ⟨rfl, rfl⟩))
    (fun os started H enc _ => ProgCut_lifted os started H enc)

theorem ProgCut_holds : Rows.ProgCutSaid := ProgCut_over
end Go.Proofs.Ytkgebkinlpmpnaa
