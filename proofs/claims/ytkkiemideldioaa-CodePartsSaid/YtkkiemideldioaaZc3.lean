/-
  Of layer 10 of sorrel: whatever arguments come in, the law CodeParts returns true, and what was handed in reads as it did: a fact's code is the beginning of the code of any clause with that head; a literal more changes nothing ahead of it. No condition.
-/
import Derived.Test.YtkkiemideldioaaZr8
import Derived.OrdersHeld
import Derived.Deep.RegionHeld3
set_option linter.unusedVariables false
namespace Go.Proofs.Ytkkiemideldioaa
open Go.RowKit

theorem clt_take {x : Cl} {h : Tm} {bl : List (Bool × Tm)} (hT : ClT x h bl) (k : Nat) : ClT ⟨x.h, x.b.take k⟩ h (bl.take k) where
  eh := hT.eh
  eb := by
    show x.b.take k = _
    rw [hT.eb, List.map_take]
  ok := hT.ok
  h3 := hT.h3
  h200 := hT.h200
  few := by rw [List.length_take]; have := hT.few; omega
  lits := fun p hp => hT.lits p (List.mem_of_mem_take hp)
theorem row_takeP {α : Type} [Rep α] {w : World} {a : Option Addr} {cap : Nat} {xs ys : List α} (h : Row w a cap xs) {k : Nat} (e : xs.take k = ys) : Row w a cap ys := by
  subst e
  exact ⟨by have := h.le; rw [List.length_take]; omega, h.max, h.nil, fun i x hi => h.at_ i x (by
    rw [List.getElem?_take] at hi
    split at hi
    · exact hi
    · cases hi)⟩
theorem run_eql_endP (s : ByteArray) (n : Int) (w : World) : (binOp .eql 48 (.agg #[.int .i64 13, .int .i64 0, .int .i64 0, .string s, .int .i64 n, .bool false]) (.agg #[.int .i64 13, .int .i64 0, .int .i64 0, .string s, .int .i64 n, .bool false])).run Try.prog w = .ok (.bool true) w := by
  go_simp
set_option maxRecDepth 100000 in
set_option maxHeartbeats 12800000 in
theorem lawParts_any (W : World) (x : Cl) (a : Option Addr) (b : Nat) (e : Option Addr) (c : Nat) (hu : Row W a b x.h) (hv : Row W e c x.b) (n : Int) (wf : (Lit.int .u8 n).wf = true) :
    Calls Try.prog 11 #[.agg #[.slice a x.h.length b, .slice e x.b.length c], .int .u8 n] W fun r W' => r = .returned (.bool true) ∧ Below W.heap.size W W' := by
  have hb0 := (Below.refl W.heap.size W).new (.cells #[.slice a x.h.length b, .slice e x.b.length c] 25)
  have hm3 := hv.max
  have hm4 := hv.le
  have hm1 := hu.max
  have hm2 := hu.le
  have p0 : (W.alloc (.cells #[.slice a x.h.length b, .slice e x.b.length c] 25)).cell? ⟨W.heap.size, 0, none⟩ = some (.slice a x.h.length b) := World.cell?_alloc_at _ _ W.heap.size 0 rfl
  have p1 : (W.alloc (.cells #[.slice a x.h.length b, .slice e x.b.length c] 25)).cell? ⟨W.heap.size, 1, none⟩ = some (.slice e x.b.length c) := World.cell?_alloc_at _ _ W.heap.size 1 rfl
  have HX := mkHid (hu.below hb0)
  have HX1 := mkHid (hv.below hb0)
  have HB0 := mkHid hb0
  obtain ⟨W0, hW⟩ : ∃ W0, W.alloc (.cells #[.slice a x.h.length b, .slice e x.b.length c] 25) = W0 := ⟨_, rfl⟩
  rw [hW] at p0 p1 HX HX1 HB0
  have HSZ : Hid (W.heap.size < W0.heap.size) := by rw [Hid, ← hW]; simp
  clear hu hv hb0
  cases hG : greatB [x]
  · cases hM : mayB x
    · go_enter Try.func11, Try.ntmps11
      go_wp2_with fail
      first | rw [hW] | skip
      clear hW
      refine (head10_any _).mono ?_
      rintro r w1 ⟨rfl, hb1⟩
      have HB1 := mkHid (HB0.out.then hb1)
      have q0 := keep p0 hb1
      have q1 := keep p1 hb1
      have HX2 := mkHid (HX.out.below hb1)
      have HX3 := mkHid (HX1.out.below hb1)
      have HZ2 : Hid (W.heap.size < w1.heap.size) := by have h1 := HSZ.out; have h2 := hb1.size; rw [Hid]; omega
      clear hb1 HB0 p0 p1 HX HX1 HSZ
      go_wp2_with fail
      have HT1 := mkHid (great7K _ _ _ [x] 1 _ (row_cl x HX2.out HX3.out) rfl hG)
      have hn1 := (Below.refl w1.heap.size w1).new (.cells #[.slice a x.h.length b, .slice e x.b.length c] 25)
      refine HT1.out.mono ?_
      clear HT1
      rintro r w2 ⟨rfl, hb2⟩
      have hb2' := hn1.then hb2
      have HB2 := mkHid (HB1.out.then hb2')
      have r0 := keep q0 hb2'
      have r1 := keep q1 hb2'
      have HX4 := mkHid (HX2.out.below hb2')
      have HX5 := mkHid (HX3.out.below hb2')
      have HZ3 : Hid (W.heap.size < w2.heap.size) := by have h1 := HZ2.out; have h2 := hb2'.size; rw [Hid]; omega
      clear hb2 hn1 hb2' HB1 q0 q1 HX2 HX3 HZ2
      go_wp2_with fail
      have HT1 := mkHid (mayK a b e c _ x _ _ _ HX4.out HX5.out rfl rfl hM)
      refine HT1.out.mono ?_
      clear HT1
      rintro r w3 ⟨rfl, hb3⟩
      have HB3 := mkHid (HB2.out.then hb3)
      have s0 := keep r0 hb3
      have s1 := keep r1 hb3
      have HX6 := mkHid (HX4.out.below hb3)
      have HX7 := mkHid (HX5.out.below hb3)
      have HZ4 : Hid (W.heap.size < w3.heap.size) := by have h1 := HZ3.out; have h2 := hb3.size; rw [Hid]; omega
      clear hb3 HB2 r0 r1 HX4 HX5 HZ3
      go_wp2_with fail
      go_ret
      exact ⟨rfl, HB3.out⟩
    · obtain ⟨h, bl, hT⟩ := may_trees hM
      have hxb8 : x.b.length ≤ 8 := by rw [hT.eb, List.length_map]; exact hT.few
      have hn2 : 0 ≤ n ∧ n ≤ 255 := by
        simp [Lit.wf, IntKind.min, IntKind.max, IntKind.signed, IntKind.bits] at wf
        omega
      obtain ⟨k, hk, hkl⟩ : ∃ k : Nat, Int.tmod n ((x.b.length : Int) + 1) = k ∧ k ≤ x.b.length := by
        have h1 : Int.tmod n ((x.b.length : Int) + 1) = n % ((x.b.length : Int) + 1) := Int.tmod_eq_emod_of_nonneg hn2.1
        have h2 := Int.emod_nonneg n (show ((x.b.length : Int) + 1) ≠ 0 by omega)
        have h3 := Int.emod_lt_of_pos n (show (0 : Int) < (x.b.length : Int) + 1 by omega)
        generalize n % ((x.b.length : Int) + 1) = r at h1 h2 h3
        exact ⟨r.toNat, by rw [h1]; omega, by omega⟩
      have hz : (((x.b.length : Int) + 1) == 0) = false := beq_false_of_ne (by omega)
      have hz2 : decide (((x.b.length : Int) + 1) = 0) = false := decide_eq_false (by omega)
      go_enter Try.func11, Try.ntmps11
      go_wp2_with fail
      first | rw [hW] | skip
      clear hW
      refine (head10_any _).mono ?_
      rintro r w1 ⟨rfl, hb1⟩
      have HB1 := mkHid (HB0.out.then hb1)
      have q0 := keep p0 hb1
      have q1 := keep p1 hb1
      have HX2 := mkHid (HX.out.below hb1)
      have HX3 := mkHid (HX1.out.below hb1)
      have HZ2 : Hid (W.heap.size < w1.heap.size) := by have h1 := HSZ.out; have h2 := hb1.size; rw [Hid]; omega
      clear hb1 HB0 p0 p1 HX HX1 HSZ
      go_wp2_with fail
      have HT1 := mkHid (great7K _ _ _ [x] 1 _ (row_cl x HX2.out HX3.out) rfl hG)
      have hn1 := (Below.refl w1.heap.size w1).new (.cells #[.slice a x.h.length b, .slice e x.b.length c] 25)
      refine HT1.out.mono ?_
      clear HT1
      rintro r w2 ⟨rfl, hb2⟩
      have hb2' := hn1.then hb2
      have HB2 := mkHid (HB1.out.then hb2')
      have r0 := keep q0 hb2'
      have r1 := keep q1 hb2'
      have HX4 := mkHid (HX2.out.below hb2')
      have HX5 := mkHid (HX3.out.below hb2')
      have HZ3 : Hid (W.heap.size < w2.heap.size) := by have h1 := HZ2.out; have h2 := hb2'.size; rw [Hid]; omega
      clear hb2 hn1 hb2' HB1 q0 q1 HX2 HX3 HZ2
      go_wp2_with fail
      have HT1 := mkHid (mayK a b e c _ x _ _ _ HX4.out HX5.out rfl rfl hM)
      refine HT1.out.mono ?_
      clear HT1
      rintro r w3 ⟨rfl, hb3⟩
      have HB3 := mkHid (HB2.out.then hb3)
      have s0 := keep r0 hb3
      have s1 := keep r1 hb3
      have HX6 := mkHid (HX4.out.below hb3)
      have HX7 := mkHid (HX5.out.below hb3)
      have HZ4 : Hid (W.heap.size < w3.heap.size) := by have h1 := HZ3.out; have h2 := hb3.size; rw [Hid]; omega
      clear hb3 HB2 r0 r1 HX4 HX5 HZ3
      go_wp2_with fail
      have HT1 := mkHid (compQ a b e c _ x h bl hT HX6.out HX7.out)
      refine HT1.out.mono ?_
      clear HT1
      rintro r w4 ⟨a2, c2, L, rfl, hrl, hL, hb4⟩
      have HL := mkHid hrl
      have HLE := mkHid hL
      have hlm := comp_shorts hT
      rw [← hL] at hlm
      obtain ⟨hl1, hl2⟩ := hlm
      have HB4 := mkHid (HB3.out.then hb4)
      have t0 := keep s0 hb4
      have t1 := keep s1 hb4
      have HX8 := mkHid (HX6.out.below hb4)
      have HX9 := mkHid (HX7.out.below hb4)
      have HZ5 : Hid (W.heap.size < w4.heap.size) := by have h1 := HZ4.out; have h2 := hb4.size; rw [Hid]; omega
      clear hb4 HB3 s0 s1 HX6 HX7 HZ4 hrl hL
      obtain ⟨p0, rest, hp1, hp2⟩ := compS_parts h bl hT.lita k
      rw [← HLE.out, ← List.append_assoc] at hp2
      obtain ⟨Q, hQ⟩ : ∃ Q, p0 ++ rest = Q := ⟨_, rfl⟩
      rw [hQ] at hp2
      subst hp2
      clear HLE
      have hql : p0.length ≤ Q.length := by rw [← hQ, List.length_append]; omega
      have HQT : Hid (∀ l : List Ins, (Q ++ l).take p0.length = p0) := fun l => by rw [← hQ, List.append_assoc, List.take_left]
      rw [List.length_append, List.length_singleton] at *
      have HS : Hid (∀ X, Below w4.heap.size w4 X → (fun X : World => X.cell? ⟨W.heap.size, 0, none⟩ = some (.slice a x.h.length b) ∧ X.cell? ⟨W.heap.size, 1, none⟩ = some (.slice e x.b.length c)) X) := fun X h => ⟨keep t0 h, keep t1 h⟩
      have hkc : k ≤ c := by omega
      have hTl : (x.b.take k).length = k := by rw [List.length_take]; omega
      have HCALL : Hid (∀ X, Below w4.heap.size w4 X → Calls Try.prog 17 #[.agg #[.slice a x.h.length b, .slice e k c]] X fun r w' => ∃ (a3 : Option Addr) (c3 : Nat), r = .returned (.tuple #[.slice a3 (p0.length + 1) c3, .int .i64 0]) ∧ Row w' a3 c3 (p0 ++ [(⟨13, 0, 0, h.hd.s, h.hd.n, false⟩ : Ins)]) ∧ Below X.heap.size X w') := fun X hX => by
        refine (compileY a b e c X ⟨x.h, x.b.take k⟩ h (bl.take k) x.h.length k (clt_take hT k) rfl hTl (HX8.out.below hX) (row_takeP (HX9.out.below hX) rfl)).mono ?_
        rintro r w' ⟨a3, c3, rfl, hr, hb⟩
        rw [hp1] at hr
        rw [hp1, List.length_append, List.length_singleton]
        exact ⟨a3, c3, rfl, hr.row, hb⟩
      clear hp1 hQ hTl
      go_wp2_with fail
      refine wp_region_noPanic ?_
      have hbd : Below w4.heap.size w4 w4.drew := (Below.refl _ _).drew
      refine wp_region_held_drew (S := fun X : World => X.cell? ⟨W.heap.size, 0, none⟩ = some (.slice a x.h.length b) ∧ X.cell? ⟨W.heap.size, 1, none⟩ = some (.slice e x.b.length c)) (by kernel_rfl) (HS.out _ hbd) (fun hSd => ?_)
      have HBD := mkHid hbd
      clear t0 t1 hbd
      obtain ⟨v0, hv0⟩ : ∃ X, w4.drew = X := ⟨_, rfl⟩
      rw [hv0] at HBD hSd ⊢
      clear hv0
      refine wpAnyH_take (i := 0) (oi := _) (v := ?_) rfl (by kernel_rfl) (by kernel_rfl) (by kernel_rfl) (fun _ _ _ h => h) (Or.inl ⟨by rfl, ?_⟩) (by assumption) ?_
      rotate_left
      · (intro w' hSw; obtain ⟨z0, z1⟩ := hSw; go_simp; try with_reducible rfl)
      (try simp only [List.getElem_toArray, List.getElem_cons_succ, List.getElem_cons_zero, Act.put, List.setIfInBounds_toArray, List.set_cons_zero, List.set_cons_succ])
      refine wpAnyH_take (i := 1) (oi := _) (v := ?_) rfl (by kernel_rfl) (by kernel_rfl) (by kernel_rfl) (fun _ _ _ h => h) (Or.inl ⟨by rfl, ?_⟩) (by assumption) ?_
      rotate_left
      · (intro w' hSw; obtain ⟨z0, z1⟩ := hSw; go_simp; try with_reducible rfl)
      (try simp only [List.getElem_toArray, List.getElem_cons_succ, List.getElem_cons_zero, Act.put, List.setIfInBounds_toArray, List.set_cons_zero, List.set_cons_succ])
      refine wpAnyH_take (i := 2) (oi := _) (v := ?_) rfl (by kernel_rfl) (by kernel_rfl) (by kernel_rfl) (fun _ _ _ h => h) (Or.inl ⟨by rfl, ?_⟩) (by assumption) ?_
      rotate_left
      · (intro w' hSw; obtain ⟨z0, z1⟩ := hSw; go_simp; try with_reducible rfl)
      (try simp only [List.getElem_toArray, List.getElem_cons_succ, List.getElem_cons_zero, Act.put, List.setIfInBounds_toArray, List.set_cons_zero, List.set_cons_succ])
      refine wpAnyH_take (i := 3) (oi := _) (v := ?_) rfl (by kernel_rfl) (by kernel_rfl) (by kernel_rfl) (fun _ _ _ h => h) (Or.inl ⟨by rfl, ?_⟩) (by assumption) ?_
      rotate_left
      · (intro w' hSw; obtain ⟨z0, z1⟩ := hSw; go_simp; try with_reducible rfl)
      (try simp only [List.getElem_toArray, List.getElem_cons_succ, List.getElem_cons_zero, Act.put, List.setIfInBounds_toArray, List.set_cons_zero, List.set_cons_succ])
      refine wpAnyH_take (i := 4) (oi := _) (v := ?_) rfl (by kernel_rfl) (by kernel_rfl) (by kernel_rfl) (fun _ _ _ h => h) (Or.inl ⟨by rfl, ?_⟩) (by assumption) ?_
      rotate_left
      · (intro w' hSw; obtain ⟨z0, z1⟩ := hSw; go_simp; try with_reducible rfl)
      (try simp only [List.getElem_toArray, List.getElem_cons_succ, List.getElem_cons_zero, Act.put, List.setIfInBounds_toArray, List.set_cons_zero, List.set_cons_succ])
      refine wpAnyH_take (i := 5) (oi := _) (v := ?_) rfl (by kernel_rfl) (by kernel_rfl) (by kernel_rfl) (fun _ _ _ h => h) (Or.inl ⟨by rfl, ?_⟩) (by assumption) ?_
      rotate_left
      · (intro w' hSw; obtain ⟨z0, z1⟩ := hSw; go_simp; try with_reducible rfl)
      (try simp only [List.getElem_toArray, List.getElem_cons_succ, List.getElem_cons_zero, Act.put, List.setIfInBounds_toArray, List.set_cons_zero, List.set_cons_succ])
      refine wpAnyH_take (i := 6) (oi := _) (v := ?_) rfl (by kernel_rfl) (by kernel_rfl) (by kernel_rfl) (fun _ _ _ h => h) (Or.inl ⟨by rfl, ?_⟩) (by assumption) ?_
      rotate_left
      · (intro w' hSw; obtain ⟨z0, z1⟩ := hSw; go_simp; try with_reducible rfl)
      (try simp only [List.getElem_toArray, List.getElem_cons_succ, List.getElem_cons_zero, Act.put, List.setIfInBounds_toArray, List.set_cons_zero, List.set_cons_succ])
      refine wpAnyH_ready (rs := [7]) (by kernel_rfl) (by simp) ?_
      refine AllReadyH.cons (o := _) rfl (fun K hK => ?_) AllReadyH.nil
      go_simp
      refine (HCALL.out v0 HBD.out).mono ?_
      rintro r v1 ⟨a3, c3, rfl, hr3, hb3⟩
      have HBE := mkHid (HBD.out.then hb3)
      have HR3 := mkHid hr3
      clear hr3 hb3
      try dsimp only
      refine hK.out _ _ (HS.out _ HBE.out) (fun hSc => ?_)
      clear hK K
      (try simp only [List.getElem_toArray, List.getElem_cons_succ, List.getElem_cons_zero, Act.put, List.setIfInBounds_toArray, List.set_cons_zero, List.set_cons_succ])
      refine wpAnyH_take (i := 8) (oi := _) (v := ?_) rfl (by kernel_rfl) (by kernel_rfl) (by kernel_rfl) (fun _ _ _ h => h) (Or.inl ⟨by rfl, ?_⟩) (by assumption) ?_
      rotate_left
      · (intro w' hSw; obtain ⟨z0, z1⟩ := hSw; go_simp; try with_reducible rfl)
      (try simp only [List.getElem_toArray, List.getElem_cons_succ, List.getElem_cons_zero, Act.put, List.setIfInBounds_toArray, List.set_cons_zero, List.set_cons_succ])
      refine wpAnyH_take (i := 9) (oi := _) (v := ?_) rfl (by kernel_rfl) (by kernel_rfl) (by kernel_rfl) (fun _ _ _ h => h) (Or.inl ⟨by rfl, ?_⟩) (by assumption) ?_
      rotate_left
      · (intro w' hSw; obtain ⟨z0, z1⟩ := hSw; go_simp; try with_reducible rfl)
      (try simp only [List.getElem_toArray, List.getElem_cons_succ, List.getElem_cons_zero, Act.put, List.setIfInBounds_toArray, List.set_cons_zero, List.set_cons_succ])
      refine wpAnyH_take (i := 10) (oi := _) (v := ?_) rfl (by kernel_rfl) (by kernel_rfl) (by kernel_rfl) (fun _ _ _ h => h) (Or.inl ⟨by rfl, ?_⟩) (by assumption) ?_
      rotate_left
      · (intro w' hSw; obtain ⟨z0, z1⟩ := hSw; go_simp; try with_reducible rfl)
      (try simp only [List.getElem_toArray, List.getElem_cons_succ, List.getElem_cons_zero, Act.put, List.setIfInBounds_toArray, List.set_cons_zero, List.set_cons_succ])
      refine wpAnyH_take (i := 11) (oi := _) (v := ?_) rfl (by kernel_rfl) (by kernel_rfl) (by kernel_rfl) (fun _ _ _ h => h) (Or.inl ⟨by rfl, ?_⟩) (by assumption) ?_
      rotate_left
      · (intro w' hSw; obtain ⟨z0, z1⟩ := hSw; go_simp; try with_reducible rfl)
      (try simp only [List.getElem_toArray, List.getElem_cons_succ, List.getElem_cons_zero, Act.put, List.setIfInBounds_toArray, List.set_cons_zero, List.set_cons_succ])
      refine wpAnyH_take (i := 12) (oi := _) (v := ?_) rfl (by kernel_rfl) (by kernel_rfl) (by kernel_rfl) (fun _ _ _ h => h) (Or.inl ⟨by rfl, ?_⟩) (by assumption) ?_
      rotate_left
      · (intro w' hSw; obtain ⟨z0, z1⟩ := hSw; go_simp; try with_reducible rfl)
      (try simp only [List.getElem_toArray, List.getElem_cons_succ, List.getElem_cons_zero, Act.put, List.setIfInBounds_toArray, List.set_cons_zero, List.set_cons_succ])
      refine wpAnyH_done (by kernel_rfl) (NoPanic.normal ?_) _
      have y0 := hSc.1
      have y1 := hSc.2
      have HL1 := mkHid (HL.out.below HBE.out)
      have HB1 := mkHid (HB4.out.then HBE.out)
      clear hSc HS HCALL HL HB4 HX8 HX9 hSd
      have hd1 : decide (p0.length < Q.length + 1) = true := by simp; omega
      have hd2 : decide (p0.length ≤ Q.length) = true := by simp; omega
      have hd3 : decide ((p0.length : Int) < (Q.length : Int) + 1) = true := by simp; omega
      obtain ⟨bb, off, rfl, hb, hat⟩ := HL1.out.cases.resolve_left (fun e => by simp at e)
      have hin := ins_at hat (Below.refl _ _) (k := Q.length) (by simp)
      rw [List.getElem_append_right (Nat.le_refl _)] at hin
      simp only [Nat.sub_self, List.getElem_cons_zero] at hin
      obtain ⟨c0, c1, c2', c3', c4, c5, _⟩ := hin
      obtain ⟨b6, o6, rfl, hb6, hat6⟩ := HR3.out.cases.resolve_left (fun e => by simp at e)
      have hin := ins_at hat6 (Below.refl _ _) (k := p0.length) (by simp)
      rw [List.getElem_append_right (Nat.le_refl _)] at hin
      simp only [Nat.sub_self, List.getElem_cons_zero] at hin
      obtain ⟨d0, d1, d2, d3, d4, d5, _⟩ := hin
      have k0 : ∀ z : Later v1, z.w'.cell? ⟨bb, off + Q.length * 6, none⟩ = some (.int .i64 13) := keepL c0
      have k1 : ∀ z : Later v1, z.w'.cell? ⟨bb, off + Q.length * 6 + 1, none⟩ = some (.int .i64 0) := keepL c1
      have k2 : ∀ z : Later v1, z.w'.cell? ⟨bb, off + Q.length * 6 + 2, none⟩ = some (.int .i64 0) := keepL c2'
      have k3 : ∀ z : Later v1, z.w'.cell? ⟨bb, off + Q.length * 6 + 3, none⟩ = some (.string h.hd.s) := keepL c3'
      have k4 : ∀ z : Later v1, z.w'.cell? ⟨bb, off + Q.length * 6 + 4, none⟩ = some (.int .i64 h.hd.n) := keepL c4
      have k5 : ∀ z : Later v1, z.w'.cell? ⟨bb, off + Q.length * 6 + 5, none⟩ = some (.bool false) := keepL c5
      have j0 : ∀ z : Later v1, z.w'.cell? ⟨b6, o6 + p0.length * 6, none⟩ = some (.int .i64 13) := keepL d0
      have j1 : ∀ z : Later v1, z.w'.cell? ⟨b6, o6 + p0.length * 6 + 1, none⟩ = some (.int .i64 0) := keepL d1
      have j2 : ∀ z : Later v1, z.w'.cell? ⟨b6, o6 + p0.length * 6 + 2, none⟩ = some (.int .i64 0) := keepL d2
      have j3 : ∀ z : Later v1, z.w'.cell? ⟨b6, o6 + p0.length * 6 + 3, none⟩ = some (.string h.hd.s) := keepL d3
      have j4 : ∀ z : Later v1, z.w'.cell? ⟨b6, o6 + p0.length * 6 + 4, none⟩ = some (.int .i64 h.hd.n) := keepL d4
      have j5 : ∀ z : Later v1, z.w'.cell? ⟨b6, o6 + p0.length * 6 + 5, none⟩ = some (.bool false) := keepL d5
      have hcall : ∀ z : Later v1, Calls Try.prog 19 #[.slice (some ⟨b6, o6, none⟩) p0.length c3, .slice (some ⟨bb, off, none⟩) p0.length c2] z.w' fun e w'' => e = .returned (.bool true) ∧ Below z.w'.heap.size z.w' w'' := fun z =>
        sameIK _ _ _ _ _ p0 p0 _ _ true rfl rfl (by simp) (row_takeP (HR3.out.below z.ok) List.take_left) (row_takeP (HL1.out.below z.ok) (HQT.out _))
      have hre := fun w => run_eql_endP h.hd.s h.hd.n w
      have hmL := HL1.out.max
      have hlL := HL1.out.le
      have hmR := HR3.out.max
      have hlR := HR3.out.le
      rw [List.length_append, List.length_singleton] at hlL hlR
      have hs1 : p0.length ≤ c2 := by omega
      have hs2 : p0.length ≤ c3 := by omega
      clear c0 c1 c2' c3' c4 c5 hat d0 d1 d2 d3 d4 d5 hat6 y0 y1
      go_wp2_with fail
      refine wp_region_calm (by kernel_rfl) (by kernel_rfl) ?_
      repeat (go_big_quiet_step (exact Calls.calm_of (hcall _)))
      refine wpQuiet_nil ?_
      rintro w8 ⟨z, hz⟩
      have hb8 := z.ok
      rw [← hz] at hb8
      clear hz z
      go_wp2_with fail
      go_ret
      exact ⟨rfl, HB1.out.then hb8⟩
  · go_enter Try.func11, Try.ntmps11
    go_wp2_with fail
    first | rw [hW] | skip
    clear hW
    refine (head10_any _).mono ?_
    rintro r w1 ⟨rfl, hb1⟩
    have HB1 := mkHid (HB0.out.then hb1)
    have q0 := keep p0 hb1
    have q1 := keep p1 hb1
    have HX2 := mkHid (HX.out.below hb1)
    have HX3 := mkHid (HX1.out.below hb1)
    have HZ2 : Hid (W.heap.size < w1.heap.size) := by have h1 := HSZ.out; have h2 := hb1.size; rw [Hid]; omega
    clear hb1 HB0 p0 p1 HX HX1 HSZ
    go_wp2_with fail
    have HT1 := mkHid (great7K _ _ _ [x] 1 _ (row_cl x HX2.out HX3.out) rfl hG)
    have hn1 := (Below.refl w1.heap.size w1).new (.cells #[.slice a x.h.length b, .slice e x.b.length c] 25)
    refine HT1.out.mono ?_
    clear HT1
    rintro r w2 ⟨rfl, hb2⟩
    have hb2' := hn1.then hb2
    have HB2 := mkHid (HB1.out.then hb2')
    have r0 := keep q0 hb2'
    have r1 := keep q1 hb2'
    have HX4 := mkHid (HX2.out.below hb2')
    have HX5 := mkHid (HX3.out.below hb2')
    have HZ3 : Hid (W.heap.size < w2.heap.size) := by have h1 := HZ2.out; have h2 := hb2'.size; rw [Hid]; omega
    clear hb2 hn1 hb2' HB1 q0 q1 HX2 HX3 HZ2
    go_wp2_with fail
    go_ret
    exact ⟨rfl, HB2.out⟩
end Go.Proofs.Ytkkiemideldioaa
namespace Go.Proofs.Ytkkiemideldioaa
open Go.RowKit Go.ChangeShapes Go.WideShapes Go.ChangeAt
open Go.ChangeMaps (open_string)

set_option maxRecDepth 100000 in
set_option maxHeartbeats 1000000 in
theorem CodeParts_lifted (os : Os) (started : os.Started) (H : Type) (enc : TypeId × Value → H) :
    ReturnsInHanded {} Try.checked os 11 .any (Rows.codePartsSpec.pre6 enc Try.prog Try.f11 Rows.codePartsRow.domain false) (Rows.codePartsSpec.post enc Try.prog Try.f11 false true false false) := by
  refine returnsInHanded_of_change (C := Try.checked) Try.own started (by kernel_rfl) Try.func11
    (ChangeSpec.witness6 (enc := enc) (C := Try.checked) false ⟨#[], #[.agg #[.slice none 0 0, .slice none 0 0], .int .u8 0], []⟩ 8 (by kernel_rfl) (by kernel_rfl) (by kernel_rfl) (by kernel_rfl)) ?_
  intro W base args ds gs before hval0 hW hcnd _
  have hval : ∀ (j : Nat) t v, Try.f11.params[j]? = some t → args[j]? = some v → Value.okWide Try.prog W .any base t v := hval0
  have hW' := hW
  obtain ⟨p, q, hA0, hV, rfl, hfz, hnd⟩ := hW
  have hA : DataW.TrodAll enc Try.prog W 0 (fun _ => true) true Try.f11.params.toList args.toList ds p := hA0
  rw [Try.params11] at hA hval
  obtain ⟨v0, vs0, d0, ds0, p0, q0, hargs, rfl, rfl, h0, r0⟩ := trodAll_cons hA
  obtain ⟨v1, vs1, d1, ds1, p1, q1, rfl, rfl, rfl, h1, r1⟩ := trodAll_cons r0
  obtain ⟨rfl, rfl, rfl⟩ := trodAll_nil r1
  obtain rfl : args = #[v0, v1] := by cases args; simp_all
  obtain ⟨rfl, rfl⟩ := trodVars_none hV
  have k0 := h0
  have lt0 : ∀ x ∈ p0, x.block < W.heap.size := by obtain ⟨m, hm⟩ := k0; exact DataW.trod_lt m _ _ _ hm
  obtain ⟨x0, a0, b0, e0, c0, rfl, hu0, hv0⟩ : ∃ (x : Cl) (a : Option Addr) (b : Nat) (e : Option Addr) (c : Nat), v0 = .agg #[.slice a x.h.length b, .slice e x.b.length c] ∧ Row W a b x.h ∧ Row W e c x.b := by
    obtain ⟨⟨l⟩, rfl⟩ := agg_clause (hval 0 25 v0 rfl rfl)
    obtain ⟨fuel, hf⟩ := h0
    obtain ⟨x, a, b, e, c, hc, g0, g1⟩ := open_clause7 hf
    have hc' : l = [.slice a x.h.length b, .slice e x.b.length c] := hc
    exact ⟨x, a, b, e, c, by rw [hc'], g0, g1⟩
  have k1 := h1
  have lt1 : ∀ x ∈ p1, x.block < W.heap.size := by obtain ⟨m, hm⟩ := k1; exact DataW.trod_lt m _ _ _ hm
  obtain ⟨n1, rfl, _, _, wf1⟩ := open_int Try.underlying5 (hval 1 5 v1 rfl rfl) h1
  clear hA0 hval0
  refine (lawParts_any W x0 a0 b0 e0 c0 hu0 hv0 n1 wf1).mono fun e W' ⟨he, bel⟩ => ?_
  subst he
  exact ⟨_, rfl, _, _, _, [], _, [], hW', trodAll_mk1 (shut_bool Try.underlying4 _), (trodAll_cons_mk (Below.trod Try.laidOut (by kernel_rfl) (of_decide_eq_true (by kernel_rfl)) k0 bel lt0) (trodAll_cons_mk (Below.trod Try.laidOut (by kernel_rfl) (of_decide_eq_true (by kernel_rfl)) k1 bel lt1) trodAll_mk0)), rfl, bel.frame _, fun h => by cases h⟩

theorem CodeParts_over : Rows.codePartsRow.holds Try.pinned (OpenSpec.ofChange Rows.codePartsSpec) :=
  OpenClaim.holds_of_wide 11 Try.f11 rfl rfl rfl rfl rfl rfl rfl ⟨rfl, rfl, rfl, rfl, rfl⟩ rfl rfl rfl rfl rfl (by kernel_rfl) Try.func11 (by kernel_rfl)
    (of_decide_eq_true (by kernel_rfl)) (by unfold Func.isWrapper; first | (rw [if_pos (by decide +kernel)]; kernel_rfl) | (rw [if_neg (by decide +kernel)]; exact ⟨rfl, rfl⟩))
    (fun os started H enc _ => CodeParts_lifted os started H enc)

theorem CodeParts_holds : Rows.CodePartsSaid := CodeParts_over
end Go.Proofs.Ytkkiemideldioaa
