/-
  Of layer 12 of sorrel: whatever arguments come in, the law FactsSet returns true, and what was handed in reads as it did: a row to which a fact is added has it, and all that it had, and nothing else; one from which it is dropped has all but that; both are right; and what is added, if it was not there, and dropped is as it was. No condition.
-/
import Derived.Test.YtmmnfkggfnokjaaZr8
namespace Go.Proofs.Ytmmnfkggfnokjaa
open Go.RowKit

set_option maxHeartbeats 4000000 in
set_option maxRecDepth 100000 in
theorem lawSet_any (hH : Head12) (a : Option Addr) (cap : Nat) (l : List (List Cel)) (a' : Option Addr) (cap' : Nat) (t : List Cel) (b' : Option Addr) (cbp : Nat) (t2 : List Cel) (w : World) (hr : Row w a cap l) (ht : Row w a' cap' t) (ho : Row w b' cbp t2) :
    Calls Try.prog 7 #[.slice a l.length cap, .slice a' t.length cap', .slice b' t2.length cbp] w fun e w' => e = .returned (.bool true) ∧ Below w.heap.size w w' := by
  have hm := hr.max
  have hm2 := hr.le
  have HH := mkHid hH
  clear hH
  go_enter Try.func7, Try.ntmps7
  go_wp2_with fail
  refine (HH.out _).mono ?_
  rintro e w1 ⟨rfl, hb1⟩
  go_wp2_with fail
  refine (row12_any a cap w1 l (hr.below hb1) 60 (by omega)).mono ?_
  rintro e w2 ⟨a2, c2, m, rfl, hr2, hF2, hl2, hb2⟩
  have HF := mkHid hF2
  clear hF2
  have hb12 := hb1.then hb2
  go_wp2_with fail
  refine (made12_any a' cap' w2 t (ht.below hb12)).mono ?_
  rintro e w3 ⟨a3, c3, u, rfl, hr3, hQ3, hl3, hb3⟩
  have hb13 := hb12.then hb3
  go_wp2_with fail
  refine (made12_any b' cbp w3 t2 (ho.below hb13)).mono ?_
  rintro e w4 ⟨a4, c4, v, rfl, hr4, hQ4, hl4, hb4⟩
  have hb14 := hb13.then hb4
  have rM := mkHid ((hr2.below hb3).below hb4)
  have rU := mkHid (hr3.below hb4)
  have rV := mkHid hr4
  have HB := mkHid hb14
  clear hb1 hb2 hb12 hb3 hb13 hb4 hb14 hr2 hr3 hr4 hl3 hl4
  have hlm : m.length < 512 := by omega
  obtain ⟨A, hA⟩ : ∃ A, addF m u = A := ⟨_, rfl⟩
  have HA := mkHid hA
  have HAE : Hid (addE m u = 0) := addE_ok hQ3 hlm
  have hAm : ∀ y, y ∈ A ↔ y = u ∨ y ∈ m := fun y => by rw [← hA]; exact mem_addF hQ3 hlm
  have hFA0 : FR A := by rw [← hA]; exact HF.out.add u
  have HFA := mkHid hFA0
  have HRA : Hid (frightB A = true) := hFA0.rightB
  have huA : u ∈ A := (hAm u).2 (.inl rfl)
  obtain ⟨D, hD⟩ : ∃ D, dropF A u = D := ⟨_, rfl⟩
  have HD := mkHid hD
  have HDE : Hid (dropE A u = 0) := dropE_ok hQ3 huA
  have hDm : ∀ y, y ∈ D ↔ (y = u ∨ y ∈ m) ∧ y ≠ u := fun y => by rw [← hD, mem_dropF hQ3 huA, hAm]
  have hFD0 : FR D := by rw [← hD]; exact hFA0.dropF u
  have HFD := mkHid hFD0
  have HRD : Hid (frightB D = true) := hFD0.rightB
  have HuA : Hid (decide (u ∈ A) = true) := decide_eq_true huA
  have HuD : Hid (decide (u ∈ D) = false) := decide_eq_false (by rw [hDm]; simp)
  have hlen := addF_len (l := m) hQ3 hlm
  rw [hA] at hlen
  have HLEN := mkHid hlen
  have HBACK : Hid (u ∉ m → D = m) := fun h => by rw [← hD, ← hA]; exact drop_add HF.out hQ3 hlm h
  have HAM := mkHid hAm
  have HDM := mkHid hDm
  have hAmax : A.length ≤ 512 := hFA0.len
  clear hA hD hAm hDm hFA0 hFD0 huA hlen hQ3 hQ4
  go_wp2_with fail
  refine (addK rM.out rU.out HF HA HAE).mono ?_
  rintro e w5 ⟨a5, c5, rfl, q, hw5⟩
  replace rM := mkHid (rM.out.below hw5)
  replace rU := mkHid (rU.out.below hw5)
  replace rV := mkHid (rV.out.below hw5)
  replace HB := mkHid (HB.out.then hw5)
  clear hw5
  have rA := mkHid q
  clear q
  go_wp2_with fail
  refine (dropK rA.out rU.out HFA HD HDE).mono ?_
  rintro e w6 ⟨a6, c6, rfl, q, hw6⟩
  replace rM := mkHid (rM.out.below hw6)
  replace rU := mkHid (rU.out.below hw6)
  replace rV := mkHid (rV.out.below hw6)
  replace rA := mkHid (rA.out.below hw6)
  replace HB := mkHid (HB.out.then hw6)
  clear hw6
  have rD := mkHid q
  clear q
  go_wp2_with fail
  refine (rightK rA.out HRA).mono ?_
  rintro e w7 ⟨rfl, hw7⟩
  replace rM := mkHid (rM.out.below hw7)
  replace rU := mkHid (rU.out.below hw7)
  replace rV := mkHid (rV.out.below hw7)
  replace rA := mkHid (rA.out.below hw7)
  replace rD := mkHid (rD.out.below hw7)
  replace HB := mkHid (HB.out.then hw7)
  clear hw7
  go_wp2_with fail
  refine (rightK rD.out HRD).mono ?_
  rintro e w8 ⟨rfl, hw8⟩
  replace rM := mkHid (rM.out.below hw8)
  replace rU := mkHid (rU.out.below hw8)
  replace rV := mkHid (rV.out.below hw8)
  replace rA := mkHid (rA.out.below hw8)
  replace rD := mkHid (rD.out.below hw8)
  replace HB := mkHid (HB.out.then hw8)
  clear hw8
  go_wp2_with fail
  refine (refrightK rA.out HRA).mono ?_
  rintro e w9 ⟨rfl, hw9⟩
  replace rM := mkHid (rM.out.below hw9)
  replace rU := mkHid (rU.out.below hw9)
  replace rV := mkHid (rV.out.below hw9)
  replace rA := mkHid (rA.out.below hw9)
  replace rD := mkHid (rD.out.below hw9)
  replace HB := mkHid (HB.out.then hw9)
  clear hw9
  go_wp2_with fail
  refine (hasK rA.out rU.out HFA HuA).mono ?_
  rintro e w10 ⟨rfl, hw10⟩
  replace rM := mkHid (rM.out.below hw10)
  replace rU := mkHid (rU.out.below hw10)
  replace rV := mkHid (rV.out.below hw10)
  replace rA := mkHid (rA.out.below hw10)
  replace rD := mkHid (rD.out.below hw10)
  replace HB := mkHid (HB.out.then hw10)
  clear hw10
  go_wp2_with fail
  refine (hasK rD.out rU.out HFD HuD).mono ?_
  rintro e w11 ⟨rfl, hw11⟩
  replace rM := mkHid (rM.out.below hw11)
  replace rU := mkHid (rU.out.below hw11)
  replace rV := mkHid (rV.out.below hw11)
  replace rA := mkHid (rA.out.below hw11)
  replace rD := mkHid (rD.out.below hw11)
  replace HB := mkHid (HB.out.then hw11)
  clear hw11
  obtain ⟨s, hs⟩ : ∃ s, decide (u = v) = s := ⟨_, rfl⟩
  have HS := mkHid hs
  clear hs
  obtain ⟨h, hh⟩ : ∃ h, decide (u ∈ m) = h := ⟨_, rfl⟩
  have HM := mkHid hh
  clear hh
  obtain ⟨g, hg⟩ : ∃ g, decide (v ∈ m) = g := ⟨_, rfl⟩
  have HG := mkHid hg
  clear hg
  have HVA : Hid (decide (v ∈ A) = (s || g)) := by
    rw [Hid, ← HS.out, ← HG.out, ← Bool.decide_or]
    exact decide_eq_decide.2 ((HAM.out v).trans ⟨fun h => h.elim (fun e => .inl e.symm) .inr, fun h => h.elim (fun e => .inl e.symm) .inr⟩)
  have HVD : Hid (decide (v ∈ D) = (!s && g)) := by
    rw [Hid, ← HS.out, ← HG.out, ← decide_not, ← Bool.decide_and]
    refine decide_eq_decide.2 ((HDM.out v).trans ⟨fun h => ⟨fun e => h.2 e.symm, h.1.resolve_left h.2⟩, fun h => ⟨.inr h.2, fun e => h.1 e.symm⟩⟩)
  go_wp2_with fail
  refine (refsameF_is rU.out rV.out HS).mono ?_
  rintro e w12 ⟨rfl, hw12⟩
  replace rM := mkHid (rM.out.below hw12)
  replace rU := mkHid (rU.out.below hw12)
  replace rV := mkHid (rV.out.below hw12)
  replace rA := mkHid (rA.out.below hw12)
  replace rD := mkHid (rD.out.below hw12)
  replace HB := mkHid (HB.out.then hw12)
  clear hw12
  go_wp2_with fail
  refine (refhasK rM.out rU.out HM).mono ?_
  rintro e w13 ⟨rfl, hw13⟩
  replace rM := mkHid (rM.out.below hw13)
  replace rU := mkHid (rU.out.below hw13)
  replace rV := mkHid (rV.out.below hw13)
  replace rA := mkHid (rA.out.below hw13)
  replace rD := mkHid (rD.out.below hw13)
  replace HB := mkHid (HB.out.then hw13)
  clear hw13
  cases h with
  | false =>
    have hn : u ∉ m := of_decide_eq_false HM.out
    have hl1 : A.length = m.length + 1 := by have := HLEN.out; rwa [if_neg hn] at this
    have hl2 : ((A.length : Int) != (m.length : Int) + 1) = false := by simp [hl1]
    have HDm : Hid (decide (D = m) = true) := decide_eq_true (HBACK.out hn)
    clear hl1 hn
    go_wp2_with fail
    refine (sameK rD.out rM.out HDm).mono ?_
    rintro e w14 ⟨rfl, hw14⟩
    replace rM := mkHid (rM.out.below hw14)
    replace rU := mkHid (rU.out.below hw14)
    replace rV := mkHid (rV.out.below hw14)
    replace rA := mkHid (rA.out.below hw14)
    replace rD := mkHid (rD.out.below hw14)
    replace HB := mkHid (HB.out.then hw14)
    clear hw14
    cases s with
    | false =>
      cases g with
      | false =>
        go_wp2_with fail
        refine (hasK (b := false) rA.out rV.out HFA HVA).mono ?_
        rintro e w15 ⟨rfl, hw15⟩
        replace rM := mkHid (rM.out.below hw15)
        replace rU := mkHid (rU.out.below hw15)
        replace rV := mkHid (rV.out.below hw15)
        replace rA := mkHid (rA.out.below hw15)
        replace rD := mkHid (rD.out.below hw15)
        replace HB := mkHid (HB.out.then hw15)
        clear hw15
        go_wp2_with fail
        refine (refhasK rM.out rV.out HG).mono ?_
        rintro e w16 ⟨rfl, hw16⟩
        replace rM := mkHid (rM.out.below hw16)
        replace rU := mkHid (rU.out.below hw16)
        replace rV := mkHid (rV.out.below hw16)
        replace rA := mkHid (rA.out.below hw16)
        replace rD := mkHid (rD.out.below hw16)
        replace HB := mkHid (HB.out.then hw16)
        clear hw16
        go_wp2_with fail
        refine (hasK (b := false) rD.out rV.out HFD HVD).mono ?_
        rintro e w17 ⟨rfl, hw17⟩
        replace rM := mkHid (rM.out.below hw17)
        replace rU := mkHid (rU.out.below hw17)
        replace rV := mkHid (rV.out.below hw17)
        replace rA := mkHid (rA.out.below hw17)
        replace rD := mkHid (rD.out.below hw17)
        replace HB := mkHid (HB.out.then hw17)
        clear hw17
        go_wp2_with fail
        refine (refhasK rM.out rV.out HG).mono ?_
        rintro e w18 ⟨rfl, hw18⟩
        replace rM := mkHid (rM.out.below hw18)
        replace rU := mkHid (rU.out.below hw18)
        replace rV := mkHid (rV.out.below hw18)
        replace rA := mkHid (rA.out.below hw18)
        replace rD := mkHid (rD.out.below hw18)
        replace HB := mkHid (HB.out.then hw18)
        clear hw18
        go_wp2_with fail
        go_ret
        exact ⟨rfl, HB.out⟩
      | true =>
        go_wp2_with fail
        refine (hasK (b := true) rA.out rV.out HFA HVA).mono ?_
        rintro e w15 ⟨rfl, hw15⟩
        replace rM := mkHid (rM.out.below hw15)
        replace rU := mkHid (rU.out.below hw15)
        replace rV := mkHid (rV.out.below hw15)
        replace rA := mkHid (rA.out.below hw15)
        replace rD := mkHid (rD.out.below hw15)
        replace HB := mkHid (HB.out.then hw15)
        clear hw15
        go_wp2_with fail
        refine (refhasK rM.out rV.out HG).mono ?_
        rintro e w16 ⟨rfl, hw16⟩
        replace rM := mkHid (rM.out.below hw16)
        replace rU := mkHid (rU.out.below hw16)
        replace rV := mkHid (rV.out.below hw16)
        replace rA := mkHid (rA.out.below hw16)
        replace rD := mkHid (rD.out.below hw16)
        replace HB := mkHid (HB.out.then hw16)
        clear hw16
        go_wp2_with fail
        refine (hasK (b := true) rD.out rV.out HFD HVD).mono ?_
        rintro e w17 ⟨rfl, hw17⟩
        replace rM := mkHid (rM.out.below hw17)
        replace rU := mkHid (rU.out.below hw17)
        replace rV := mkHid (rV.out.below hw17)
        replace rA := mkHid (rA.out.below hw17)
        replace rD := mkHid (rD.out.below hw17)
        replace HB := mkHid (HB.out.then hw17)
        clear hw17
        go_wp2_with fail
        refine (refhasK rM.out rV.out HG).mono ?_
        rintro e w18 ⟨rfl, hw18⟩
        replace rM := mkHid (rM.out.below hw18)
        replace rU := mkHid (rU.out.below hw18)
        replace rV := mkHid (rV.out.below hw18)
        replace rA := mkHid (rA.out.below hw18)
        replace rD := mkHid (rD.out.below hw18)
        replace HB := mkHid (HB.out.then hw18)
        clear hw18
        go_wp2_with fail
        go_ret
        exact ⟨rfl, HB.out⟩
    | true =>
      cases g with
      | false =>
        go_wp2_with fail
        refine (hasK (b := true) rA.out rV.out HFA HVA).mono ?_
        rintro e w15 ⟨rfl, hw15⟩
        replace rM := mkHid (rM.out.below hw15)
        replace rU := mkHid (rU.out.below hw15)
        replace rV := mkHid (rV.out.below hw15)
        replace rA := mkHid (rA.out.below hw15)
        replace rD := mkHid (rD.out.below hw15)
        replace HB := mkHid (HB.out.then hw15)
        clear hw15
        go_wp2_with fail
        refine (hasK (b := false) rD.out rV.out HFD HVD).mono ?_
        rintro e w16 ⟨rfl, hw16⟩
        replace rM := mkHid (rM.out.below hw16)
        replace rU := mkHid (rU.out.below hw16)
        replace rV := mkHid (rV.out.below hw16)
        replace rA := mkHid (rA.out.below hw16)
        replace rD := mkHid (rD.out.below hw16)
        replace HB := mkHid (HB.out.then hw16)
        clear hw16
        go_wp2_with fail
        go_ret
        exact ⟨rfl, HB.out⟩
      | true =>
        go_wp2_with fail
        refine (hasK (b := true) rA.out rV.out HFA HVA).mono ?_
        rintro e w15 ⟨rfl, hw15⟩
        replace rM := mkHid (rM.out.below hw15)
        replace rU := mkHid (rU.out.below hw15)
        replace rV := mkHid (rV.out.below hw15)
        replace rA := mkHid (rA.out.below hw15)
        replace rD := mkHid (rD.out.below hw15)
        replace HB := mkHid (HB.out.then hw15)
        clear hw15
        go_wp2_with fail
        refine (hasK (b := false) rD.out rV.out HFD HVD).mono ?_
        rintro e w16 ⟨rfl, hw16⟩
        replace rM := mkHid (rM.out.below hw16)
        replace rU := mkHid (rU.out.below hw16)
        replace rV := mkHid (rV.out.below hw16)
        replace rA := mkHid (rA.out.below hw16)
        replace rD := mkHid (rD.out.below hw16)
        replace HB := mkHid (HB.out.then hw16)
        clear hw16
        go_wp2_with fail
        go_ret
        exact ⟨rfl, HB.out⟩
  | true =>
    have hl1 : A.length = m.length := by have := HLEN.out; rwa [if_pos (of_decide_eq_true HM.out)] at this
    have hl2 : ((A.length : Int) != (m.length : Int)) = false := by simp [hl1]
    clear hl1
    cases s with
    | false =>
      cases g with
      | false =>
        go_wp2_with fail
        refine (hasK (b := false) rA.out rV.out HFA HVA).mono ?_
        rintro e w14 ⟨rfl, hw14⟩
        replace rM := mkHid (rM.out.below hw14)
        replace rU := mkHid (rU.out.below hw14)
        replace rV := mkHid (rV.out.below hw14)
        replace rA := mkHid (rA.out.below hw14)
        replace rD := mkHid (rD.out.below hw14)
        replace HB := mkHid (HB.out.then hw14)
        clear hw14
        go_wp2_with fail
        refine (refhasK rM.out rV.out HG).mono ?_
        rintro e w15 ⟨rfl, hw15⟩
        replace rM := mkHid (rM.out.below hw15)
        replace rU := mkHid (rU.out.below hw15)
        replace rV := mkHid (rV.out.below hw15)
        replace rA := mkHid (rA.out.below hw15)
        replace rD := mkHid (rD.out.below hw15)
        replace HB := mkHid (HB.out.then hw15)
        clear hw15
        go_wp2_with fail
        refine (hasK (b := false) rD.out rV.out HFD HVD).mono ?_
        rintro e w16 ⟨rfl, hw16⟩
        replace rM := mkHid (rM.out.below hw16)
        replace rU := mkHid (rU.out.below hw16)
        replace rV := mkHid (rV.out.below hw16)
        replace rA := mkHid (rA.out.below hw16)
        replace rD := mkHid (rD.out.below hw16)
        replace HB := mkHid (HB.out.then hw16)
        clear hw16
        go_wp2_with fail
        refine (refhasK rM.out rV.out HG).mono ?_
        rintro e w17 ⟨rfl, hw17⟩
        replace rM := mkHid (rM.out.below hw17)
        replace rU := mkHid (rU.out.below hw17)
        replace rV := mkHid (rV.out.below hw17)
        replace rA := mkHid (rA.out.below hw17)
        replace rD := mkHid (rD.out.below hw17)
        replace HB := mkHid (HB.out.then hw17)
        clear hw17
        go_wp2_with fail
        go_ret
        exact ⟨rfl, HB.out⟩
      | true =>
        go_wp2_with fail
        refine (hasK (b := true) rA.out rV.out HFA HVA).mono ?_
        rintro e w14 ⟨rfl, hw14⟩
        replace rM := mkHid (rM.out.below hw14)
        replace rU := mkHid (rU.out.below hw14)
        replace rV := mkHid (rV.out.below hw14)
        replace rA := mkHid (rA.out.below hw14)
        replace rD := mkHid (rD.out.below hw14)
        replace HB := mkHid (HB.out.then hw14)
        clear hw14
        go_wp2_with fail
        refine (refhasK rM.out rV.out HG).mono ?_
        rintro e w15 ⟨rfl, hw15⟩
        replace rM := mkHid (rM.out.below hw15)
        replace rU := mkHid (rU.out.below hw15)
        replace rV := mkHid (rV.out.below hw15)
        replace rA := mkHid (rA.out.below hw15)
        replace rD := mkHid (rD.out.below hw15)
        replace HB := mkHid (HB.out.then hw15)
        clear hw15
        go_wp2_with fail
        refine (hasK (b := true) rD.out rV.out HFD HVD).mono ?_
        rintro e w16 ⟨rfl, hw16⟩
        replace rM := mkHid (rM.out.below hw16)
        replace rU := mkHid (rU.out.below hw16)
        replace rV := mkHid (rV.out.below hw16)
        replace rA := mkHid (rA.out.below hw16)
        replace rD := mkHid (rD.out.below hw16)
        replace HB := mkHid (HB.out.then hw16)
        clear hw16
        go_wp2_with fail
        refine (refhasK rM.out rV.out HG).mono ?_
        rintro e w17 ⟨rfl, hw17⟩
        replace rM := mkHid (rM.out.below hw17)
        replace rU := mkHid (rU.out.below hw17)
        replace rV := mkHid (rV.out.below hw17)
        replace rA := mkHid (rA.out.below hw17)
        replace rD := mkHid (rD.out.below hw17)
        replace HB := mkHid (HB.out.then hw17)
        clear hw17
        go_wp2_with fail
        go_ret
        exact ⟨rfl, HB.out⟩
    | true =>
      cases g with
      | false =>
        go_wp2_with fail
        refine (hasK (b := true) rA.out rV.out HFA HVA).mono ?_
        rintro e w14 ⟨rfl, hw14⟩
        replace rM := mkHid (rM.out.below hw14)
        replace rU := mkHid (rU.out.below hw14)
        replace rV := mkHid (rV.out.below hw14)
        replace rA := mkHid (rA.out.below hw14)
        replace rD := mkHid (rD.out.below hw14)
        replace HB := mkHid (HB.out.then hw14)
        clear hw14
        go_wp2_with fail
        refine (hasK (b := false) rD.out rV.out HFD HVD).mono ?_
        rintro e w15 ⟨rfl, hw15⟩
        replace rM := mkHid (rM.out.below hw15)
        replace rU := mkHid (rU.out.below hw15)
        replace rV := mkHid (rV.out.below hw15)
        replace rA := mkHid (rA.out.below hw15)
        replace rD := mkHid (rD.out.below hw15)
        replace HB := mkHid (HB.out.then hw15)
        clear hw15
        go_wp2_with fail
        go_ret
        exact ⟨rfl, HB.out⟩
      | true =>
        go_wp2_with fail
        refine (hasK (b := true) rA.out rV.out HFA HVA).mono ?_
        rintro e w14 ⟨rfl, hw14⟩
        replace rM := mkHid (rM.out.below hw14)
        replace rU := mkHid (rU.out.below hw14)
        replace rV := mkHid (rV.out.below hw14)
        replace rA := mkHid (rA.out.below hw14)
        replace rD := mkHid (rD.out.below hw14)
        replace HB := mkHid (HB.out.then hw14)
        clear hw14
        go_wp2_with fail
        refine (hasK (b := false) rD.out rV.out HFD HVD).mono ?_
        rintro e w15 ⟨rfl, hw15⟩
        replace rM := mkHid (rM.out.below hw15)
        replace rU := mkHid (rU.out.below hw15)
        replace rV := mkHid (rV.out.below hw15)
        replace rA := mkHid (rA.out.below hw15)
        replace rD := mkHid (rD.out.below hw15)
        replace HB := mkHid (HB.out.then hw15)
        clear hw15
        go_wp2_with fail
        go_ret
        exact ⟨rfl, HB.out⟩
end Go.Proofs.Ytmmnfkggfnokjaa
namespace Go.Proofs.Ytmmnfkggfnokjaa
open Go.RowKit Go.ChangeShapes Go.WideShapes Go.ChangeAt
open Go.ChangeMaps (open_string)

set_option maxRecDepth 100000 in
set_option maxHeartbeats 1000000 in
theorem FactsSet_lifted (os : Os) (started : os.Started) (H : Type) (enc : TypeId × Value → H) :
    ReturnsInHanded {} Try.checked os 7 .any (Rows.factsSetSpec.pre6 enc Try.prog Try.f7 Rows.factsSetRow.domain false) (Rows.factsSetSpec.post enc Try.prog Try.f7 false true false false) := by
  refine returnsInHanded_of_change (C := Try.checked) Try.own started (by kernel_rfl) Try.func7
    (ChangeSpec.witness6 (enc := enc) (C := Try.checked) false ⟨#[], #[.slice none 0 0, .slice none 0 0, .slice none 0 0], []⟩ 8 (by kernel_rfl) (by kernel_rfl) (by kernel_rfl) (by kernel_rfl)) ?_
  intro W base args ds gs before hval0 hW hcnd _
  have hval : ∀ (j : Nat) t v, Try.f7.params[j]? = some t → args[j]? = some v → Value.okWide Try.prog W .any base t v := hval0
  have hW' := hW
  obtain ⟨p, q, hA0, hV, rfl, hfz, hnd⟩ := hW
  have hA : DataW.TrodAll enc Try.prog W 0 (fun _ => true) true Try.f7.params.toList args.toList ds p := hA0
  rw [Try.params7] at hA hval
  obtain ⟨v0, vs0, d0, ds0, p0, q0, hargs, rfl, rfl, h0, r0⟩ := trodAll_cons hA
  obtain ⟨v1, vs1, d1, ds1, p1, q1, rfl, rfl, rfl, h1, r1⟩ := trodAll_cons r0
  obtain ⟨v2, vs2, d2, ds2, p2, q2, rfl, rfl, rfl, h2, r2⟩ := trodAll_cons r1
  obtain ⟨rfl, rfl, rfl⟩ := trodAll_nil r2
  obtain rfl : args = #[v0, v1, v2] := by cases args; simp_all
  obtain ⟨rfl, rfl⟩ := trodVars_none hV
  have k0 := h0
  have lt0 : ∀ x ∈ p0, x.block < W.heap.size := by obtain ⟨m, hm⟩ := k0; exact DataW.trod_lt m _ _ _ hm
  obtain ⟨a0, len0, cap0, rfl⟩ := okWide_slice Try.underlying68 (hval 0 68 v0 rfl rfl)
  obtain ⟨xs0, rfl, hr0⟩ : ∃ xs : List (List Cel), xs.length = len0 ∧ Row W a0 cap0 xs := by
    obtain ⟨fuel, hf⟩ := h0
    exact open_cellss hf
  have k1 := h1
  have lt1 : ∀ x ∈ p1, x.block < W.heap.size := by obtain ⟨m, hm⟩ := k1; exact DataW.trod_lt m _ _ _ hm
  obtain ⟨a1, len1, cap1, rfl⟩ := okWide_slice Try.underlying22 (hval 1 22 v1 rfl rfl)
  obtain ⟨xs1, rfl, hr1⟩ : ∃ xs : List Cel, xs.length = len1 ∧ Row W a1 cap1 xs := by
    obtain ⟨fuel, hf⟩ := h1
    exact open_cells hf
  have k2 := h2
  have lt2 : ∀ x ∈ p2, x.block < W.heap.size := by obtain ⟨m, hm⟩ := k2; exact DataW.trod_lt m _ _ _ hm
  obtain ⟨a2, len2, cap2, rfl⟩ := okWide_slice Try.underlying22 (hval 2 22 v2 rfl rfl)
  obtain ⟨xs2, rfl, hr2⟩ : ∃ xs : List Cel, xs.length = len2 ∧ Row W a2 cap2 xs := by
    obtain ⟨fuel, hf⟩ := h2
    exact open_cells hf
  clear hA0 hval0
  refine (lawSet_any head12_any a0 cap0 xs0 a1 cap1 xs1 a2 cap2 xs2 W hr0 hr1 hr2).mono fun e W' ⟨he, bel⟩ => ?_
  subst he
  exact ⟨_, rfl, _, _, _, [], _, [], hW', trodAll_mk1 (shut_bool Try.underlying4 _), (trodAll_cons_mk (Below.trod Try.laidOut (by kernel_rfl) (of_decide_eq_true (by kernel_rfl)) k0 bel lt0) (trodAll_cons_mk (Below.trod Try.laidOut (by kernel_rfl) (of_decide_eq_true (by kernel_rfl)) k1 bel lt1) (trodAll_cons_mk (Below.trod Try.laidOut (by kernel_rfl) (of_decide_eq_true (by kernel_rfl)) k2 bel lt2) trodAll_mk0))), rfl, bel.frame _, fun h => by cases h⟩

theorem FactsSet_over : Rows.factsSetRow.holds Try.pinned (OpenSpec.ofChange Rows.factsSetSpec) :=
  OpenClaim.holds_of_wide 7 Try.f7 rfl rfl rfl rfl rfl rfl rfl ⟨rfl, rfl, rfl, rfl, rfl⟩ rfl rfl rfl rfl rfl (by kernel_rfl) Try.func7 (by kernel_rfl)
    (of_decide_eq_true (by kernel_rfl)) (by unfold Func.isWrapper; first | (rw [if_pos (by decide +kernel)]; kernel_rfl) | (rw [if_neg (by decide +kernel)]; exact ⟨rfl, rfl⟩))
    (fun os started H enc _ => FactsSet_lifted os started H enc)

theorem FactsSet_holds : Rows.FactsSetSaid := FactsSet_over
end Go.Proofs.Ytmmnfkggfnokjaa
