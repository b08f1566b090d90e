/-
  Of layer 12 of sorrel: whatever arguments come in, the law FactsBad returns true, and what was handed in reads as it did: what is no fact is neither added nor dropped, nor there: terms with variables, numbers, cells that are no term; whatever the row. No condition.
-/
import Derived.Test.YtmmnfkggfnokjaaZr8
namespace Go.Proofs.Ytmmnfkggfnokjaa
open Go.RowKit

set_option maxHeartbeats 4000000 in
set_option maxRecDepth 100000 in
theorem lawBad_any (hH : Head12) (a : Option Addr) (cap : Nat) (l : List (List Cel)) (a' : Option Addr) (cap' : Nat) (t : List Cel) (w : World) (hr : Row w a cap l) (ht : Row w a' cap' t) :
    Calls Try.prog 11 #[.slice a l.length cap, .slice a' t.length cap'] w fun e w' => e = .returned (.bool true) ∧ Below w.heap.size w w' := by
  have hm := hr.max
  have hm2 := hr.le
  have hm3 := ht.max
  have hm4 := ht.le
  have HH := mkHid hH
  clear hH
  obtain ⟨k, hk, hk60⟩ : ∃ k : Nat, k = min t.length 60 ∧ k ≤ 60 := ⟨_, rfl, by omega⟩
  have hkt : k ≤ t.length := by omega
  have hmin : min (t.length : Int) 60 = (k : Int) := by omega
  have HU : Hid ((t.take k).length = k) := by rw [Hid, List.length_take]; omega
  clear hk
  go_enter Try.func11, Try.ntmps11
  go_wp2_with fail
  refine (HH.out _).mono ?_
  rintro e w1 ⟨rfl, hb1⟩
  go_wp2_with fail
  refine (row12_any a cap w1 l (hr.below hb1) 40 (by omega)).mono ?_
  rintro e w2 ⟨a2, c2, m, rfl, hr2, hF2, hl2, hb2⟩
  have HF := mkHid hF2
  clear hF2
  have hb12 := hb1.then hb2
  have ht2 := ht.below hb12
  have hm0 := AccInv.made (α := Cel) (B := w2.heap.size) (e := 79) (T := 79) w2 (Nat.le_refl _) rfl
  have hb02 := (Below.refl w2.heap.size w2).new (.cells #[] 79)
  have htk : Row (hide (some w2.heap.size) (w2.alloc (.cells #[] 79))) a' cap' (t.take k) := (ht2.takeF k).keeps (fresh_keeps (Keeps.of hb02) (Nat.le_refl _))
  generalize t.take k = u at HU htk
  have hs02 := hb02.size
  clear hkt
  go_wp2_with (at_builtin; refine wpList_accs (α := Cel) rfl _ _ 22 rfl w2.heap.size 79 32 _ Try.underlying22 Try.infoCell rfl (by decide) _ [] hm0 (by rfl) a' cap' u htk (by rw [HU.out]; rfl) (by rw [HU.out]; simp; omega) hs02 ?_; intro v3 w3 hacc3 hb3)
  obtain ⟨a3, c3, rfl, hr3⟩ := copy_row hacc3
  have hb23 : Below w2.heap.size w2 w3 := hb02.trans (hb3.mono (Nat.le_refl _))
  have hrl := hr2.below hb23
  have hm1 := hrl.max
  have hm11 := hrl.le
  have hB3 := hb12.then hb23
  have hu60 : u.length ≤ 60 := by rw [HU.out]; exact hk60
  clear hacc3 hb3 hb23 hm0 hb02 hs02 htk hr2 hb1 hb2 hb12 ht2
  cases hQ : factB u with
  | false =>
    have HQ := mkHid hQ
    have HA : Hid (addF m u = []) := by unfold Hid addF; rw [hQ]; rfl
    have HAE : Hid (addE m u = 120) := by unfold Hid addE; rw [hQ]; rfl
    have HD : Hid (dropF m u = []) := by unfold Hid dropF; rw [hQ]; rfl
    have HDE : Hid (dropE m u = 120) := by unfold Hid dropE; rw [hQ]; rfl
    clear hQ
    refine (addK hrl hr3 HF HA HAE).mono ?_
    rintro e w4 ⟨a4, c4, rfl, hr4, hb4⟩
    go_wp2_with fail
    refine (dropK (hrl.below hb4) (hr3.below hb4) HF HD HDE).mono ?_
    rintro e w5 ⟨a5, c5, rfl, hr5, hb5⟩
    have hb45 := hb4.then hb5
    go_wp2_with fail
    refine (fact_is (hr3.below hb45) HQ).mono ?_
    rintro e w6 ⟨rfl, hb6⟩
    have hb46 := hb45.then hb6
    go_wp2_with fail
    refine (hasF_no a2 c2 m a3 c3 u w6 (hrl.below hb46) (hr3.below hb46) HQ.out).mono ?_
    rintro e w7 ⟨rfl, hb7⟩
    go_wp2_with fail
    go_ret
    exact ⟨rfl, (hB3.then hb46).then hb7⟩
  | true =>
    have HQ := mkHid hQ
    have hlm : m.length < 512 := by omega
    obtain ⟨A, hA⟩ : ∃ A, addF m u = A := ⟨_, rfl⟩
    have HA := mkHid hA
    have HAE : Hid (addE m u = 0) := addE_ok hQ hlm
    have HFA : Hid (frightB A = true) := by rw [Hid, ← hA]; exact (HF.out.add u).rightB
    obtain ⟨D, hD⟩ : ∃ D, dropF m u = D := ⟨_, rfl⟩
    have HD := mkHid hD
    obtain ⟨E, hE, hE2⟩ : ∃ E, dropE m u = E ∧ (E = 0 ∨ E = 3) := by
      refine ⟨_, rfl, ?_⟩
      unfold dropE
      rw [if_pos hQ]
      split
      · exact .inl rfl
      · exact .inr rfl
    have HDE := mkHid hE
    have HG : Hid (groundB u = true) := fact_ground hQ
    have HR : Hid (Go.Proofs.Ytmmnfkggfnokjaa.rightB u = true) := fact_right hQ
    have hE3 : ¬ E = 120 := by omega
    have hE4 : (E != 120) = true := by simp [hE3]
    clear hQ hA hD hE hE2
    refine (addK hrl hr3 HF HA HAE).mono ?_
    rintro e w4 ⟨a4, c4, rfl, hr4, hb4⟩
    go_wp2_with fail
    refine (dropK (hrl.below hb4) (hr3.below hb4) HF HD HDE).mono ?_
    rintro e w5 ⟨a5, c5, rfl, hr5, hb5⟩
    have hb45 := hb4.then hb5
    go_wp2_with fail
    refine (fact_is (hr3.below hb45) HQ).mono ?_
    rintro e w6 ⟨rfl, hb6⟩
    have hb46 := hb45.then hb6
    have hr46 := (hr4.below hb5).below hb6
    go_wp2_with fail
    refine (rightK hr46 HFA).mono ?_
    rintro e w7 ⟨rfl, hb7⟩
    have hb47 := hb46.then hb7
    go_wp2_with fail
    refine (groundK (hr3.below hb47) (by omega) HG).mono ?_
    rintro e w8 ⟨rfl, hb8⟩
    have hb48 := hb47.then hb8
    go_wp2_with fail
    refine (rightCK (hr3.below hb48) HR).mono ?_
    rintro e w9 ⟨rfl, hb9⟩
    go_wp2_with fail
    go_ret
    exact ⟨rfl, (hB3.then hb48).then hb9⟩
end Go.Proofs.Ytmmnfkggfnokjaa
namespace Go.Proofs.Ytmmnfkggfnokjaa
open Go.RowKit Go.ChangeShapes Go.WideShapes Go.ChangeAt
open Go.ChangeMaps (open_string)

set_option maxRecDepth 100000 in
set_option maxHeartbeats 1000000 in
theorem FactsBad_lifted (os : Os) (started : os.Started) (H : Type) (enc : TypeId × Value → H) :
    ReturnsInHanded {} Try.checked os 11 .any (Rows.factsBadSpec.pre6 enc Try.prog Try.f11 Rows.factsBadRow.domain false) (Rows.factsBadSpec.post enc Try.prog Try.f11 false true false false) := by
  refine returnsInHanded_of_change (C := Try.checked) Try.own started (by kernel_rfl) Try.func11
    (ChangeSpec.witness6 (enc := enc) (C := Try.checked) false ⟨#[], #[.slice none 0 0, .slice none 0 0], []⟩ 8 (by kernel_rfl) (by kernel_rfl) (by kernel_rfl) (by kernel_rfl)) ?_
  intro W base args ds gs before hval0 hW hcnd _
  have hval : ∀ (j : Nat) t v, Try.f11.params[j]? = some t → args[j]? = some v → Value.okWide Try.prog W .any base t v := hval0
  have hW' := hW
  obtain ⟨p, q, hA0, hV, rfl, hfz, hnd⟩ := hW
  have hA : DataW.TrodAll enc Try.prog W 0 (fun _ => true) true Try.f11.params.toList args.toList ds p := hA0
  rw [Try.params11] at hA hval
  obtain ⟨v0, vs0, d0, ds0, p0, q0, hargs, rfl, rfl, h0, r0⟩ := trodAll_cons hA
  obtain ⟨v1, vs1, d1, ds1, p1, q1, rfl, rfl, rfl, h1, r1⟩ := trodAll_cons r0
  obtain ⟨rfl, rfl, rfl⟩ := trodAll_nil r1
  obtain rfl : args = #[v0, v1] := by cases args; simp_all
  obtain ⟨rfl, rfl⟩ := trodVars_none hV
  have k0 := h0
  have lt0 : ∀ x ∈ p0, x.block < W.heap.size := by obtain ⟨m, hm⟩ := k0; exact DataW.trod_lt m _ _ _ hm
  obtain ⟨a0, len0, cap0, rfl⟩ := okWide_slice Try.underlying68 (hval 0 68 v0 rfl rfl)
  obtain ⟨xs0, rfl, hr0⟩ : ∃ xs : List (List Cel), xs.length = len0 ∧ Row W a0 cap0 xs := by
    obtain ⟨fuel, hf⟩ := h0
    exact open_cellss hf
  have k1 := h1
  have lt1 : ∀ x ∈ p1, x.block < W.heap.size := by obtain ⟨m, hm⟩ := k1; exact DataW.trod_lt m _ _ _ hm
  obtain ⟨a1, len1, cap1, rfl⟩ := okWide_slice Try.underlying22 (hval 1 22 v1 rfl rfl)
  obtain ⟨xs1, rfl, hr1⟩ : ∃ xs : List Cel, xs.length = len1 ∧ Row W a1 cap1 xs := by
    obtain ⟨fuel, hf⟩ := h1
    exact open_cells hf
  clear hA0 hval0
  refine (lawBad_any head12_any a0 cap0 xs0 a1 cap1 xs1 W hr0 hr1).mono fun e W' ⟨he, bel⟩ => ?_
  subst he
  exact ⟨_, rfl, _, _, _, [], _, [], hW', trodAll_mk1 (shut_bool Try.underlying4 _), (trodAll_cons_mk (Below.trod Try.laidOut (by kernel_rfl) (of_decide_eq_true (by kernel_rfl)) k0 bel lt0) (trodAll_cons_mk (Below.trod Try.laidOut (by kernel_rfl) (of_decide_eq_true (by kernel_rfl)) k1 bel lt1) trodAll_mk0)), rfl, bel.frame _, fun h => by cases h⟩

theorem FactsBad_over : Rows.factsBadRow.holds Try.pinned (OpenSpec.ofChange Rows.factsBadSpec) :=
  OpenClaim.holds_of_wide 11 Try.f11 rfl rfl rfl rfl rfl rfl rfl ⟨rfl, rfl, rfl, rfl, rfl⟩ rfl rfl rfl rfl rfl (by kernel_rfl) Try.func11 (by kernel_rfl)
    (of_decide_eq_true (by kernel_rfl)) (by unfold Func.isWrapper; first | (rw [if_pos (by decide +kernel)]; kernel_rfl) | (rw [if_neg (by decide +kernel)]; exact ⟨rfl, rfl⟩))
    (fun os started H enc _ => FactsBad_lifted os started H enc)

theorem FactsBad_holds : Rows.FactsBadSaid := FactsBad_over
end Go.Proofs.Ytmmnfkggfnokjaa
