/-
  Of layer 12 of sorrel: whatever arguments come in, the law FactsOrder returns true, and what was handed in reads as it did: the order in which facts are added, or dropped, plays no part; twice is as once. No condition.
-/
import Derived.Test.YtmmnfkggfnokjaaZr8
namespace Go.Proofs.Ytmmnfkggfnokjaa
open Go.RowKit

set_option maxHeartbeats 3200000 in
set_option maxRecDepth 100000 in
theorem made12_new (a : Option Addr) (cap : Nat) (w : World) (xs : List Cel) (hx : Row w a cap xs) :
    Calls Try.prog 49 #[.slice a xs.length cap] w fun e w' => ∃ a' cap' ys, e = .returned (.slice a' ys.length cap') ∧ NewRow w.heap.size w' a' cap' ys ∧ factB ys = true ∧ ys.length ≤ 12 ∧ Below w.heap.size w w' := by
  have hb0 := (Below.refl w.heap.size w).new (.cells #[] 79)
  have hm0 := AccInv.made (α := Cel) (B := w.heap.size) (e := 79) (T := 79) w (Nat.le_refl _) rfl
  have hg0 : (w.alloc (.cells #[] 79)).heap[w.heap.size]? = some (.cells #[] 79 (0, 0)) := heap_alloc_new _ _
  have hx0 := hx.below hb0
  go_enter Try.func49, Try.ntmps49
  go_wp2_with fail
  refine (atom3_any a cap _ xs hx0 12 (by omega) (by omega)).mono ?_
  rintro e w1 ⟨a1, c1, ys, rfl, hr1, hR, hF, hl, hb1⟩
  have hacc1 := hm0.below hb1
  have hrh : Row (hide (some w.heap.size) w1) a1 c1 ys := hr1.keeps (hide_bare ((hb1.block _ (by simp)).trans hg0))
  have hb01 := hb0.then hb1
  have hsz1 := hb01.size
  obtain ⟨t, ht, hxt, h200⟩ := right_tm hR
  have h0 : 0 < ys.length := by rw [hxt]; exact flat_pos t
  have HG := mkHid (gnd_fact ht (by rw [← hxt]; exact h200) (by rw [← hxt]; exact hF))
  have HX := mkHid hxt
  clear hR hF hxt ht h200
  go_wp2_with (at_builtin; refine wpList_accs (α := Cel) rfl _ _ 22 rfl w.heap.size 79 32 _ Try.underlying22 Try.infoCell rfl (by decide) _ [] hacc1 (by rfl) _ _ ys hrh (by rfl) (by simp; omega) hsz1 ?_; intro v9 w9 hacc9 hb9)
  rw [List.nil_append] at hacc9
  obtain ⟨vs, hown, hcr⟩ := hacc9.ex
  obtain ⟨rfl, hfit⟩ := crows_cels hcr
  have HFIT := mkHid hfit
  have hb09 := hb01.trans (hb9.mono (Nat.le_refl _))
  clear hacc9 hcr hfit hacc1 hm0 hg0 hb9
  obtain ⟨g, cp, rfl, hg1, hg2, hg3, hg4⟩ := own_form hown h0
  go_wp2_with fail
  go_loopw [4] (fun i wr => ∃ k : Nat, k ≤ ys.length ∧ i = .int .i64 k ∧ wr.ownsRow w.heap.size 79 3 (.slice (some ⟨g, 0, none⟩) ys.length cp) ys.length (flat (upTo gndC ys k)) ∧ Below w.heap.size w wr) (fun i wr => ys.length - (intOf i).toNat)
  case atStart => exact ⟨0, Nat.zero_le _, rfl, by rw [upTo_zero]; exact hown, hb09⟩
  case round =>
    clear hown
    obtain ⟨k, hk, rfl, hown, hbl⟩ := hrel
    have hgl := (hown.lt g rfl).2
    by_cases hlt : k < ys.length
    · obtain ⟨o0, o1, o2⟩ := own_cel hown (upTo_at _ _ hlt)
      have hz0 := own_free hown (k * 3)
      have hz1 := own_free hown (k * 3 + 1)
      have hz2 := own_free hown (k * 3 + 2)
      by_cases h1 : ys[k].k = 1
      · have t1 : (ys[k].k == 1) = true := by simp [h1]
        have hs := own_store3 hown hlt (show gndC ys[k] = ⟨2, ⟨#[]⟩, ys[k].n⟩ from if_pos h1)
        have HS := mkHid hs
        have HB := mkHid (((hbl.setCell (p := ⟨g, k * 3, none⟩) hg1 (.int .i64 2)).setCell (p := ⟨g, k * 3 + 1, none⟩) hg1 (.string ⟨#[]⟩)).setCell (p := ⟨g, k * 3 + 2, none⟩) hg1 (.int .i64 ys[k].n))
        clear h1 hs
        go_wp2
        go_round
        case rel => exact ⟨k + 1, by omega, by go_num, HS.out, HB.out⟩
        case measure => simp [intOf]; omega
      · have t1 : (ys[k].k == 1) = false := by simp [h1]
        have HE := mkHid (upTo_same gndC ys hlt (if_neg h1))
        clear h1
        go_wp2
        go_round
        case rel => exact ⟨k + 1, by omega, by go_num, by rw [HE.out]; exact hown, hbl⟩
        case measure => simp [intOf]; omega
    · have hu := upTo_all gndC ys (k := k) (by omega)
      rw [hu] at hown
      have hml : (ys.map gndC).length = ys.length := by simp
      have hfm : ∀ c ∈ ys.map gndC, c.fit := fun c hc => by
        obtain ⟨c', hc', rfl⟩ := List.mem_map.1 hc
        exact gnd_fit (HFIT.out c' hc')
      obtain ⟨a2, cap2, ev, hnew⟩ := own_new (xs := ys.map gndC) (by rw [hml]; exact hown) hfm
      have hrow := hnew.row
      rw [hml] at ev
      injection ev with ev1 _ ev2
      subst ev1
      subst ev2
      obtain ⟨d, hd⟩ : ∃ d, t.depth = d := ⟨_, rfl⟩
      have hflat : (mapT gndC t).flat = ys.map gndC := by rw [HG.out.2.1, HX.out]
      have hcall := refdepth_litF (n := ys.length) hflat HG.out.1 hml.symm (by rw [hml]; omega) hrow (d := d) (by rw [HG.out.2.2.1]; exact hd)
      have HC := mkHid hcall
      have HM := mkHid hml
      have HY : Hid (d ≤ 12 → factB (ys.map gndC) = true) := fun h => by
        have := HG.out.2.2.2 (by rw [hd]; exact h)
        rwa [← HX.out] at this
      have hdn : (d : Int) ≤ 12 := by
        have h1 := depth_le t
        rw [← HX.out] at h1; omega
      clear hcall hu hml hflat hd
      go_wp2_with (go_at_call 127; refine HC.out.mono ?_; rintro e w2 ⟨rfl, hb2⟩)
      go_ret
      exact ⟨some ⟨g, 0, none⟩, cp, ys.map gndC, by rw [HM.out]; rfl, hnew.below hb2, HY.out (by omega), by rw [HM.out]; omega, hbl.then hb2⟩


/-! ### facts in another order -/
theorem tmod_nat (m n : Nat) : Int.tmod (m : Int) (n : Int) = ((m % n : Nat) : Int) := rfl
def rotF (m : List (List Cel)) (K i : Nat) : List Cel := m.getD ((i + K) % m.length) []
def rotsF (m : List (List Cel)) (K i : Nat) : List (List Cel) := (List.range i).map (rotF m K)
theorem rotsF_succ (m : List (List Cel)) (K i : Nat) : rotsF m K (i + 1) = rotsF m K i ++ [rotF m K i] := by simp [rotsF, List.range_succ]
theorem rotsF_len (m : List (List Cel)) (K i : Nat) : (rotsF m K i).length = i := by simp [rotsF]
theorem rotF_mem {m : List (List Cel)} (K : Nat) {i : Nat} (hi : i < m.length) : rotF m K i ∈ m := by
  unfold rotF
  have h : (i + K) % m.length < m.length := Nat.mod_lt _ (by omega)
  rw [getD_atF h]; exact List.getElem_mem h
theorem rotsF_all {m : List (List Cel)} {K : Nat} {y : List Cel} : y ∈ rotsF m K m.length ↔ y ∈ m := by
  constructor
  · intro h
    obtain ⟨i, hi, rfl⟩ := List.mem_map.1 h
    exact rotF_mem K (List.mem_range.1 hi)
  · intro h
    obtain ⟨j, hj, rfl⟩ := List.getElem_of_mem h
    have hK : K % m.length < m.length := Nat.mod_lt _ (by omega)
    refine List.mem_map.2 ⟨(j + (m.length - K % m.length)) % m.length, List.mem_range.2 (Nat.mod_lt _ (by omega)), ?_⟩
    unfold rotF
    have h1 : ((j + (m.length - K % m.length)) % m.length + K) % m.length = j := by
      rw [Nat.mod_add_mod, Nat.add_assoc]
      have e : (m.length - K % m.length) + K = m.length + (K - K % m.length) := by have := Nat.mod_le K m.length; omega
      have e2 : m.length ∣ K - K % m.length := Nat.dvd_sub_mod K
      rw [e]
      obtain ⟨c, hc⟩ := e2
      rw [hc, ← Nat.add_assoc, Nat.add_mul_mod_self_left, Nat.add_mod_right]
      exact Nat.mod_eq_of_lt hj
    rw [h1, getD_atF hj]
noncomputable def offF (M : List (List Cel)) (x : List Cel) : List (List Cel) := if x ∈ M then dropF M x else M
noncomputable def offsF (M : List (List Cel)) (xs : List (List Cel)) : List (List Cel) := xs.foldl offF M
theorem offsF_snoc (M xs : List (List Cel)) (x : List Cel) : offsF M (xs ++ [x]) = offF (offsF M xs) x := by unfold offsF; rw [List.foldl_append]; rfl
theorem FR.off {M : List (List Cel)} (h : FR M) (x : List Cel) : FR (offF M x) := by
  unfold offF
  split
  · exact h.dropF x
  · exact h
theorem mem_offF {M : List (List Cel)} {x y : List Cel} (hx : factB x = true) : y ∈ offF M x ↔ y ∈ M ∧ y ≠ x := by
  unfold offF
  split
  · next h => exact mem_dropF hx h
  · next h => exact ⟨fun k => ⟨k, fun e => h (e ▸ k)⟩, fun k => k.1⟩
theorem FR.offs : ∀ {xs M : List (List Cel)}, FR M → FR (offsF M xs)
  | [], _, h => h
  | x :: xs, M, h => FR.offs (xs := xs) (h.off x)
theorem mem_offsF : ∀ {xs M : List (List Cel)} {y : List Cel}, (∀ x ∈ xs, factB x = true) → (y ∈ offsF M xs ↔ y ∈ M ∧ y ∉ xs)
  | [], M, y, _ => by simp [offsF]
  | x :: xs, M, y, h => by
    have h1 := mem_offsF (xs := xs) (M := offF M x) (y := y) (fun z hz => h z (List.mem_cons_of_mem _ hz))
    rw [show offsF M (x :: xs) = offsF (offF M x) xs from rfl, h1, mem_offF (h x (by simp)), List.mem_cons, not_or, and_assoc]
def backF (m : List (List Cel)) (K i : Nat) : List (List Cel) := (List.range i).map fun j => m.getD (K - 1 - j) []
theorem backF_succ (m : List (List Cel)) (K i : Nat) : backF m K (i + 1) = backF m K i ++ [m.getD (K - 1 - i) []] := by simp [backF, List.range_succ]
theorem backF_all {m : List (List Cel)} {K : Nat} (hK : K ≤ m.length) {y : List Cel} : y ∈ backF m K K ↔ y ∈ m.take K := by
  constructor
  · intro h
    obtain ⟨i, hi, rfl⟩ := List.mem_map.1 h
    have := List.mem_range.1 hi
    rw [getD_atF (by omega)]
    exact take_memF (by omega) (by omega)
  · intro h
    obtain ⟨j, hj, rfl⟩ := List.getElem_of_mem h
    rw [List.length_take] at hj
    rw [List.getElem_take]
    refine List.mem_map.2 ⟨K - 1 - j, List.mem_range.2 (by omega), ?_⟩
    rw [show K - 1 - (K - 1 - j) = j by omega, getD_atF (by omega)]
theorem order_adds {m : List (List Cel)} (hf : ∀ x ∈ m, factB x = true) (hl : m.length ≤ 30) (K : Nat) : addsF [] m = addsF [] (rotsF m K m.length) := by
  refine (FR.adds FR.nil).ext (FR.adds FR.nil) fun y => ?_
  rw [mem_addsF hf (by simp; omega), mem_addsF (fun x hx => hf x (rotsF_all.1 hx)) (by rw [rotsF_len]; simp; omega), rotsF_all]
theorem order_offs {m M : List (List Cel)} (hM : FR M) (hf : ∀ x ∈ m, factB x = true) {K : Nat} (hK : K ≤ m.length) : offsF M (m.take K) = offsF M (backF m K K) := by
  refine hM.offs.ext hM.offs fun y => ?_
  rw [mem_offsF (fun x hx => hf x (List.mem_of_mem_take hx)), mem_offsF (fun x hx => hf x (List.mem_of_mem_take ((backF_all hK).1 hx))), backF_all hK]
theorem off_yes {M : List (List Cel)} {x : List Cel} (hx : factB x = true) (h : x ∈ M) : dropE M x = 0 ∧ dropF M x = offF M x := by
  refine ⟨dropE_ok hx h, ?_⟩
  unfold offF; rw [if_pos h]
theorem off_no {M : List (List Cel)} {x : List Cel} (hx : factB x = true) (h : x ∉ M) : dropE M x = 3 ∧ dropF M x = [] ∧ offF M x = M := by
  refine ⟨?_, ?_, ?_⟩
  · unfold dropE; rw [if_pos hx, if_neg h]
  · unfold dropF; rw [if_pos hx, if_neg h]
  · unfold offF; rw [if_neg h]

theorem same_nil (x y : Addr) (w : World) : Calls Try.prog 56 #[.slice (some x) 0 0, .slice (some y) 0 0] w fun e w' => e = .returned (.bool true) ∧ Below w.heap.size w w' := by
  have h := refsame12_any (some x) 0 (some y) 0 w [] [] (Row.empty w (some x) 0 (by omega) (fun e => by cases e)) (Row.empty w (some y) 0 (by omega) (fun e => by cases e))
  refine h.mono fun e w' ⟨he, hb⟩ => ⟨?_, hb⟩
  rw [he]; exact ret_bool (decide_eq_true rfl)
set_option maxHeartbeats 8000000 in
set_option maxRecDepth 100000 in
theorem lawOrder12_any (hH : Head12) (a : Option Addr) (cap : Nat) (l : List (List Cel)) (g : Int) (hg : (Lit.int .u8 g).wf = true) (w : World) (hr : Row w a cap l) :
    Calls Try.prog 8 #[.slice a l.length cap, .int .u8 g] w fun e w' => e = .returned (.bool true) ∧ Below w.heap.size w w' := by
  have hm := hr.max
  have hm2 := hr.le
  have HH := mkHid hH
  clear hH
  obtain ⟨g1, g2⟩ : 0 ≤ g ∧ g ≤ 255 := by simp [Lit.wf, IntKind.min, IntKind.max, IntKind.signed, IntKind.bits] at hg; omega
  clear hg
  go_enter Try.func8, Try.ntmps8
  go_wp2_with fail
  refine (HH.out _).mono ?_
  rintro e w1 ⟨rfl, hb1⟩
  have hm0 := AccInv.made (α := List Cel) (B := w1.heap.size) (e := 22) (T := 22) w1 (Nat.le_refl _) rfl
  have hb0 := (Below.refl w1.heap.size w1).new (.cells #[] 22)
  have hr1 := hr.below hb1
  go_wp2_with fail
  go_loopw [6, 8] (fun v i wr => ∃ (k : Nat) (A : List (List Cel)), k ≤ l.length ∧ k ≤ 30 ∧ A.length ≤ k ∧ i = .int .i64 k ∧ AccInv w1.heap.size 22 A v wr ∧ Below w1.heap.size w1 wr ∧ Hid (∀ x ∈ A, factB x = true)) (fun v i wr => l.length - (intOf i).toNat)
  case atStart => exact ⟨0, [], Nat.zero_le _, Nat.zero_le _, Nat.le_refl _, rfl, hm0, hb0, by simp [Hid]⟩
  case round =>
    clear hm0 hb0
    obtain ⟨k, A, hk, hk30, hA, rfl, hacc, hbl, HF⟩ := hrel
    by_cases hlt2 : k < l.length ∧ k < 30
    · obtain ⟨hlt, hlm⟩ := hlt2
      obtain ⟨b, off, rfl, hb, hat⟩ := hr1.cases.resolve_left (fun e => by simp [e] at hlt)
      obtain ⟨a2, cap2, c0, rx⟩ := list_at hat hbl hlt
      go_wp2_with fail
      refine (made12_new a2 cap2 wr l[k] rx).mono ?_
      rintro e w3 ⟨a3, c3, zs, rfl, hr3, hQ, hzl, hb3⟩
      have HF3 : Hid (∀ x ∈ A ++ [zs], factB x = true) := fun x hx => by
        rcases List.mem_append.1 hx with h | h
        · exact HF.out x h
        · rw [List.mem_singleton.1 h]; exact hQ
      have hacc3 := hacc.below hb3
      have hrh := hacc.newer (Nat.le_refl _) hr3
      have hbl3 := hbl.then hb3
      have hsz3 := hbl3.size
      clear hQ HF
      go_wp2_with (at_builtin; refine wpList_acc (α := List Cel) rfl _ _ 68 rfl w1.heap.size 22 24 _ Try.underlying68 Try.infoSl rfl (by decide) _ A hacc3 (by rfl) _ #[.slice a3 zs.length c3] zs ⟨a3, c3, rfl, hrh⟩ (by rfl) (by omega) hsz3 ?_; intro v9 w9 hacc9 hb9)
      go_round
      case rel => exact ⟨k + 1, A ++ [zs], by omega, by omega, by simp; omega, by go_num, hacc9, hbl3.trans hb9, HF3⟩
      case measure => simp [intOf]; omega
    · obtain ⟨aM, cM, rfl, hrM⟩ := hacc.row
      have hB := hb1.then hbl
      have hA30 : A.length ≤ 30 := by omega
      have hmA := hrM.max
      have hmA2 := hrM.le
      clear hacc
      by_cases h0 : 0 < A.length
      · have hnz : ¬ (A.length : Int) = 0 := by omega
        obtain ⟨K, hK, hKl⟩ : ∃ K : Nat, Int.tmod g (A.length : Int) = (K : Int) ∧ K < A.length := by
          refine ⟨g.toNat % A.length, ?_, Nat.mod_lt _ h0⟩
          have h1 := tmod_nat g.toNat A.length
          rwa [Int.toNat_of_nonneg g1] at h1
        by_cases hkl : k < l.length
        · have hkm : ¬ k < 30 := fun h => hlt2 ⟨hkl, h⟩
          clear hlt2
          go_wp2_with fail
          obtain ⟨V0, hV0⟩ : ∃ V, (wr.alloc (.cells #[] 22)).alloc (.cells #[] 22) = V := ⟨_, rfl⟩
          have hbV : Below wr.heap.size wr V0 := by rw [← hV0]; exact ((Below.refl _ _).new _).new _
          rw [hV0]
          clear hV0
          have rM := mkHid (hrM.below hbV)
          have HB := mkHid (hB.then hbV)
          generalize wr.heap.size + 1 = G2
          generalize wr.heap.size = G1
          clear hrM hB hbV hbl
          go_loopw [9, 10, 11] (fun u9 u10 u11 wq => ∃ (i : Nat) (P Q : List (List Cel)) (a1 : Option Addr) (c1 : Nat) (a2 : Option Addr) (c2 : Nat), i ≤ A.length ∧ u11 = .int .i64 i ∧ u9 = .slice a1 P.length c1 ∧ u10 = .slice a2 Q.length c2 ∧ Row wq a1 c1 P ∧ Row wq a2 c2 Q ∧ Below V0.heap.size V0 wq ∧ Hid (addsF [] (A.take i) = P) ∧ Hid (addsF [] (rotsF A K i) = Q)) (fun u9 u10 u11 wq => A.length - (intOf u11).toNat)
          case atStart => exact ⟨0, [], [], _, _, _, _, Nat.zero_le _, rfl, rfl, rfl, Row.empty _ _ _ (by omega) (fun e => by cases e), Row.empty _ _ _ (by omega) (fun e => by cases e), Below.refl _ _, rfl, rfl⟩
          case round =>
            obtain ⟨i, P, Q, a1, c1, a2, c2, hi, rfl, rfl, rfl, rP, rQ, hbq, HP, HQ⟩ := hrel
            by_cases hlt : i < A.length
            · obtain ⟨j, hj, hjl, hjr⟩ : ∃ j : Nat, Int.tmod ((i : Int) + (K : Int)) (A.length : Int) = (j : Int) ∧ j < A.length ∧ (i + K) % A.length = j := by
                refine ⟨(i + K) % A.length, ?_, Nat.mod_lt _ (by omega), rfl⟩
                have h1 := tmod_nat (i + K) A.length
                rwa [Int.natCast_add] at h1
              obtain ⟨b, off, rfl, hb, hat⟩ := rM.out.cases.resolve_left (fun e => by simp [e] at hlt)
              obtain ⟨ax, cx, d0, rx⟩ := list_at hat hbq hlt
              obtain ⟨ay, cy, f0, ry⟩ := list_at hat hbq hjl
              have hP1 : P.length ≤ 30 := by have := addsF_len (A.take i) []; rw [HP.out, List.length_take] at this; simp at this; omega
              have hQ1 : Q.length ≤ 30 := by have := addsF_len (rotsF A K i) []; rw [HQ.out, rotsF_len] at this; simp at this; omega
              have hxf := HF.out _ (List.getElem_mem hlt)
              have hyf := HF.out _ (List.getElem_mem hjl)
              have FP : Hid (FR P) := by rw [Hid, ← HP.out]; exact FR.nil.adds
              have FQ : Hid (FR Q) := by rw [Hid, ← HQ.out]; exact FR.nil.adds
              obtain ⟨P2, hP2⟩ : ∃ P2, addF P A[i] = P2 := ⟨_, rfl⟩
              obtain ⟨Q2, hQ2⟩ : ∃ Q2, addF Q A[j] = Q2 := ⟨_, rfl⟩
              have G3 := mkHid hP2
              have G3E : Hid (addE P A[i] = 0) := addE_ok hxf (by omega)
              have G4 := mkHid hQ2
              have G4E : Hid (addE Q A[j] = 0) := addE_ok hyf (by omega)
              have hQ3 : A[j] ∈ Q2 := by rw [← hQ2]; exact (mem_addF hyf (by omega)).2 (.inl rfl)
              have G5 : Hid (addF Q2 A[j] = Q2) := by rw [Hid, ← hQ2]; exact add_twice hyf (by omega)
              have G5E : Hid (addE Q2 A[j] = 0) := addE_in hyf hQ3
              have FQ2 : Hid (FR Q2) := by rw [Hid, ← hQ2]; exact FQ.out.add _
              have HP2 : Hid (addsF [] (A.take (i + 1)) = P2) := by rw [Hid, adds_take hlt, HP.out]; exact hP2
              have HQ2 : Hid (addsF [] (rotsF A K (i + 1)) = Q2) := by
                have hrj : rotF A K i = A[j] := by unfold rotF; rw [hjr, getD_atF hjl]
                rw [Hid, rotsF_succ, hrj]
                show List.foldl addF [] (rotsF A K i ++ [A[j]]) = Q2
                rw [List.foldl_append]
                show addF (addsF [] (rotsF A K i)) A[j] = Q2
                rw [HQ.out]; exact hQ2
              clear hP2 hQ2 hQ3 hxf hyf hjr HP HQ
              go_wp2_with fail
              refine (addK rP rx FP G3 G3E).mono ?_
              rintro e w5 ⟨a5, c5, rfl, r5, hb5⟩
              have f1 := keep f0 hb5
              go_wp2_with fail
              refine (addK (rQ.below hb5) (ry.below hb5) FQ G4 G4E).mono ?_
              rintro e w6 ⟨a6, c6, rfl, r6, hb6⟩
              have hb56 := hb5.then hb6
              have f2 := keep f0 hb56
              go_wp2_with fail
              refine (addK r6 (ry.below hb56) FQ2 G5 G5E).mono ?_
              rintro e w7 ⟨a7, c7, rfl, r7, hb7⟩
              go_wp2_with fail
              refine (sameK (b := true) (r6.below hb7) r7 (by rw [Hid]; exact decide_eq_true rfl)).mono ?_
              rintro e w8 ⟨rfl, hb8⟩
              have hb78 := hb7.then hb8
              go_wp2_with fail
              go_round
              case rel => exact ⟨i + 1, P2, Q2, a5, c5, a7, c7, by omega, by go_num, rfl, rfl, (r5.below hb6).below hb78, r7.below hb8, (hbq.then hb56).then hb78, HP2, HQ2⟩
              case measure => simp [intOf]; omega
            · have hPA : addsF [] A = P := by have := HP.out; rwa [List.take_of_length_le (by omega)] at this
              have hQA : addsF [] (rotsF A K A.length) = Q := by have := HQ.out; rwa [show i = A.length by omega] at this
              have hPQ : P = Q := by rw [← hPA, ← hQA]; exact order_adds HF.out hA30 K
              have HPQ : Hid (decide (P = Q) = true) := decide_eq_true hPQ
              have HST : Hid (offsF P (backF A K 0) = Q) := hPQ
              have FP : Hid (FR P) := by rw [Hid, ← hPA]; exact FR.nil.adds
              clear hPA hQA hPQ HP HQ
              go_wp2_with fail
              refine (sameK rP rQ HPQ).mono ?_
              rintro e w9 ⟨rfl, hb9⟩
              have rS := rP.below hb9
              have rT := rQ.below hb9
              have hbq9 := hbq.then hb9
              clear rP rQ hb9 hbq
              go_wp2_with fail
              go_loopw [9, 10, 18] (fun u9 u10 u18 wq => ∃ (i : Nat) (S T : List (List Cel)) (a1 : Option Addr) (c1 : Nat) (a2 : Option Addr) (c2 : Nat), i ≤ K ∧ u18 = .int .i64 i ∧ u9 = .slice a1 S.length c1 ∧ u10 = .slice a2 T.length c2 ∧ Row wq a1 c1 S ∧ Row wq a2 c2 T ∧ Below V0.heap.size V0 wq ∧ Hid (offsF P (A.take i) = S) ∧ Hid (offsF P (backF A K i) = T)) (fun u9 u10 u18 wq => K - (intOf u18).toNat)
              case atStart => exact ⟨0, P, Q, a1, c1, a2, c2, Nat.zero_le _, rfl, rfl, rfl, rS, rT, hbq9, rfl, HST.out⟩
              case round =>
                clear rS rT hbq9
                obtain ⟨i, S, T, a1, c1, a2, c2, hi, rfl, rfl, rfl, rS, rT, hbq, HS, HT⟩ := hrel
                by_cases hlt : i < K
                · have hiA : i < A.length := by omega
                  obtain ⟨z, hz, hzl, hzr⟩ : ∃ z : Nat, (K : Int) - 1 - (i : Int) = (z : Int) ∧ z < A.length ∧ K - 1 - i = z := ⟨K - 1 - i, by omega, by omega, rfl⟩
                  have hz0 : (0 : Int) ≤ (z : Int) := by omega
                  obtain ⟨b, off, rfl, hb, hat⟩ := rM.out.cases.resolve_left (fun e => by simp [e] at hiA)
                  obtain ⟨ax, cx, d0, rx⟩ := list_at hat hbq hiA
                  obtain ⟨ay, cy, f0, ry⟩ := list_at hat hbq hzl
                  have hxf := HF.out _ (List.getElem_mem hiA)
                  have hyf := HF.out _ (List.getElem_mem hzl)
                  have FS : Hid (FR S) := by rw [Hid, ← HS.out]; exact FP.out.offs
                  have FT : Hid (FR T) := by rw [Hid, ← HT.out]; exact FP.out.offs
                  have HS2 : Hid (offsF P (A.take (i + 1)) = offF S A[i]) := by rw [Hid, List.take_succ_eq_append_getElem hiA, offsF_snoc, HS.out]
                  have HT2 : Hid (offsF P (backF A K (i + 1)) = offF T A[z]) := by rw [Hid, backF_succ, hzr, getD_atF hzl, offsF_snoc, HT.out]
                  clear hzr HS HT
                  by_cases hx : A[i] ∈ S
                  · by_cases hy : A[z] ∈ T
                    · obtain ⟨D, hD⟩ : ∃ D, dropF S A[i] = D := ⟨_, rfl⟩
                      have GD := mkHid hD
                      have GE : Hid (dropE S A[i] = 0) := (off_yes hxf hx).1
                      have HS3 : Hid (offsF P (A.take (i + 1)) = D) := by rw [Hid, HS2.out, ← (off_yes hxf hx).2]; exact hD
                      have GH : Hid (decide (A[i] ∈ S) = true) := decide_eq_true hx
                      clear hD
                      obtain ⟨D2, hD2⟩ : ∃ D, dropF T A[z] = D := ⟨_, rfl⟩
                      have GD2 := mkHid hD2
                      have GE2 : Hid (dropE T A[z] = 0) := (off_yes hyf hy).1
                      have HT3 : Hid (offsF P (backF A K (i + 1)) = D2) := by rw [Hid, HT2.out, ← (off_yes hyf hy).2]; exact hD2
                      have GH2 : Hid (decide (A[z] ∈ T) = true) := decide_eq_true hy
                      clear hD2
                      clear hx hy hxf hyf HS2 HT2
                      go_wp2_with fail
                      refine (dropK rS rx FS GD GE).mono ?_
                      rintro e w5 ⟨a5, c5, rfl, r5, hb5⟩
                      have f1 := keep f0 hb5
                      go_wp2_with fail
                      refine (dropK (rT.below hb5) (ry.below hb5) FT GD2 GE2).mono ?_
                      rintro e w6 ⟨a6, c6, rfl, r6, hb6⟩
                      have hb56 := hb5.then hb6
                      have d2 := keep d0 hb56
                      go_wp2_with fail
                      refine (hasK (rS.below hb56) (rx.below hb56) FS GH).mono ?_
                      rintro e w7 ⟨rfl, hb7⟩
                      have hb57 := hb56.then hb7
                      have f3 := keep f0 hb57
                      go_wp2_with fail
                      refine (hasK (rT.below hb57) (ry.below hb57) FT GH2).mono ?_
                      rintro e w8 ⟨rfl, hb8⟩
                      have hb58 := hb57.then hb8
                      go_wp2_with fail
                      go_round
                      case rel => exact ⟨i + 1, D, D2, a5, c5, a6, c6, by omega, by go_num, rfl, rfl, (((r5.below hb6).below hb7).below hb8), ((r6.below hb7).below hb8), hbq.then hb58, HS3, HT3⟩
                      case measure => simp [intOf]; omega
                    · obtain ⟨D, hD⟩ : ∃ D, dropF S A[i] = D := ⟨_, rfl⟩
                      have GD := mkHid hD
                      have GE : Hid (dropE S A[i] = 0) := (off_yes hxf hx).1
                      have HS3 : Hid (offsF P (A.take (i + 1)) = D) := by rw [Hid, HS2.out, ← (off_yes hxf hx).2]; exact hD
                      have GH : Hid (decide (A[i] ∈ S) = true) := decide_eq_true hx
                      clear hD
                      have GD2 : Hid (dropF T A[z] = []) := (off_no hyf hy).2.1
                      have GE2 : Hid (dropE T A[z] = 3) := (off_no hyf hy).1
                      have HT3 : Hid (offsF P (backF A K (i + 1)) = T) := by rw [Hid, HT2.out]; exact (off_no hyf hy).2.2
                      have GH2 : Hid (decide (A[z] ∈ T) = false) := decide_eq_false hy
                      clear hx hy hxf hyf HS2 HT2
                      go_wp2_with fail
                      refine (dropK rS rx FS GD GE).mono ?_
                      rintro e w5 ⟨a5, c5, rfl, r5, hb5⟩
                      have f1 := keep f0 hb5
                      go_wp2_with fail
                      refine (dropK (rT.below hb5) (ry.below hb5) FT GD2 GE2).mono ?_
                      rintro e w6 ⟨a6, c6, rfl, r6, hb6⟩
                      have hb56 := hb5.then hb6
                      have d2 := keep d0 hb56
                      go_wp2_with fail
                      refine (hasK (rS.below hb56) (rx.below hb56) FS GH).mono ?_
                      rintro e w7 ⟨rfl, hb7⟩
                      have hb57 := hb56.then hb7
                      have f3 := keep f0 hb57
                      go_wp2_with fail
                      refine (hasK (rT.below hb57) (ry.below hb57) FT GH2).mono ?_
                      rintro e w8 ⟨rfl, hb8⟩
                      have hb58 := hb57.then hb8
                      go_wp2_with fail
                      go_round
                      case rel => exact ⟨i + 1, D, T, a5, c5, a2, c2, by omega, by go_num, rfl, rfl, (((r5.below hb6).below hb7).below hb8), (rT.below hb58), hbq.then hb58, HS3, HT3⟩
                      case measure => simp [intOf]; omega
                  · by_cases hy : A[z] ∈ T
                    · have GD : Hid (dropF S A[i] = []) := (off_no hxf hx).2.1
                      have GE : Hid (dropE S A[i] = 3) := (off_no hxf hx).1
                      have HS3 : Hid (offsF P (A.take (i + 1)) = S) := by rw [Hid, HS2.out]; exact (off_no hxf hx).2.2
                      have GH : Hid (decide (A[i] ∈ S) = false) := decide_eq_false hx
                      obtain ⟨D2, hD2⟩ : ∃ D, dropF T A[z] = D := ⟨_, rfl⟩
                      have GD2 := mkHid hD2
                      have GE2 : Hid (dropE T A[z] = 0) := (off_yes hyf hy).1
                      have HT3 : Hid (offsF P (backF A K (i + 1)) = D2) := by rw [Hid, HT2.out, ← (off_yes hyf hy).2]; exact hD2
                      have GH2 : Hid (decide (A[z] ∈ T) = true) := decide_eq_true hy
                      clear hD2
                      clear hx hy hxf hyf HS2 HT2
                      go_wp2_with fail
                      refine (dropK rS rx FS GD GE).mono ?_
                      rintro e w5 ⟨a5, c5, rfl, r5, hb5⟩
                      have f1 := keep f0 hb5
                      go_wp2_with fail
                      refine (dropK (rT.below hb5) (ry.below hb5) FT GD2 GE2).mono ?_
                      rintro e w6 ⟨a6, c6, rfl, r6, hb6⟩
                      have hb56 := hb5.then hb6
                      have d2 := keep d0 hb56
                      go_wp2_with fail
                      refine (hasK (rS.below hb56) (rx.below hb56) FS GH).mono ?_
                      rintro e w7 ⟨rfl, hb7⟩
                      have hb57 := hb56.then hb7
                      have f3 := keep f0 hb57
                      go_wp2_with fail
                      refine (hasK (rT.below hb57) (ry.below hb57) FT GH2).mono ?_
                      rintro e w8 ⟨rfl, hb8⟩
                      have hb58 := hb57.then hb8
                      go_wp2_with fail
                      go_round
                      case rel => exact ⟨i + 1, S, D2, a1, c1, a6, c6, by omega, by go_num, rfl, rfl, (rS.below hb58), ((r6.below hb7).below hb8), hbq.then hb58, HS3, HT3⟩
                      case measure => simp [intOf]; omega
                    · have GD : Hid (dropF S A[i] = []) := (off_no hxf hx).2.1
                      have GE : Hid (dropE S A[i] = 3) := (off_no hxf hx).1
                      have HS3 : Hid (offsF P (A.take (i + 1)) = S) := by rw [Hid, HS2.out]; exact (off_no hxf hx).2.2
                      have GH : Hid (decide (A[i] ∈ S) = false) := decide_eq_false hx
                      have GD2 : Hid (dropF T A[z] = []) := (off_no hyf hy).2.1
                      have GE2 : Hid (dropE T A[z] = 3) := (off_no hyf hy).1
                      have HT3 : Hid (offsF P (backF A K (i + 1)) = T) := by rw [Hid, HT2.out]; exact (off_no hyf hy).2.2
                      have GH2 : Hid (decide (A[z] ∈ T) = false) := decide_eq_false hy
                      clear hx hy hxf hyf HS2 HT2
                      go_wp2_with fail
                      refine (dropK rS rx FS GD GE).mono ?_
                      rintro e w5 ⟨a5, c5, rfl, r5, hb5⟩
                      have f1 := keep f0 hb5
                      go_wp2_with fail
                      refine (dropK (rT.below hb5) (ry.below hb5) FT GD2 GE2).mono ?_
                      rintro e w6 ⟨a6, c6, rfl, r6, hb6⟩
                      have hb56 := hb5.then hb6
                      have d2 := keep d0 hb56
                      go_wp2_with fail
                      refine (hasK (rS.below hb56) (rx.below hb56) FS GH).mono ?_
                      rintro e w7 ⟨rfl, hb7⟩
                      have hb57 := hb56.then hb7
                      have f3 := keep f0 hb57
                      go_wp2_with fail
                      refine (hasK (rT.below hb57) (ry.below hb57) FT GH2).mono ?_
                      rintro e w8 ⟨rfl, hb8⟩
                      have hb58 := hb57.then hb8
                      go_wp2_with fail
                      go_round
                      case rel => exact ⟨i + 1, S, T, a1, c1, a2, c2, by omega, by go_num, rfl, rfl, (rS.below hb58), (rT.below hb58), hbq.then hb58, HS3, HT3⟩
                      case measure => simp [intOf]; omega
                · have HE : Hid (decide (S = T) = true) := by
                    have hiK : i = K := by omega
                    subst hiK
                    rw [Hid, ← HS.out, ← HT.out]
                    exact decide_eq_true (order_offs FP.out HF.out (by omega))
                  clear HS HT
                  go_wp2_with fail
                  refine (sameK rS rT HE).mono ?_
                  rintro e w9 ⟨rfl, hb9⟩
                  go_wp2_with fail
                  go_ret
                  exact ⟨rfl, HB.out.then (hbq.then hb9)⟩
        · clear hlt2
          go_wp2_with fail
          obtain ⟨V0, hV0⟩ : ∃ V, (wr.alloc (.cells #[] 22)).alloc (.cells #[] 22) = V := ⟨_, rfl⟩
          have hbV : Below wr.heap.size wr V0 := by rw [← hV0]; exact ((Below.refl _ _).new _).new _
          rw [hV0]
          clear hV0
          have rM := mkHid (hrM.below hbV)
          have HB := mkHid (hB.then hbV)
          generalize wr.heap.size + 1 = G2
          generalize wr.heap.size = G1
          clear hrM hB hbV hbl
          go_loopw [9, 10, 11] (fun u9 u10 u11 wq => ∃ (i : Nat) (P Q : List (List Cel)) (a1 : Option Addr) (c1 : Nat) (a2 : Option Addr) (c2 : Nat), i ≤ A.length ∧ u11 = .int .i64 i ∧ u9 = .slice a1 P.length c1 ∧ u10 = .slice a2 Q.length c2 ∧ Row wq a1 c1 P ∧ Row wq a2 c2 Q ∧ Below V0.heap.size V0 wq ∧ Hid (addsF [] (A.take i) = P) ∧ Hid (addsF [] (rotsF A K i) = Q)) (fun u9 u10 u11 wq => A.length - (intOf u11).toNat)
          case atStart => exact ⟨0, [], [], _, _, _, _, Nat.zero_le _, rfl, rfl, rfl, Row.empty _ _ _ (by omega) (fun e => by cases e), Row.empty _ _ _ (by omega) (fun e => by cases e), Below.refl _ _, rfl, rfl⟩
          case round =>
            obtain ⟨i, P, Q, a1, c1, a2, c2, hi, rfl, rfl, rfl, rP, rQ, hbq, HP, HQ⟩ := hrel
            by_cases hlt : i < A.length
            · obtain ⟨j, hj, hjl, hjr⟩ : ∃ j : Nat, Int.tmod ((i : Int) + (K : Int)) (A.length : Int) = (j : Int) ∧ j < A.length ∧ (i + K) % A.length = j := by
                refine ⟨(i + K) % A.length, ?_, Nat.mod_lt _ (by omega), rfl⟩
                have h1 := tmod_nat (i + K) A.length
                rwa [Int.natCast_add] at h1
              obtain ⟨b, off, rfl, hb, hat⟩ := rM.out.cases.resolve_left (fun e => by simp [e] at hlt)
              obtain ⟨ax, cx, d0, rx⟩ := list_at hat hbq hlt
              obtain ⟨ay, cy, f0, ry⟩ := list_at hat hbq hjl
              have hP1 : P.length ≤ 30 := by have := addsF_len (A.take i) []; rw [HP.out, List.length_take] at this; simp at this; omega
              have hQ1 : Q.length ≤ 30 := by have := addsF_len (rotsF A K i) []; rw [HQ.out, rotsF_len] at this; simp at this; omega
              have hxf := HF.out _ (List.getElem_mem hlt)
              have hyf := HF.out _ (List.getElem_mem hjl)
              have FP : Hid (FR P) := by rw [Hid, ← HP.out]; exact FR.nil.adds
              have FQ : Hid (FR Q) := by rw [Hid, ← HQ.out]; exact FR.nil.adds
              obtain ⟨P2, hP2⟩ : ∃ P2, addF P A[i] = P2 := ⟨_, rfl⟩
              obtain ⟨Q2, hQ2⟩ : ∃ Q2, addF Q A[j] = Q2 := ⟨_, rfl⟩
              have G3 := mkHid hP2
              have G3E : Hid (addE P A[i] = 0) := addE_ok hxf (by omega)
              have G4 := mkHid hQ2
              have G4E : Hid (addE Q A[j] = 0) := addE_ok hyf (by omega)
              have hQ3 : A[j] ∈ Q2 := by rw [← hQ2]; exact (mem_addF hyf (by omega)).2 (.inl rfl)
              have G5 : Hid (addF Q2 A[j] = Q2) := by rw [Hid, ← hQ2]; exact add_twice hyf (by omega)
              have G5E : Hid (addE Q2 A[j] = 0) := addE_in hyf hQ3
              have FQ2 : Hid (FR Q2) := by rw [Hid, ← hQ2]; exact FQ.out.add _
              have HP2 : Hid (addsF [] (A.take (i + 1)) = P2) := by rw [Hid, adds_take hlt, HP.out]; exact hP2
              have HQ2 : Hid (addsF [] (rotsF A K (i + 1)) = Q2) := by
                have hrj : rotF A K i = A[j] := by unfold rotF; rw [hjr, getD_atF hjl]
                rw [Hid, rotsF_succ, hrj]
                show List.foldl addF [] (rotsF A K i ++ [A[j]]) = Q2
                rw [List.foldl_append]
                show addF (addsF [] (rotsF A K i)) A[j] = Q2
                rw [HQ.out]; exact hQ2
              clear hP2 hQ2 hQ3 hxf hyf hjr HP HQ
              go_wp2_with fail
              refine (addK rP rx FP G3 G3E).mono ?_
              rintro e w5 ⟨a5, c5, rfl, r5, hb5⟩
              have f1 := keep f0 hb5
              go_wp2_with fail
              refine (addK (rQ.below hb5) (ry.below hb5) FQ G4 G4E).mono ?_
              rintro e w6 ⟨a6, c6, rfl, r6, hb6⟩
              have hb56 := hb5.then hb6
              have f2 := keep f0 hb56
              go_wp2_with fail
              refine (addK r6 (ry.below hb56) FQ2 G5 G5E).mono ?_
              rintro e w7 ⟨a7, c7, rfl, r7, hb7⟩
              go_wp2_with fail
              refine (sameK (b := true) (r6.below hb7) r7 (by rw [Hid]; exact decide_eq_true rfl)).mono ?_
              rintro e w8 ⟨rfl, hb8⟩
              have hb78 := hb7.then hb8
              go_wp2_with fail
              go_round
              case rel => exact ⟨i + 1, P2, Q2, a5, c5, a7, c7, by omega, by go_num, rfl, rfl, (r5.below hb6).below hb78, r7.below hb8, (hbq.then hb56).then hb78, HP2, HQ2⟩
              case measure => simp [intOf]; omega
            · have hPA : addsF [] A = P := by have := HP.out; rwa [List.take_of_length_le (by omega)] at this
              have hQA : addsF [] (rotsF A K A.length) = Q := by have := HQ.out; rwa [show i = A.length by omega] at this
              have hPQ : P = Q := by rw [← hPA, ← hQA]; exact order_adds HF.out hA30 K
              have HPQ : Hid (decide (P = Q) = true) := decide_eq_true hPQ
              have HST : Hid (offsF P (backF A K 0) = Q) := hPQ
              have FP : Hid (FR P) := by rw [Hid, ← hPA]; exact FR.nil.adds
              clear hPA hQA hPQ HP HQ
              go_wp2_with fail
              refine (sameK rP rQ HPQ).mono ?_
              rintro e w9 ⟨rfl, hb9⟩
              have rS := rP.below hb9
              have rT := rQ.below hb9
              have hbq9 := hbq.then hb9
              clear rP rQ hb9 hbq
              go_wp2_with fail
              go_loopw [9, 10, 18] (fun u9 u10 u18 wq => ∃ (i : Nat) (S T : List (List Cel)) (a1 : Option Addr) (c1 : Nat) (a2 : Option Addr) (c2 : Nat), i ≤ K ∧ u18 = .int .i64 i ∧ u9 = .slice a1 S.length c1 ∧ u10 = .slice a2 T.length c2 ∧ Row wq a1 c1 S ∧ Row wq a2 c2 T ∧ Below V0.heap.size V0 wq ∧ Hid (offsF P (A.take i) = S) ∧ Hid (offsF P (backF A K i) = T)) (fun u9 u10 u18 wq => K - (intOf u18).toNat)
              case atStart => exact ⟨0, P, Q, a1, c1, a2, c2, Nat.zero_le _, rfl, rfl, rfl, rS, rT, hbq9, rfl, HST.out⟩
              case round =>
                clear rS rT hbq9
                obtain ⟨i, S, T, a1, c1, a2, c2, hi, rfl, rfl, rfl, rS, rT, hbq, HS, HT⟩ := hrel
                by_cases hlt : i < K
                · have hiA : i < A.length := by omega
                  obtain ⟨z, hz, hzl, hzr⟩ : ∃ z : Nat, (K : Int) - 1 - (i : Int) = (z : Int) ∧ z < A.length ∧ K - 1 - i = z := ⟨K - 1 - i, by omega, by omega, rfl⟩
                  have hz0 : (0 : Int) ≤ (z : Int) := by omega
                  obtain ⟨b, off, rfl, hb, hat⟩ := rM.out.cases.resolve_left (fun e => by simp [e] at hiA)
                  obtain ⟨ax, cx, d0, rx⟩ := list_at hat hbq hiA
                  obtain ⟨ay, cy, f0, ry⟩ := list_at hat hbq hzl
                  have hxf := HF.out _ (List.getElem_mem hiA)
                  have hyf := HF.out _ (List.getElem_mem hzl)
                  have FS : Hid (FR S) := by rw [Hid, ← HS.out]; exact FP.out.offs
                  have FT : Hid (FR T) := by rw [Hid, ← HT.out]; exact FP.out.offs
                  have HS2 : Hid (offsF P (A.take (i + 1)) = offF S A[i]) := by rw [Hid, List.take_succ_eq_append_getElem hiA, offsF_snoc, HS.out]
                  have HT2 : Hid (offsF P (backF A K (i + 1)) = offF T A[z]) := by rw [Hid, backF_succ, hzr, getD_atF hzl, offsF_snoc, HT.out]
                  clear hzr HS HT
                  by_cases hx : A[i] ∈ S
                  · by_cases hy : A[z] ∈ T
                    · obtain ⟨D, hD⟩ : ∃ D, dropF S A[i] = D := ⟨_, rfl⟩
                      have GD := mkHid hD
                      have GE : Hid (dropE S A[i] = 0) := (off_yes hxf hx).1
                      have HS3 : Hid (offsF P (A.take (i + 1)) = D) := by rw [Hid, HS2.out, ← (off_yes hxf hx).2]; exact hD
                      have GH : Hid (decide (A[i] ∈ S) = true) := decide_eq_true hx
                      clear hD
                      obtain ⟨D2, hD2⟩ : ∃ D, dropF T A[z] = D := ⟨_, rfl⟩
                      have GD2 := mkHid hD2
                      have GE2 : Hid (dropE T A[z] = 0) := (off_yes hyf hy).1
                      have HT3 : Hid (offsF P (backF A K (i + 1)) = D2) := by rw [Hid, HT2.out, ← (off_yes hyf hy).2]; exact hD2
                      have GH2 : Hid (decide (A[z] ∈ T) = true) := decide_eq_true hy
                      clear hD2
                      clear hx hy hxf hyf HS2 HT2
                      go_wp2_with fail
                      refine (dropK rS rx FS GD GE).mono ?_
                      rintro e w5 ⟨a5, c5, rfl, r5, hb5⟩
                      have f1 := keep f0 hb5
                      go_wp2_with fail
                      refine (dropK (rT.below hb5) (ry.below hb5) FT GD2 GE2).mono ?_
                      rintro e w6 ⟨a6, c6, rfl, r6, hb6⟩
                      have hb56 := hb5.then hb6
                      have d2 := keep d0 hb56
                      go_wp2_with fail
                      refine (hasK (rS.below hb56) (rx.below hb56) FS GH).mono ?_
                      rintro e w7 ⟨rfl, hb7⟩
                      have hb57 := hb56.then hb7
                      have f3 := keep f0 hb57
                      go_wp2_with fail
                      refine (hasK (rT.below hb57) (ry.below hb57) FT GH2).mono ?_
                      rintro e w8 ⟨rfl, hb8⟩
                      have hb58 := hb57.then hb8
                      go_wp2_with fail
                      go_round
                      case rel => exact ⟨i + 1, D, D2, a5, c5, a6, c6, by omega, by go_num, rfl, rfl, (((r5.below hb6).below hb7).below hb8), ((r6.below hb7).below hb8), hbq.then hb58, HS3, HT3⟩
                      case measure => simp [intOf]; omega
                    · obtain ⟨D, hD⟩ : ∃ D, dropF S A[i] = D := ⟨_, rfl⟩
                      have GD := mkHid hD
                      have GE : Hid (dropE S A[i] = 0) := (off_yes hxf hx).1
                      have HS3 : Hid (offsF P (A.take (i + 1)) = D) := by rw [Hid, HS2.out, ← (off_yes hxf hx).2]; exact hD
                      have GH : Hid (decide (A[i] ∈ S) = true) := decide_eq_true hx
                      clear hD
                      have GD2 : Hid (dropF T A[z] = []) := (off_no hyf hy).2.1
                      have GE2 : Hid (dropE T A[z] = 3) := (off_no hyf hy).1
                      have HT3 : Hid (offsF P (backF A K (i + 1)) = T) := by rw [Hid, HT2.out]; exact (off_no hyf hy).2.2
                      have GH2 : Hid (decide (A[z] ∈ T) = false) := decide_eq_false hy
                      clear hx hy hxf hyf HS2 HT2
                      go_wp2_with fail
                      refine (dropK rS rx FS GD GE).mono ?_
                      rintro e w5 ⟨a5, c5, rfl, r5, hb5⟩
                      have f1 := keep f0 hb5
                      go_wp2_with fail
                      refine (dropK (rT.below hb5) (ry.below hb5) FT GD2 GE2).mono ?_
                      rintro e w6 ⟨a6, c6, rfl, r6, hb6⟩
                      have hb56 := hb5.then hb6
                      have d2 := keep d0 hb56
                      go_wp2_with fail
                      refine (hasK (rS.below hb56) (rx.below hb56) FS GH).mono ?_
                      rintro e w7 ⟨rfl, hb7⟩
                      have hb57 := hb56.then hb7
                      have f3 := keep f0 hb57
                      go_wp2_with fail
                      refine (hasK (rT.below hb57) (ry.below hb57) FT GH2).mono ?_
                      rintro e w8 ⟨rfl, hb8⟩
                      have hb58 := hb57.then hb8
                      go_wp2_with fail
                      go_round
                      case rel => exact ⟨i + 1, D, T, a5, c5, a2, c2, by omega, by go_num, rfl, rfl, (((r5.below hb6).below hb7).below hb8), (rT.below hb58), hbq.then hb58, HS3, HT3⟩
                      case measure => simp [intOf]; omega
                  · by_cases hy : A[z] ∈ T
                    · have GD : Hid (dropF S A[i] = []) := (off_no hxf hx).2.1
                      have GE : Hid (dropE S A[i] = 3) := (off_no hxf hx).1
                      have HS3 : Hid (offsF P (A.take (i + 1)) = S) := by rw [Hid, HS2.out]; exact (off_no hxf hx).2.2
                      have GH : Hid (decide (A[i] ∈ S) = false) := decide_eq_false hx
                      obtain ⟨D2, hD2⟩ : ∃ D, dropF T A[z] = D := ⟨_, rfl⟩
                      have GD2 := mkHid hD2
                      have GE2 : Hid (dropE T A[z] = 0) := (off_yes hyf hy).1
                      have HT3 : Hid (offsF P (backF A K (i + 1)) = D2) := by rw [Hid, HT2.out, ← (off_yes hyf hy).2]; exact hD2
                      have GH2 : Hid (decide (A[z] ∈ T) = true) := decide_eq_true hy
                      clear hD2
                      clear hx hy hxf hyf HS2 HT2
                      go_wp2_with fail
                      refine (dropK rS rx FS GD GE).mono ?_
                      rintro e w5 ⟨a5, c5, rfl, r5, hb5⟩
                      have f1 := keep f0 hb5
                      go_wp2_with fail
                      refine (dropK (rT.below hb5) (ry.below hb5) FT GD2 GE2).mono ?_
                      rintro e w6 ⟨a6, c6, rfl, r6, hb6⟩
                      have hb56 := hb5.then hb6
                      have d2 := keep d0 hb56
                      go_wp2_with fail
                      refine (hasK (rS.below hb56) (rx.below hb56) FS GH).mono ?_
                      rintro e w7 ⟨rfl, hb7⟩
                      have hb57 := hb56.then hb7
                      have f3 := keep f0 hb57
                      go_wp2_with fail
                      refine (hasK (rT.below hb57) (ry.below hb57) FT GH2).mono ?_
                      rintro e w8 ⟨rfl, hb8⟩
                      have hb58 := hb57.then hb8
                      go_wp2_with fail
                      go_round
                      case rel => exact ⟨i + 1, S, D2, a1, c1, a6, c6, by omega, by go_num, rfl, rfl, (rS.below hb58), ((r6.below hb7).below hb8), hbq.then hb58, HS3, HT3⟩
                      case measure => simp [intOf]; omega
                    · have GD : Hid (dropF S A[i] = []) := (off_no hxf hx).2.1
                      have GE : Hid (dropE S A[i] = 3) := (off_no hxf hx).1
                      have HS3 : Hid (offsF P (A.take (i + 1)) = S) := by rw [Hid, HS2.out]; exact (off_no hxf hx).2.2
                      have GH : Hid (decide (A[i] ∈ S) = false) := decide_eq_false hx
                      have GD2 : Hid (dropF T A[z] = []) := (off_no hyf hy).2.1
                      have GE2 : Hid (dropE T A[z] = 3) := (off_no hyf hy).1
                      have HT3 : Hid (offsF P (backF A K (i + 1)) = T) := by rw [Hid, HT2.out]; exact (off_no hyf hy).2.2
                      have GH2 : Hid (decide (A[z] ∈ T) = false) := decide_eq_false hy
                      clear hx hy hxf hyf HS2 HT2
                      go_wp2_with fail
                      refine (dropK rS rx FS GD GE).mono ?_
                      rintro e w5 ⟨a5, c5, rfl, r5, hb5⟩
                      have f1 := keep f0 hb5
                      go_wp2_with fail
                      refine (dropK (rT.below hb5) (ry.below hb5) FT GD2 GE2).mono ?_
                      rintro e w6 ⟨a6, c6, rfl, r6, hb6⟩
                      have hb56 := hb5.then hb6
                      have d2 := keep d0 hb56
                      go_wp2_with fail
                      refine (hasK (rS.below hb56) (rx.below hb56) FS GH).mono ?_
                      rintro e w7 ⟨rfl, hb7⟩
                      have hb57 := hb56.then hb7
                      have f3 := keep f0 hb57
                      go_wp2_with fail
                      refine (hasK (rT.below hb57) (ry.below hb57) FT GH2).mono ?_
                      rintro e w8 ⟨rfl, hb8⟩
                      have hb58 := hb57.then hb8
                      go_wp2_with fail
                      go_round
                      case rel => exact ⟨i + 1, S, T, a1, c1, a2, c2, by omega, by go_num, rfl, rfl, (rS.below hb58), (rT.below hb58), hbq.then hb58, HS3, HT3⟩
                      case measure => simp [intOf]; omega
                · have HE : Hid (decide (S = T) = true) := by
                    have hiK : i = K := by omega
                    subst hiK
                    rw [Hid, ← HS.out, ← HT.out]
                    exact decide_eq_true (order_offs FP.out HF.out (by omega))
                  clear HS HT
                  go_wp2_with fail
                  refine (sameK rS rT HE).mono ?_
                  rintro e w9 ⟨rfl, hb9⟩
                  go_wp2_with fail
                  go_ret
                  exact ⟨rfl, HB.out.then (hbq.then hb9)⟩
      · have hAn : A = [] := List.eq_nil_of_length_eq_zero (by omega)
        subst hAn
        by_cases hkl : k < l.length
        · have hkm : ¬ k < 30 := fun h => hlt2 ⟨hkl, h⟩
          clear hlt2
          go_wp2_with fail
          obtain ⟨V0, hV0⟩ : ∃ V, (wr.alloc (.cells #[] 22)).alloc (.cells #[] 22) = V := ⟨_, rfl⟩
          have hbV : Below wr.heap.size wr V0 := by rw [← hV0]; exact ((Below.refl _ _).new _).new _
          rw [hV0]
          have HB := mkHid (hB.then hbV)
          clear hV0 hB hbV hbl hrM
          go_loopw [9, 10, 11] (fun u9 u10 u11 wq => ∃ (x y : Addr), u9 = .slice (some x) 0 0 ∧ u10 = .slice (some y) 0 0 ∧ u11 = .int .i64 0 ∧ wq = V0) (fun u9 u10 u11 wq => 0)
          case atStart => exact ⟨_, _, rfl, rfl, rfl, rfl⟩
          case round =>
            obtain ⟨x, y, rfl, rfl, rfl, rfl⟩ := hrel
            go_wp2_with fail
            refine (same_nil _ _ _).mono ?_
            rintro e w9 ⟨rfl, hb9⟩
            go_wp2_with fail
            go_loopw [9, 10, 18] (fun u9 u10 u18 wq => ∃ (x y : Addr), u9 = .slice (some x) 0 0 ∧ u10 = .slice (some y) 0 0 ∧ u18 = .int .i64 0 ∧ wq = w9) (fun u9 u10 u18 wq => 0)
            case atStart => exact ⟨_, _, rfl, rfl, rfl, rfl⟩
            case round =>
              obtain ⟨x', y', rfl, rfl, rfl, rfl⟩ := hrel
              go_wp2_with fail
              refine (same_nil _ _ _).mono ?_
              rintro e w10 ⟨rfl, hb10⟩
              go_wp2_with fail
              go_ret
              exact ⟨rfl, (HB.out.then hb9).then hb10⟩
        · clear hlt2
          go_wp2_with fail
          obtain ⟨V0, hV0⟩ : ∃ V, (wr.alloc (.cells #[] 22)).alloc (.cells #[] 22) = V := ⟨_, rfl⟩
          have hbV : Below wr.heap.size wr V0 := by rw [← hV0]; exact ((Below.refl _ _).new _).new _
          rw [hV0]
          have HB := mkHid (hB.then hbV)
          clear hV0 hB hbV hbl hrM
          go_loopw [9, 10, 11] (fun u9 u10 u11 wq => ∃ (x y : Addr), u9 = .slice (some x) 0 0 ∧ u10 = .slice (some y) 0 0 ∧ u11 = .int .i64 0 ∧ wq = V0) (fun u9 u10 u11 wq => 0)
          case atStart => exact ⟨_, _, rfl, rfl, rfl, rfl⟩
          case round =>
            obtain ⟨x, y, rfl, rfl, rfl, rfl⟩ := hrel
            go_wp2_with fail
            refine (same_nil _ _ _).mono ?_
            rintro e w9 ⟨rfl, hb9⟩
            go_wp2_with fail
            go_loopw [9, 10, 18] (fun u9 u10 u18 wq => ∃ (x y : Addr), u9 = .slice (some x) 0 0 ∧ u10 = .slice (some y) 0 0 ∧ u18 = .int .i64 0 ∧ wq = w9) (fun u9 u10 u18 wq => 0)
            case atStart => exact ⟨_, _, rfl, rfl, rfl, rfl⟩
            case round =>
              obtain ⟨x', y', rfl, rfl, rfl, rfl⟩ := hrel
              go_wp2_with fail
              refine (same_nil _ _ _).mono ?_
              rintro e w10 ⟨rfl, hb10⟩
              go_wp2_with fail
              go_ret
              exact ⟨rfl, (HB.out.then hb9).then hb10⟩
end Go.Proofs.Ytmmnfkggfnokjaa
namespace Go.Proofs.Ytmmnfkggfnokjaa
open Go.RowKit Go.ChangeShapes Go.WideShapes Go.ChangeAt
open Go.ChangeMaps (open_string)

set_option maxRecDepth 100000 in
set_option maxHeartbeats 1000000 in
theorem FactsOrder_lifted (os : Os) (started : os.Started) (H : Type) (enc : TypeId × Value → H) :
    ReturnsInHanded {} Try.checked os 8 .any (Rows.factsOrderSpec.pre6 enc Try.prog Try.f8 Rows.factsOrderRow.domain false) (Rows.factsOrderSpec.post enc Try.prog Try.f8 false true false false) := by
  refine returnsInHanded_of_change (C := Try.checked) Try.own started (by kernel_rfl) Try.func8
    (ChangeSpec.witness6 (enc := enc) (C := Try.checked) false ⟨#[], #[.slice none 0 0, .int .u8 0], []⟩ 8 (by kernel_rfl) (by kernel_rfl) (by kernel_rfl) (by kernel_rfl)) ?_
  intro W base args ds gs before hval0 hW hcnd _
  have hval : ∀ (j : Nat) t v, Try.f8.params[j]? = some t → args[j]? = some v → Value.okWide Try.prog W .any base t v := hval0
  have hW' := hW
  obtain ⟨p, q, hA0, hV, rfl, hfz, hnd⟩ := hW
  have hA : DataW.TrodAll enc Try.prog W 0 (fun _ => true) true Try.f8.params.toList args.toList ds p := hA0
  rw [Try.params8] at hA hval
  obtain ⟨v0, vs0, d0, ds0, p0, q0, hargs, rfl, rfl, h0, r0⟩ := trodAll_cons hA
  obtain ⟨v1, vs1, d1, ds1, p1, q1, rfl, rfl, rfl, h1, r1⟩ := trodAll_cons r0
  obtain ⟨rfl, rfl, rfl⟩ := trodAll_nil r1
  obtain rfl : args = #[v0, v1] := by cases args; simp_all
  obtain ⟨rfl, rfl⟩ := trodVars_none hV
  have k0 := h0
  have lt0 : ∀ x ∈ p0, x.block < W.heap.size := by obtain ⟨m, hm⟩ := k0; exact DataW.trod_lt m _ _ _ hm
  obtain ⟨a0, len0, cap0, rfl⟩ := okWide_slice Try.underlying68 (hval 0 68 v0 rfl rfl)
  obtain ⟨xs0, rfl, hr0⟩ : ∃ xs : List (List Cel), xs.length = len0 ∧ Row W a0 cap0 xs := by
    obtain ⟨fuel, hf⟩ := h0
    exact open_cellss hf
  have k1 := h1
  have lt1 : ∀ x ∈ p1, x.block < W.heap.size := by obtain ⟨m, hm⟩ := k1; exact DataW.trod_lt m _ _ _ hm
  obtain ⟨n1, rfl, _, _, wf1⟩ := open_int Try.underlying5 (hval 1 5 v1 rfl rfl) h1
  clear hA0 hval0
  refine (lawOrder12_any head12_any a0 cap0 xs0 n1 wf1 W hr0).mono fun e W' ⟨he, bel⟩ => ?_
  subst he
  exact ⟨_, rfl, _, _, _, [], _, [], hW', trodAll_mk1 (shut_bool Try.underlying4 _), (trodAll_cons_mk (Below.trod Try.laidOut (by kernel_rfl) (of_decide_eq_true (by kernel_rfl)) k0 bel lt0) (trodAll_cons_mk (Below.trod Try.laidOut (by kernel_rfl) (of_decide_eq_true (by kernel_rfl)) k1 bel lt1) trodAll_mk0)), rfl, bel.frame _, fun h => by cases h⟩

theorem FactsOrder_over : Rows.factsOrderRow.holds Try.pinned (OpenSpec.ofChange Rows.factsOrderSpec) :=
  OpenClaim.holds_of_wide 8 Try.f8 rfl rfl rfl rfl rfl rfl rfl ⟨rfl, rfl, rfl, rfl, rfl⟩ rfl rfl rfl rfl rfl (by kernel_rfl) Try.func8 (by kernel_rfl)
    (of_decide_eq_true (by kernel_rfl)) (by unfold Func.isWrapper; first | (rw [if_pos (by decide +kernel)]; kernel_rfl) | (rw [if_neg (by decide +kernel)]; exact ⟨rfl, rfl⟩))
    (fun os started H enc _ => FactsOrder_lifted os started H enc)

theorem FactsOrder_holds : Rows.FactsOrderSaid := FactsOrder_over
end Go.Proofs.Ytmmnfkggfnokjaa
