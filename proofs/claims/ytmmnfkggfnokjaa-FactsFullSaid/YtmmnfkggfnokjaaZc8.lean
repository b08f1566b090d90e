/-
  Of layer 12 of sorrel: whatever arguments come in, the law FactsFull returns true, and what was handed in reads as it did: a row of 512 takes no other one, but takes those that it has; with one less there is room again. No condition.
-/
import Derived.Test.YtmmnfkggfnokjaaZr8
namespace Go.Proofs.Ytmmnfkggfnokjaa
open Go.RowKit

set_option maxHeartbeats 1600000 in
theorem p12_new (nm : ByteArray) (hs : nm.size ≤ 1000) (a : Option Addr) (cap : Nat) (w : World) (l : List Cel) (hr : Row w a cap l) (hl : l.length ≤ 1000) :
    Calls Try.prog 61 #[.string nm, .slice a l.length cap] w fun e w' => ∃ a' cap', e = .returned (.slice a' (l.length + 1) cap') ∧ NewRow w.heap.size w' a' cap' (⟨3, nm, l.length⟩ :: l) ∧ Below w.heap.size w w' := by
  have hm := hr.max
  have hle := hr.le
  have hcf : (⟨3, nm, l.length⟩ : Cel).fit := ⟨by simp, by simp, by show (-9223372036854775808 : Int) ≤ l.length; omega, by show (l.length : Int) ≤ 9223372036854775807; omega, by show nm.size ≤ _; omega⟩
  have hb0 := (Below.refl w.heap.size w).new (.cells #[.int .i64 3, .string nm, .int .i64 l.length] 79)
  have hown0 : (w.alloc (.cells #[.int .i64 3, .string nm, .int .i64 l.length] 79)).ownsRow w.heap.size 79 3 (.slice (some ⟨w.heap.size, 0, none⟩) 1 1) 1 (flat [⟨3, nm, l.length⟩]) := by
    have := World.ownsRow_lit (base := w.heap.size) (e := 79) (size := 3) w #[.int .i64 3, .string nm, .int .i64 l.length] 1 (Nat.le_refl _) (by unfold maxLen; omega) rfl
    simpa [flat] using this
  go_enter Try.func61, Try.ntmps61
  go_wp2_with (at_builtin; refine wpList_app rfl _ _ 22 rfl w.heap.size 79 3 32 _ Try.underlying22 Try.infoCell rfl (by decide) (by decide) _ _ _ rfl hown0 a l.length cap (flat l) rfl (hr.below hb0).src (by omega) hb0.size ?_; intro v3 w3 hown3 _ hb3)
  rw [← flat_append] at hown3
  obtain ⟨a2, cap2, rfl, hrow⟩ := own_new (xs := [⟨3, nm, l.length⟩] ++ l) (by rw [List.length_append, List.length_singleton]; exact hown3) (fun c hc => by
    rcases List.mem_append.1 hc with h | h
    · rw [List.mem_singleton] at h; rw [h]; exact hcf
    · exact hr.fit c h)
  go_wp2
  go_ret
  exact ⟨a2, cap2, by rw [List.length_append, Nat.add_comm]; rfl, hrow, hb0.trans hb3⟩

/-! ### numbered facts -/
def nF (n : Int) : List Cel := [⟨3, ⟨#[110]⟩, 1⟩, ⟨2, ⟨#[]⟩, n⟩]
theorem nF_fact {n : Int} (h1 : -2147483647 ≤ n) (h2 : n ≤ 2147483647) : factB (nF n) = true := by
  have hc : cellOk ⟨2, ⟨#[]⟩, n⟩ = true := by unfold cellOk; simp; omega
  exact small_fact (n := ⟨#[110]⟩) (k := 1) (ts := [.mk ⟨2, ⟨#[]⟩, n⟩ []]) (by simp [Tm.flat, flats, nF]) ⟨by decide +kernel, rfl, ⟨hc, rfl, trivial⟩, trivial⟩ (by simp [nF]) (by simp [groundB, nF]) (by simp [Tm.depth, depths])
theorem nF_lt {a b : Int} (h : a < b) : compP (nF a) (nF b) < 0 := by
  have hne : ¬ (⟨2, ⟨#[]⟩, a⟩ : Cel) = ⟨2, ⟨#[]⟩, b⟩ := fun e => by injection e; omega
  simp only [compP, nF, if_true, if_neg hne, cellCmp, cmpI]
  rw [if_neg (by omega), if_pos h]; omega
theorem nF_inj {a b : Int} (h : nF a = nF b) : a = b := by
  simp [nF] at h; exact h
def rowN (f : Int) (k : Nat) : List (List Cel) := (List.range k).map fun i : Nat => nF (f + i)
theorem rowN_succ (f : Int) (k : Nat) : rowN f (k + 1) = rowN f k ++ [nF (f + k)] := by simp [rowN, List.range_succ]
theorem rowN_len (f : Int) (k : Nat) : (rowN f k).length = k := by simp [rowN]
theorem rowN_fr {f : Int} (h1 : 0 ≤ f) (h2 : f ≤ 65535) {k : Nat} (hk : k ≤ 512) : FR (rowN f k) := by
  refine ⟨by rw [rowN_len]; exact hk, fun x hx => ?_, ?_⟩
  · obtain ⟨i, hi, rfl⟩ := List.mem_map.1 hx
    have := List.mem_range.1 hi
    exact nF_fact (by omega) (by omega)
  · unfold rowN
    rw [List.pairwise_map]
    exact List.pairwise_lt_range.imp fun {a b} h => nF_lt (by omega)
theorem rowN_minus {f : Int} (h1 : 0 ≤ f) {k : Nat} : nF (-1) ∉ rowN f k := fun h => by
  obtain ⟨i, _, e⟩ := List.mem_map.1 h
  have := nF_inj e
  omega
theorem full_1 {L : List (List Cel)} {x : List Cel} (h512 : L.length = 512) (hx : factB x = true) (hn : x ∉ L) : addE L x = 2 ∧ addF L x = [] := by
  unfold addE addF
  rw [if_pos hx, if_neg hn, if_pos (by omega), if_pos hx, if_neg hn, if_pos (by omega)]
  exact ⟨rfl, rfl⟩
theorem full_2 {L : List (List Cel)} {x : List Cel} (hF : FR L) (h512 : L.length = 512) (hx : x ∈ L) : addE L x = 0 ∧ addF L x = L ∧ dropE L x = 0 ∧ (dropF L x).length = 511 ∧ addE (dropF L x) x = 0 ∧ addF (dropF L x) x = L := by
  have hfx := hF.all x hx
  have hd := mem_dropF (l := L) (y := x) hfx hx
  have hdl : (dropF L x).length = 511 := by
    unfold dropF
    rw [if_pos hfx, if_pos hx]
    have hnd := hF.nodup
    have h1 : L.filter (fun y => !decide (y = x)) = L.erase x := by
      rw [hnd.erase_eq_filter]
      exact List.filter_congr fun y _ => by simp [bne, Bool.beq_eq_decide_eq]
    rw [h1, List.length_erase_of_mem hx, h512]
  refine ⟨addE_in hfx hx, ?_, dropE_ok hfx hx, hdl, addE_ok hfx (by omega), ?_⟩
  · unfold addF; rw [if_pos hfx, if_pos hx]
  · refine ((hF.dropF x).add x).ext hF fun y => ?_
    rw [mem_addF hfx (by omega), mem_dropF hfx hx]
    constructor
    · rintro (rfl | ⟨h, _⟩)
      · exact hx
      · exact h
    · intro h
      by_cases e : y = x
      · exact .inl e
      · exact .inr ⟨h, e⟩

set_option maxHeartbeats 4000000 in
set_option maxRecDepth 100000 in
theorem lawFull_any (hH : Head12) (f : Int) (hf : (Lit.int .u16 f).wf = true) (g : Int) (hg : (Lit.int .u16 g).wf = true) (w : World) :
    Calls Try.prog 12 #[.int .u16 f, .int .u16 g] w fun e w' => e = .returned (.bool true) ∧ Below w.heap.size w w' := by
  have HH := mkHid hH
  clear hH
  obtain ⟨f1, f2⟩ : 0 ≤ f ∧ f ≤ 65535 := by simp [Lit.wf, IntKind.min, IntKind.max, IntKind.signed, IntKind.bits] at hf; omega
  obtain ⟨g1, g2⟩ : 0 ≤ g ∧ g ≤ 65535 := by simp [Lit.wf, IntKind.min, IntKind.max, IntKind.signed, IntKind.bits] at hg; omega
  clear hf hg
  go_enter Try.func12, Try.ntmps12
  go_wp2_with fail
  refine (HH.out _).mono ?_
  rintro e w1 ⟨rfl, hb1⟩
  have hm0 := AccInv.made (α := List Cel) (B := w1.heap.size) (e := 22) (T := 22) w1 (Nat.le_refl _) rfl
  have hb0 := (Below.refl w1.heap.size w1).new (.cells #[] 22)
  go_wp2_with fail
  go_loopw [6, 7] (fun v i wr => ∃ (k : Nat) (A : List (List Cel)), k ≤ 512 ∧ A.length ≤ k ∧ i = .int .i64 k ∧ AccInv w1.heap.size 22 A v wr ∧ Below w1.heap.size w1 wr ∧ Hid (rowN f k = A)) (fun v i wr => 512 - (intOf i).toNat)
  case atStart => exact ⟨0, [], Nat.zero_le _, Nat.le_refl _, rfl, hm0, hb0, rfl⟩
  case round =>
    obtain ⟨k, A, hk, hA, rfl, hacc, hbl, HA⟩ := hrel
    by_cases hlt : k < 512
    · have HT : Hid (rowN f (k + 1) = A ++ [nF (f + k)]) := by rw [Hid, rowN_succ, HA.out]
      have hcf : (⟨2, ⟨#[]⟩, f + k⟩ : Cel).fit := ⟨by simp, by simp, by show (-9223372036854775808 : Int) ≤ f + k; omega, by show f + (k : Int) ≤ 9223372036854775807; omega, by show (0 : Nat) ≤ _; omega⟩
      have hrow := rowC1 wr ⟨2, ⟨#[]⟩, f + k⟩ hcf 79
      have hba := (Below.refl wr.heap.size wr).new (.cells #[.int .i64 2, .string ⟨#[]⟩, .int .i64 (f + k)] 79)
      have hacca := hacc.below hba
      have hbla := hbl.then hba
      clear HA
      go_wp2_with fail
      refine (p12_new ⟨#[110]⟩ (by decide) (some ⟨wr.heap.size, 0, none⟩) 1 _ [⟨2, ⟨#[]⟩, f + k⟩] hrow (by simp)).mono ?_
      rintro e w3 ⟨a3, c3, rfl, hr3, hb3⟩
      have hacc3 := hacca.below hb3
      have hrh := hacca.newer (Nat.le_refl _) hr3
      have hbl3 := hbla.then hb3
      have hsz3 := hbl3.size
      go_wp2_with (at_builtin; refine wpList_acc (α := List Cel) rfl _ _ 68 rfl w1.heap.size 22 24 _ Try.underlying68 Try.infoSl rfl (by decide) _ A hacc3 (by rfl) _ #[.slice a3 2 c3] (nF (f + k)) ⟨a3, c3, rfl, hrh⟩ (by rfl) (by omega) hsz3 ?_; intro v9 w9 hacc9 hb9)
      go_round
      case rel => exact ⟨k + 1, A ++ [nF (f + k)], by omega, by simp; omega, by go_num, hacc9, hbl3.trans hb9, HT⟩
      case measure => simp [intOf]; omega
    · obtain rfl : k = 512 := by omega
      obtain ⟨a3, c3, rfl, hr3⟩ := hacc.row
      have hF : FR A := by rw [← HA.out]; exact rowN_fr f1 f2 (Nat.le_refl _)
      have h512 : A.length = 512 := by rw [← HA.out, rowN_len]
      have hno : nF (-1) ∉ A := by rw [← HA.out]; exact rowN_minus f1
      have HF := mkHid hF
      have HR : Hid (frightB A = true) := hF.rightB
      have hmk : 0 ≤ bits .and .i64 g 511 ∧ bits .and .i64 g 511 ≤ 511 := mask g 511 (by omega)
      obtain ⟨j, hj, hj2⟩ : ∃ j : Nat, bits .and .i64 g 511 = (j : Int) ∧ j < A.length := ⟨(bits .and .i64 g 511).toNat, by have := hmk.1; omega, by have := hmk.2; rw [h512]; omega⟩
      have h1 := full_1 h512 (nF_fact (n := -1) (by omega) (by omega)) hno
      have G1 : Hid (addF A (nF (-1)) = []) := h1.2
      have G1E : Hid (addE A (nF (-1)) = 2) := h1.1
      have h2 := full_2 hF h512 (List.getElem_mem hj2)
      obtain ⟨D, hD⟩ : ∃ D, dropF A A[j] = D := ⟨_, rfl⟩
      rw [hD] at h2
      have G2 : Hid (addF A A[j] = A) := h2.2.1
      have G2E : Hid (addE A A[j] = 0) := h2.1
      have G3 : Hid (dropF A A[j] = D) := hD
      have G3E : Hid (dropE A A[j] = 0) := h2.2.2.1
      have G4 : Hid (addF D A[j] = A) := h2.2.2.2.2.2
      have G4E : Hid (addE D A[j] = 0) := h2.2.2.2.2.1
      have HFD : Hid (FR D) := by rw [Hid, ← hD]; exact hF.dropF _
      have hl1 : ((A.length : Int) == 512) = true := by rw [h512]; rfl
      have hl2 : ((D.length : Int) == 511) = true := by rw [h2.2.2.2.1]; rfl
      have hcm : (⟨2, ⟨#[]⟩, -1⟩ : Cel).fit := ⟨by simp, by simp, by simp, by simp, by show (0 : Nat) ≤ _; omega⟩
      have hrow := rowC1 wr ⟨2, ⟨#[]⟩, -1⟩ hcm 79
      have hba := (Below.refl wr.heap.size wr).new (.cells #[.int .i64 2, .string ⟨#[]⟩, .int .i64 (-1)] 79)
      have hmx := hr3.max
      have hlx := hr3.le
      clear h1 h2 hF h512 hno hD hmk HA hA hcm hk hlt
      go_wp2_with fail
      refine (p12_is (nm := ⟨#[110]⟩) (cl := ⟨3, ⟨#[110]⟩, 1⟩) (j := 2) (by decide) rfl hrow (by simp) rfl rfl).mono ?_
      rintro e w3 ⟨a4, c4, rfl, hr4, hb3⟩
      have hb03 := (hbl.then hba).then hb3
      have rA := hr3.below (hba.then hb3)
      clear hrow hba hb3 hr3 hacc
      go_wp2_with fail
      refine (addK rA hr4 HF G1 G1E).mono ?_
      rintro e w5 ⟨a5, c5, rfl, _, hb5⟩
      have rA5 := rA.below hb5
      obtain ⟨b, off, rfl, hb, hat⟩ := rA5.cases.resolve_left (fun e => by simp [e] at hj2)
      obtain ⟨ax, cx, d0, rx⟩ := list_at hat (Below.refl _ _) hj2
      go_wp2_with fail
      refine (addK rA5 rx HF G2 G2E).mono ?_
      rintro e w6 ⟨a6, c6, rfl, r6, hb6⟩
      have d1 := keep d0 hb6
      go_wp2_with fail
      refine (dropK (rA5.below hb6) (rx.below hb6) HF G3 G3E).mono ?_
      rintro e w7 ⟨a7, c7, rfl, r7, hb7⟩
      have hb67 := hb6.then hb7
      have d2 := keep d0 hb67
      go_wp2_with fail
      refine (addK r7 (rx.below hb67) HFD G4 G4E).mono ?_
      rintro e w8 ⟨a8, c8, rfl, r8, hb8⟩
      have hb68 := hb67.then hb8
      go_wp2_with fail
      refine (rightK (rA5.below hb68) HR).mono ?_
      rintro e w9 ⟨rfl, hb9⟩
      have hb69 := hb68.then hb9
      go_wp2_with fail
      refine (sameK (b := true) (r8.below hb9) (rA5.below hb69) (by rw [Hid]; exact decide_eq_true rfl)).mono ?_
      rintro e w10 ⟨rfl, hb10⟩
      go_wp2_with fail
      go_ret
      exact ⟨rfl, hb1.then (((hb03.then hb5).then hb69).then hb10)⟩
end Go.Proofs.Ytmmnfkggfnokjaa
namespace Go.Proofs.Ytmmnfkggfnokjaa
open Go.RowKit Go.ChangeShapes Go.WideShapes Go.ChangeAt
open Go.ChangeMaps (open_string)

set_option maxRecDepth 100000 in
set_option maxHeartbeats 1000000 in
theorem FactsFull_lifted (os : Os) (started : os.Started) (H : Type) (enc : TypeId × Value → H) :
    ReturnsInHanded {} Try.checked os 12 .any (Rows.factsFullSpec.pre6 enc Try.prog Try.f12 Rows.factsFullRow.domain false) (Rows.factsFullSpec.post enc Try.prog Try.f12 false true false false) := by
  refine returnsInHanded_of_change (C := Try.checked) Try.own started (by kernel_rfl) Try.func12
    (ChangeSpec.witness6 (enc := enc) (C := Try.checked) false ⟨#[], #[.int .u16 0, .int .u16 0], []⟩ 8 (by kernel_rfl) (by kernel_rfl) (by kernel_rfl) (by kernel_rfl)) ?_
  intro W base args ds gs before hval0 hW hcnd _
  have hval : ∀ (j : Nat) t v, Try.f12.params[j]? = some t → args[j]? = some v → Value.okWide Try.prog W .any base t v := hval0
  have hW' := hW
  obtain ⟨p, q, hA0, hV, rfl, hfz, hnd⟩ := hW
  have hA : DataW.TrodAll enc Try.prog W 0 (fun _ => true) true Try.f12.params.toList args.toList ds p := hA0
  rw [Try.params12] at hA hval
  obtain ⟨v0, vs0, d0, ds0, p0, q0, hargs, rfl, rfl, h0, r0⟩ := trodAll_cons hA
  obtain ⟨v1, vs1, d1, ds1, p1, q1, rfl, rfl, rfl, h1, r1⟩ := trodAll_cons r0
  obtain ⟨rfl, rfl, rfl⟩ := trodAll_nil r1
  obtain rfl : args = #[v0, v1] := by cases args; simp_all
  obtain ⟨rfl, rfl⟩ := trodVars_none hV
  have k0 := h0
  have lt0 : ∀ x ∈ p0, x.block < W.heap.size := by obtain ⟨m, hm⟩ := k0; exact DataW.trod_lt m _ _ _ hm
  obtain ⟨n0, rfl, _, _, wf0⟩ := open_int Try.underlying84 (hval 0 84 v0 rfl rfl) h0
  have k1 := h1
  have lt1 : ∀ x ∈ p1, x.block < W.heap.size := by obtain ⟨m, hm⟩ := k1; exact DataW.trod_lt m _ _ _ hm
  obtain ⟨n1, rfl, _, _, wf1⟩ := open_int Try.underlying84 (hval 1 84 v1 rfl rfl) h1
  clear hA0 hval0
  refine (lawFull_any head12_any n0 wf0 n1 wf1 W ).mono fun e W' ⟨he, bel⟩ => ?_
  subst he
  exact ⟨_, rfl, _, _, _, [], _, [], hW', trodAll_mk1 (shut_bool Try.underlying4 _), (trodAll_cons_mk (Below.trod Try.laidOut (by kernel_rfl) (of_decide_eq_true (by kernel_rfl)) k0 bel lt0) (trodAll_cons_mk (Below.trod Try.laidOut (by kernel_rfl) (of_decide_eq_true (by kernel_rfl)) k1 bel lt1) trodAll_mk0)), rfl, bel.frame _, fun h => by cases h⟩

theorem FactsFull_over : Rows.factsFullRow.holds Try.pinned (OpenSpec.ofChange Rows.factsFullSpec) :=
  OpenClaim.holds_of_wide 12 Try.f12 rfl rfl rfl rfl rfl rfl rfl ⟨rfl, rfl, rfl, rfl, rfl⟩ rfl rfl rfl rfl rfl (by kernel_rfl) Try.func12 (by kernel_rfl)
    (of_decide_eq_true (by kernel_rfl)) (by unfold Func.isWrapper; first | (rw [if_pos (by decide +kernel)]; kernel_rfl) | (rw [if_neg (by decide +kernel)]; exact ⟨rfl, rfl⟩))
    (fun os started H enc _ => FactsFull_lifted os started H enc)

theorem FactsFull_holds : Rows.FactsFullSaid := FactsFull_over
end Go.Proofs.Ytmmnfkggfnokjaa
