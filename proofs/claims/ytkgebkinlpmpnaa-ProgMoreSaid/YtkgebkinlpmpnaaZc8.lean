/-
  Of layer 7 of sorrel: whatever arguments come in, the law ProgMore returns true, and what was handed in reads as it did: more clauses have all predicates and links of fewer; and if they have levels, so have the fewer, which are no higher. No condition.
-/
import Derived.Test.YtkgebkinlpmpnaaZr5
namespace Go.Proofs.Ytkgebkinlpmpnaa
open Go.RowKit Go.Shelf Go.Lib

theorem place_is {a : Option Addr} {cap : Nat} {w : World} {l : List Pd} {p : Pd} {x : Int} (hr : Row w a cap l) (H : Hid (placeP l p = x)) :
    Calls Try.prog 37 #[.slice a l.length cap, .agg #[.string p.s, .int .i64 p.n]] w fun e w' => e = .returned (.int .i64 x) ∧ Below w.heap.size w w' :=
  (place_any a cap w l p hr).mono fun _ _ ⟨he, hb⟩ => ⟨by rw [he, H.out], hb⟩
theorem row_takeK2 {α : Type} [Rep α] {w : World} {a : Option Addr} {cap : Nat} {xs : List α} (h : Row w a cap xs) (k : Nat) : Row w a cap (xs.take k) :=
  ⟨by have := h.le; rw [List.length_take]; omega, h.max, h.nil, fun i x hi => h.at_ i x (by
    rw [List.getElem?_take] at hi
    split at hi
    · exact hi
    · cases hi)⟩
theorem any_in {α : Type} [DecidableEq α] {l : List α} {x : α} (h : x ∈ l) : l.any (fun y => decide (y = x)) = true :=
  List.any_eq_true.2 ⟨x, h, by simp⟩
def anyL (K : List Lk) (j : Nat) (x : Lk) : Bool := (K.take j).any fun y => decide (y = x)
theorem anyL_next {K : List Lk} {j : Nat} (hj : j < K.length) (x : Lk) : anyL K (j + 1) x = (anyL K j x || decide (K[j] = x)) := any_next hj
theorem anyL_end {K : List Lk} {j : Nat} (hj : K.length ≤ j) {x : Lk} (h : x ∈ K) : anyL K j x = true := by
  unfold anyL; rw [List.take_of_length_le hj]; exact any_in h
theorem anyL_nil (K : List Lk) (x : Lk) : anyL K 0 x = false := rfl
theorem set3 (B : Nat) (w : World) (x y z : Value) : Below B w (((w.setCell ⟨B, 0, none⟩ x).setCell ⟨B, 1, none⟩ y).setCell ⟨B, 2, none⟩ z) := (((Below.refl B w).setCell (Nat.le_refl _) _).setCell (Nat.le_refl _) _).setCell (Nat.le_refl _) _

set_option maxHeartbeats 16000000 in
set_option maxRecDepth 100000 in
theorem lawMore_any (w : World) (l : List Cl) (a : Option Addr) (cap : Nat) (hr : Row w a cap l) (n : Int) (wf : (Lit.int .u8 n).wf = true) :
    Calls Try.prog 10 #[.slice a l.length cap, .int .u8 n] w fun e w' => e = .returned (.bool true) ∧ Below w.heap.size w w' := by
  have hm1 := hr.max
  have hm2 := hr.le
  cases hG : greatB l with
  | true =>
    have HG := mkHid hG
    clear hG
    go_enter Try.func10, Try.ntmps10
    go_wp2_with fail
    refine (head7_any _).mono ?_; rintro e w1 ⟨rfl, hb⟩
    go_wp2_with fail
    refine (great_is (hr.below hb) HG).mono ?_; rintro e w2 ⟨rfl, rfl⟩
    go_wp2_with fail
    go_ret
    exact ⟨rfl, hb⟩
  | false =>
    have HG := mkHid hG
    have hl70 := great_len hG
    have HMM := mkHid (made_mays l)
    have hml := made_len l
    clear hG
    obtain ⟨m, hme⟩ : ∃ m, madeL l = m := ⟨_, rfl⟩
    have HME := mkHid hme
    rw [hme] at HMM hml
    clear hme
    have hn2 : 0 ≤ n ∧ n ≤ 255 := by
      simp [Lit.wf, IntKind.min, IntKind.max, IntKind.signed, IntKind.bits] at wf
      omega
    obtain ⟨k0, hk, hkl⟩ : ∃ k : Nat, Int.tmod n ((m.length : Int) + 1) = k ∧ k ≤ m.length := by
      have h1 : Int.tmod n ((m.length : Int) + 1) = n % ((m.length : Int) + 1) := Int.tmod_eq_emod_of_nonneg hn2.1
      have h2 := Int.emod_nonneg n (show ((m.length : Int) + 1) ≠ 0 by omega)
      have h3 := Int.emod_lt_of_pos n (show (0 : Int) < (m.length : Int) + 1 by omega)
      generalize n % ((m.length : Int) + 1) = r at h1 h2 h3
      exact ⟨r.toNat, by rw [h1]; omega, by omega⟩
    have hz : (((m.length : Int) + 1) == 0) = false := beq_false_of_ne (by omega)
    have hz2 : decide (((m.length : Int) + 1) = 0) = false := decide_eq_false (by omega)
    obtain ⟨g, hg⟩ : ∃ g, m.take k0 = g := ⟨_, rfl⟩
    have hgl : g.length = k0 := by rw [← hg, List.length_take]; omega
    have hgm : ∀ c ∈ g, c ∈ m := fun c hc => by rw [← hg] at hc; exact List.mem_of_mem_take hc
    have HTK : Hid (∀ W a c, Row W a c m → Row W a c g) := fun W a c h => by rw [← hg]; exact row_takeK2 h k0
    have HMG : Hid (Mays g) := fun c hc => HMM.out c (hgm c hc)
    subst hgl
    have hpl := preds_len HMM.out
    have hql := preds_len HMG.out
    have HLJ := mkHid (links_lkin g)
    have HIN : Hid (∀ j ∈ linksL g, ∀ (h1 : j.f.toNat < (predsL g).length) (h2 : j.t.toNat < (predsL g).length), (⟨placeP (predsL m) (predsL g)[j.f.toNat], placeP (predsL m) (predsL g)[j.t.toNat], j.neg⟩ : Lk) ∈ linksL m) := fun j hj h1 h2 => more_link hgm hj h1 h2
    have HLV : Hid (lvB m = true → lvB g = true ∧ (lvL m).length = (predsL m).length ∧ ∀ i (hi : i < (predsL g).length), In (predsL m).length (placeP (predsL m) (predsL g)[i]) ∧ G (lvL g) i ≤ G (lvL m) (placeP (predsL m) (predsL g)[i])) := fun h => ⟨(more_levels hgm h).1, (lv_least h).sat.len, (more_levels hgm h).2⟩
    have HLG : Hid (lvB g = true → (lvL g).length = (predsL g).length) := fun h => (lv_least h).sat.len
    obtain ⟨P, hP⟩ : ∃ P, predsL m = P := ⟨_, rfl⟩
    obtain ⟨Q, hQ⟩ : ∃ Q, predsL g = Q := ⟨_, rfl⟩
    obtain ⟨K, hK⟩ : ∃ K, linksL m = K := ⟨_, rfl⟩
    obtain ⟨J, hJ⟩ : ∃ J, linksL g = J := ⟨_, rfl⟩
    obtain ⟨L, hL⟩ : ∃ L, lvL m = L := ⟨_, rfl⟩
    obtain ⟨M, hM⟩ : ∃ M, lvL g = M := ⟨_, rfl⟩
    obtain ⟨B, hB⟩ : ∃ B, lvB m = B := ⟨_, rfl⟩
    obtain ⟨C, hC⟩ : ∃ C, lvB g = C := ⟨_, rfl⟩
    have HP := mkHid hP
    have HQ := mkHid hQ
    have HK := mkHid hK
    have HJ := mkHid hJ
    have HLM : Hid (lvL m = L ∧ lvB m = B) := ⟨hL, hB⟩
    have HLN : Hid (lvL g = M ∧ lvB g = C) := ⟨hM, hC⟩
    rw [hP] at hpl HIN HLV
    rw [hQ] at hql HLJ HIN HLV HLG
    rw [hK] at HIN
    rw [hJ] at HLJ HIN
    rw [hL, hB, hC, hM] at HLV
    rw [hC, hM] at HLG
    clear hP hQ hK hJ hL hM hB hC hg hgm
    go_enter Try.func10, Try.ntmps10
    go_wp2_with fail
    refine (head7_any _).mono ?_; rintro e w1 ⟨rfl, hb⟩
    go_wp2_with fail
    refine (great_is (hr.below hb) HG).mono ?_; rintro e w2 ⟨rfl, rfl⟩
    go_wp2_with fail
    refine (made_is (hr.below hb) (by omega) HME).mono ?_; rintro e w2 ⟨am, cm, rfl, hrm, hb2⟩
    replace hb := hb.then hb2
    have hrg := HTK.out _ _ _ hrm
    have hk1 := hrm.max
    have hk2 := hrm.le
    clear hb2
    go_wp2_with fail
    refine (predsp_is _ _ _ m P hrm HMM (by omega) HP).mono ?_; rintro e w3 ⟨aP, cP, rfl, hrP, hb3⟩
    replace hb := hb.then hb3
    replace hrm := hrm.below hb3
    replace hrg := hrg.below hb3
    go_wp2_with fail
    refine (predsp_is _ _ _ g Q hrg HMG (by omega) HQ).mono ?_; rintro e w4 ⟨aQ, cQ, rfl, hrQ, hb4⟩
    replace hb := hb.then hb4
    replace hrm := hrm.below hb4
    replace hrg := hrg.below hb4
    replace hrP := hrP.below hb4
    go_wp2_with fail
    refine (linksp_is _ _ _ m K hrm HMM (by omega) HK).mono ?_; rintro e w5 ⟨aK, cK, rfl, hrK, hb5⟩
    replace hb := hb.then hb5
    replace hrm := hrm.below hb5
    replace hrg := hrg.below hb5
    replace hrP := hrP.below hb5
    replace hrQ := hrQ.below hb5
    go_wp2_with fail
    refine (linksp_is _ _ _ g J hrg HMG (by omega) HJ).mono ?_; rintro e w6 ⟨aJ, cJ, rfl, hrJ, hb6⟩
    replace hb := hb.then hb6
    replace hrm := hrm.below hb6
    replace hrg := hrg.below hb6
    replace hrP := hrP.below hb6
    replace hrQ := hrQ.below hb6
    replace hrK := hrK.below hb6
    have hp1 := hrP.max
    have hp2 := hrP.le
    have hp3 := hrQ.max
    have hp4 := hrQ.le
    have hp5 := hrK.max
    have hp6 := hrK.le
    have hp7 := hrJ.max
    have hp8 := hrJ.le
    clear hb3 hb4 hb5 hb6
    go_wp2_with fail
    go_loopw [12] (fun i wr => ∃ k : Nat, k ≤ J.length ∧ i = .int .i64 k ∧ Below w6.heap.size w6 wr) (fun i wr => J.length - (intOf i).toNat)
    case atStart => exact ⟨0, Nat.zero_le _, rfl, Below.refl _ _⟩
    case round =>
      obtain ⟨k, hk', rfl, hbk⟩ := hrel
      replace hb := hb.then hbk
      by_cases hlt : k < J.length
      · replace hrP := hrP.below hbk
        replace hrK := hrK.below hbk
        obtain ⟨bJ, oJ, rfl, hbb, hat⟩ := hrJ.cases.resolve_left (fun e => by simp [e] at hlt)
        obtain ⟨c0, c1, c2, hlf⟩ := lk_at hat hbk hlt
        have hmem := List.getElem_mem hlt
        obtain ⟨f1, f2, t1, t2⟩ := HLJ.out _ hmem
        have hwant := HIN.out _ hmem (by omega) (by omega)
        obtain ⟨f, hf⟩ : ∃ f : Nat, J[k].f = f := ⟨J[k].f.toNat, by omega⟩
        obtain ⟨t, ht⟩ : ∃ t : Nat, J[k].t = t := ⟨J[k].t.toNat, by omega⟩
        obtain ⟨ng, hng⟩ : ∃ ng, J[k].neg = ng := ⟨_, rfl⟩
        have hfn : f < Q.length := by omega
        have htn : t < Q.length := by omega
        obtain ⟨bQ, oQ, rfl, hbQ, hatQ⟩ := hrQ.cases.resolve_left (fun e => by simp [e] at hfn)
        obtain ⟨d0, d1, _⟩ := pd_at hatQ hbk hfn
        obtain ⟨e0, e1, _⟩ := pd_at hatQ hbk htn
        simp only [hf, ht, hng, Int.toNat_natCast] at hwant
        rw [hf] at c0
        rw [ht] at c1
        rw [hng] at c2
        obtain ⟨Qf, hQf⟩ : ∃ Qf, Q[f] = Qf := ⟨_, rfl⟩
        obtain ⟨Qt, hQt⟩ : ∃ Qt, Q[t] = Qt := ⟨_, rfl⟩
        rw [hQf] at d0 d1 hwant
        rw [hQt] at e0 e1 hwant
        obtain ⟨X, hX⟩ : ∃ X, placeP P Qf = X := ⟨_, rfl⟩
        obtain ⟨Y, hY⟩ : ∃ Y, placeP P Qt = Y := ⟨_, rfl⟩
        have HX := mkHid hX
        have HY := mkHid hY
        rw [hX, hY] at hwant
        have HW := mkHid hwant
        have hf0 : (0 : Int) ≤ (f : Int) := by omega
        have hf1 : (f : Int) < (Q.length : Int) := by omega
        have ht0 : (0 : Int) ≤ (t : Int) := by omega
        have ht1 : (t : Int) < (Q.length : Int) := by omega
        have x1 : decide ((f : Int) < 0) = false := decide_eq_false (by omega)
        have x2 : decide ((Q.length : Int) ≤ (f : Int)) = false := decide_eq_false (by omega)
        have x3 : decide ((t : Int) < 0) = false := decide_eq_false (by omega)
        have x4 : decide ((Q.length : Int) ≤ (t : Int)) = false := decide_eq_false (by omega)
        have HS : Hid (∀ W', Below wr.heap.size wr W' → (fun w' : World => w'.cell? ⟨bJ, oJ + k * 3, none⟩ = some (.int .i64 (f : Int)) ∧ w'.cell? ⟨bJ, oJ + k * 3 + 1, none⟩ = some (.int .i64 (t : Int)) ∧ w'.cell? ⟨bJ, oJ + k * 3 + 2, none⟩ = some (.bool ng) ∧ w'.cell? ⟨bQ, oQ + f * 2, none⟩ = some (.string Qf.s) ∧ w'.cell? ⟨bQ, oQ + f * 2 + 1, none⟩ = some (.int .i64 Qf.n) ∧ w'.cell? ⟨bQ, oQ + t * 2, none⟩ = some (.string Qt.s) ∧ w'.cell? ⟨bQ, oQ + t * 2 + 1, none⟩ = some (.int .i64 Qt.n)) W') := fun W' h => ⟨keep c0 h, keep c1 h, keep c2 h, keep d0 h, keep d1 h, keep e0 h, keep e1 h⟩
        have hcd := (Below.refl wr.heap.size wr).drew
        clear hlf hat hbb hmem hf ht hng hQf hQt hX hY hwant hbQ hatQ f1 f2 t1 t2
        go_wp2_with fail
        refine wp_region_noPanic ?_
        refine wp_region_held_drew (S := (fun w' : World => w'.cell? ⟨bJ, oJ + k * 3, none⟩ = some (.int .i64 (f : Int)) ∧ w'.cell? ⟨bJ, oJ + k * 3 + 1, none⟩ = some (.int .i64 (t : Int)) ∧ w'.cell? ⟨bJ, oJ + k * 3 + 2, none⟩ = some (.bool ng) ∧ w'.cell? ⟨bQ, oQ + f * 2, none⟩ = some (.string Qf.s) ∧ w'.cell? ⟨bQ, oQ + f * 2 + 1, none⟩ = some (.int .i64 Qf.n) ∧ w'.cell? ⟨bQ, oQ + t * 2, none⟩ = some (.string Qt.s) ∧ w'.cell? ⟨bQ, oQ + t * 2 + 1, none⟩ = some (.int .i64 Qt.n))) (by kernel_rfl) (HS.out _ hcd) (fun hSd => ?_)
        refine wpAnyH_take (i := 0) (oi := _) (v := ?_) rfl (by kernel_rfl) (by kernel_rfl) (by kernel_rfl) (fun _ _ _ h => h) (Or.inl ⟨by rfl, ?_⟩) (by assumption) ?_
        rotate_left
        · (intro w' hSw; (try dsimp only at hSw); go_simp; try with_reducible rfl)
        (try simp only [Act.put, List.setIfInBounds_toArray, List.set_cons_zero, List.set_cons_succ])
        refine wpAnyH_take (i := 1) (oi := _) (v := ?_) rfl (by kernel_rfl) (by kernel_rfl) (by kernel_rfl) (fun _ _ _ h => h) (Or.inl ⟨by rfl, ?_⟩) (by assumption) ?_
        rotate_left
        · (intro w' hSw; (try dsimp only at hSw); go_simp; try with_reducible rfl)
        (try simp only [Act.put, List.setIfInBounds_toArray, List.set_cons_zero, List.set_cons_succ])
        refine wpAnyH_take (i := 2) (oi := _) (v := ?_) rfl (by kernel_rfl) (by kernel_rfl) (by kernel_rfl) (fun _ _ _ h => h) (Or.inl ⟨by rfl, ?_⟩) (by assumption) ?_
        rotate_left
        · (intro w' hSw; (try dsimp only at hSw); go_simp; try with_reducible rfl)
        (try simp only [Act.put, List.setIfInBounds_toArray, List.set_cons_zero, List.set_cons_succ])
        refine wpAnyH_take (i := 3) (oi := _) (v := ?_) rfl (by kernel_rfl) (by kernel_rfl) (by kernel_rfl) (fun _ _ _ h => h) (Or.inl ⟨by rfl, ?_⟩) (by assumption) ?_
        rotate_left
        · (intro w' hSw; (try dsimp only at hSw); go_simp; try with_reducible rfl)
        (try simp only [Act.put, List.setIfInBounds_toArray, List.set_cons_zero, List.set_cons_succ])
        refine wpAnyH_take (i := 4) (oi := _) (v := ?_) rfl (by kernel_rfl) (by kernel_rfl) (by kernel_rfl) (fun _ _ _ h => h) (Or.inl ⟨by rfl, ?_⟩) (by assumption) ?_
        rotate_left
        · (intro w' hSw; (try dsimp only at hSw); go_simp; try with_reducible rfl)
        (try simp only [Act.put, List.setIfInBounds_toArray, List.set_cons_zero, List.set_cons_succ])
        refine wpAnyH_take (i := 5) (oi := _) (v := ?_) rfl (by kernel_rfl) (by kernel_rfl) (by kernel_rfl) (fun _ _ _ h => h) (Or.inl ⟨by rfl, ?_⟩) (by assumption) ?_
        rotate_left
        · (intro w' hSw; (try dsimp only at hSw); go_simp; try with_reducible rfl)
        (try simp only [Act.put, List.setIfInBounds_toArray, List.set_cons_zero, List.set_cons_succ])
        refine wpAnyH_take (i := 6) (oi := _) (v := ?_) rfl (by kernel_rfl) (by kernel_rfl) (by kernel_rfl) (fun _ _ _ h => h) (Or.inl ⟨by rfl, ?_⟩) (by assumption) ?_
        rotate_left
        · (intro w' hSw; (try dsimp only at hSw); go_simp; try with_reducible rfl)
        (try simp only [Act.put, List.setIfInBounds_toArray, List.set_cons_zero, List.set_cons_succ])
        refine wpAnyH_take (i := 7) (oi := _) (v := ?_) rfl (by kernel_rfl) (by kernel_rfl) (by kernel_rfl) (fun _ _ _ h => h) (Or.inl ⟨by rfl, ?_⟩) (by assumption) ?_
        rotate_left
        · (intro w' hSw; (try dsimp only at hSw); go_simp; try with_reducible rfl)
        (try simp only [Act.put, List.setIfInBounds_toArray, List.set_cons_zero, List.set_cons_succ])
        refine wpAnyH_take (i := 8) (oi := _) (v := ?_) rfl (by kernel_rfl) (by kernel_rfl) (by kernel_rfl) (fun _ _ _ h => h) (Or.inl ⟨by rfl, ?_⟩) (by assumption) ?_
        rotate_left
        · (intro w' hSw; (try dsimp only at hSw); go_simp; try with_reducible rfl)
        (try simp only [Act.put, List.setIfInBounds_toArray, List.set_cons_zero, List.set_cons_succ])
        refine wpAnyH_take (i := 10) (oi := _) (v := ?_) rfl (by kernel_rfl) (by kernel_rfl) (by kernel_rfl) (fun _ _ _ h => h) (Or.inl ⟨by rfl, ?_⟩) (by assumption) ?_
        rotate_left
        · (intro w' hSw; (try dsimp only at hSw); go_simp; try with_reducible rfl)
        (try simp only [Act.put, List.setIfInBounds_toArray, List.set_cons_zero, List.set_cons_succ])
        refine wpAnyH_take (i := 11) (oi := _) (v := ?_) rfl (by kernel_rfl) (by kernel_rfl) (by kernel_rfl) (fun _ _ _ h => h) (Or.inl ⟨by rfl, ?_⟩) (by assumption) ?_
        rotate_left
        · (intro w' hSw; (try dsimp only at hSw); go_simp; try with_reducible rfl)
        (try simp only [Act.put, List.setIfInBounds_toArray, List.set_cons_zero, List.set_cons_succ])
        refine wpAnyH_take (i := 12) (oi := _) (v := ?_) rfl (by kernel_rfl) (by kernel_rfl) (by kernel_rfl) (fun _ _ _ h => h) (Or.inl ⟨by rfl, ?_⟩) (by assumption) ?_
        rotate_left
        · (intro w' hSw; (try dsimp only at hSw); go_simp; try with_reducible rfl)
        (try simp only [Act.put, List.setIfInBounds_toArray, List.set_cons_zero, List.set_cons_succ])
        refine wpAnyH_take (i := 13) (oi := _) (v := ?_) rfl (by kernel_rfl) (by kernel_rfl) (by kernel_rfl) (fun _ _ _ h => h) (Or.inl ⟨by rfl, ?_⟩) (by assumption) ?_
        rotate_left
        · (intro w' hSw; (try dsimp only at hSw); go_simp; try with_reducible rfl)
        (try simp only [Act.put, List.setIfInBounds_toArray, List.set_cons_zero, List.set_cons_succ])
        refine wpAnyH_take (i := 14) (oi := _) (v := ?_) rfl (by kernel_rfl) (by kernel_rfl) (by kernel_rfl) (fun _ _ _ h => h) (Or.inl ⟨by rfl, ?_⟩) (by assumption) ?_
        rotate_left
        · (intro w' hSw; (try dsimp only at hSw); go_simp; try with_reducible rfl)
        (try simp only [Act.put, List.setIfInBounds_toArray, List.set_cons_zero, List.set_cons_succ])
        refine wpAnyH_take (i := 15) (oi := _) (v := ?_) rfl (by kernel_rfl) (by kernel_rfl) (by kernel_rfl) (fun _ _ _ h => h) (Or.inl ⟨by rfl, ?_⟩) (by assumption) ?_
        rotate_left
        · (intro w' hSw; (try dsimp only at hSw); go_simp; try with_reducible rfl)
        (try simp only [Act.put, List.setIfInBounds_toArray, List.set_cons_zero, List.set_cons_succ])
        refine wpAnyH_take (i := 16) (oi := _) (v := ?_) rfl (by kernel_rfl) (by kernel_rfl) (by kernel_rfl) (fun _ _ _ h => h) (Or.inl ⟨by rfl, ?_⟩) (by assumption) ?_
        rotate_left
        · (intro w' hSw; (try dsimp only at hSw); go_simp; try with_reducible rfl)
        (try simp only [Act.put, List.setIfInBounds_toArray, List.set_cons_zero, List.set_cons_succ])
        refine wpAnyH_take (i := 17) (oi := _) (v := ?_) rfl (by kernel_rfl) (by kernel_rfl) (by kernel_rfl) (fun _ _ _ h => h) (Or.inl ⟨by rfl, ?_⟩) (by assumption) ?_
        rotate_left
        · (intro w' hSw; (try dsimp only at hSw); go_simp; try with_reducible rfl)
        (try simp only [Act.put, List.setIfInBounds_toArray, List.set_cons_zero, List.set_cons_succ])
        refine wpAnyH_take (i := 18) (oi := _) (v := ?_) rfl (by kernel_rfl) (by kernel_rfl) (by kernel_rfl) (fun _ _ _ h => h) (Or.inl ⟨by rfl, ?_⟩) (by assumption) ?_
        rotate_left
        · (intro w' hSw; (try dsimp only at hSw); go_simp; try with_reducible rfl)
        (try simp only [Act.put, List.setIfInBounds_toArray, List.set_cons_zero, List.set_cons_succ])
        refine wpAnyH_take (i := 20) (oi := _) (v := ?_) rfl (by kernel_rfl) (by kernel_rfl) (by kernel_rfl) (fun _ _ _ h => h) (Or.inl ⟨by rfl, ?_⟩) (by assumption) ?_
        rotate_left
        · (intro w' hSw; (try dsimp only at hSw); go_simp; try with_reducible rfl)
        (try simp only [Act.put, List.setIfInBounds_toArray, List.set_cons_zero, List.set_cons_succ])
        refine wpAnyH_take (i := 21) (oi := _) (v := ?_) rfl (by kernel_rfl) (by kernel_rfl) (by kernel_rfl) (fun _ _ _ h => h) (Or.inl ⟨by rfl, ?_⟩) (by assumption) ?_
        rotate_left
        · (intro w' hSw; (try dsimp only at hSw); go_simp; try with_reducible rfl)
        (try simp only [Act.put, List.setIfInBounds_toArray, List.set_cons_zero, List.set_cons_succ])
        refine wpAnyH_take (i := 22) (oi := _) (v := ?_) rfl (by kernel_rfl) (by kernel_rfl) (by kernel_rfl) (fun _ _ _ h => h) (Or.inl ⟨by rfl, ?_⟩) (by assumption) ?_
        rotate_left
        · (intro w' hSw; (try dsimp only at hSw); go_simp; try with_reducible rfl)
        (try simp only [Act.put, List.setIfInBounds_toArray, List.set_cons_zero, List.set_cons_succ])
        refine wpAnyH_take (i := 23) (oi := _) (v := ?_) rfl (by kernel_rfl) (by kernel_rfl) (by kernel_rfl) (fun _ _ _ h => h) (Or.inl ⟨by rfl, ?_⟩) (by assumption) ?_
        rotate_left
        · (intro w' hSw; (try dsimp only at hSw); go_simp; try with_reducible rfl)
        (try simp only [Act.put, List.setIfInBounds_toArray, List.set_cons_zero, List.set_cons_succ])
        refine wpAnyH_take (i := 24) (oi := _) (v := ?_) rfl (by kernel_rfl) (by kernel_rfl) (by kernel_rfl) (fun _ _ _ h => h) (Or.inl ⟨by rfl, ?_⟩) (by assumption) ?_
        rotate_left
        · (intro w' hSw; (try dsimp only at hSw); go_simp; try with_reducible rfl)
        (try simp only [Act.put, List.setIfInBounds_toArray, List.set_cons_zero, List.set_cons_succ])
        refine wpAnyH_ready (rs := [9, 26]) (by kernel_rfl) (by simp) ?_
        refine AllReadyH.cons (o := _) rfl (fun Kq hKq => ?_) ?_
        rotate_left
        · refine AllReadyH.cons (o := _) rfl (fun Kq hKq => ?_) AllReadyH.nil
          go_simp
          have hcA : Below wr.heap.size wr ((wr.alloc (.cells #[.int .i64 0, .int .i64 0, .bool false] 57)).drew) := ((Below.refl wr.heap.size wr).new _).drew
          have al0 : ((wr.alloc (.cells #[.int .i64 0, .int .i64 0, .bool false] 57)).drew).cell? ⟨wr.heap.size, 0, none⟩ = some (.int .i64 0) := World.cell?_alloc_at _ _ _ 0 rfl
          have al1 : ((wr.alloc (.cells #[.int .i64 0, .int .i64 0, .bool false] 57)).drew).cell? ⟨wr.heap.size, 1, none⟩ = some (.int .i64 0) := World.cell?_alloc_at _ _ _ 1 rfl
          have al2 : ((wr.alloc (.cells #[.int .i64 0, .int .i64 0, .bool false] 57)).drew).cell? ⟨wr.heap.size, 2, none⟩ = some (.bool false) := World.cell?_alloc_at _ _ _ 2 rfl
          have az0 : ((wr.alloc (.cells #[.int .i64 0, .int .i64 0, .bool false] 57)).drew).frozen? ⟨wr.heap.size, 0, none⟩ = false := by simp [go_sem]
          have az1 : ((wr.alloc (.cells #[.int .i64 0, .int .i64 0, .bool false] 57)).drew).frozen? ⟨wr.heap.size, 1, none⟩ = false := by simp [go_sem]
          have az2 : ((wr.alloc (.cells #[.int .i64 0, .int .i64 0, .bool false] 57)).drew).frozen? ⟨wr.heap.size, 2, none⟩ = false := by simp [go_sem]
          try dsimp only
          refine hKq.out _ _ (HS.out _ hcA) (fun _ => ?_)
          clear hKq Kq
          (try simp only [Act.put, List.setIfInBounds_toArray, List.set_cons_zero, List.set_cons_succ])
          generalize (wr.alloc (.cells #[.int .i64 0, .int .i64 0, .bool false] 57)).drew = WA at *
          refine wpAnyH_ready (rs := [9]) (by kernel_rfl) (by simp) ?_
          refine AllReadyH.cons (o := _) rfl (fun Kq hKq => ?_) AllReadyH.nil
          go_simp
          refine (place_is (hrP.below hcA) HX).mono ?_
          rintro e V1 ⟨rfl, hv1⟩
          have hc1 := (hcA).then hv1
          replace az0 := (hv1.frozen (p := ⟨wr.heap.size, 0, none⟩) (cell_lt al0)).trans az0
          replace az1 := (hv1.frozen (p := ⟨wr.heap.size, 1, none⟩) (cell_lt al1)).trans az1
          replace az2 := (hv1.frozen (p := ⟨wr.heap.size, 2, none⟩) (cell_lt al2)).trans az2
          replace al0 := keep al0 hv1
          replace al1 := keep al1 hv1
          replace al2 := keep al2 hv1
          try dsimp only
          refine hKq.out _ _ (HS.out _ hc1) (fun _ => ?_)
          clear hKq Kq
          (try simp only [Act.put, List.setIfInBounds_toArray, List.set_cons_zero, List.set_cons_succ])
          refine wpAnyH_ready (rs := [19]) (by kernel_rfl) (by simp) ?_
          refine AllReadyH.cons (o := _) rfl (fun Kq hKq => ?_) AllReadyH.nil
          go_simp
          refine (place_is (hrP.below hc1) HY).mono ?_
          rintro e V2 ⟨rfl, hv2⟩
          have hc2 := (hc1).then hv2
          replace az0 := (hv2.frozen (p := ⟨wr.heap.size, 0, none⟩) (cell_lt al0)).trans az0
          replace az1 := (hv2.frozen (p := ⟨wr.heap.size, 1, none⟩) (cell_lt al1)).trans az1
          replace az2 := (hv2.frozen (p := ⟨wr.heap.size, 2, none⟩) (cell_lt al2)).trans az2
          replace al0 := keep al0 hv2
          replace al1 := keep al1 hv2
          replace al2 := keep al2 hv2
          try dsimp only
          refine hKq.out _ _ (HS.out _ hc2) (fun _ => ?_)
          clear hKq Kq
          (try simp only [Act.put, List.setIfInBounds_toArray, List.set_cons_zero, List.set_cons_succ])
          refine wpAnyH_take (i := 25) (oi := _) (v := ?_) rfl (by kernel_rfl) (by kernel_rfl) (by kernel_rfl) (fun _ _ _ h => h) (Or.inl ⟨by rfl, ?_⟩) (by assumption) ?_
          rotate_left
          · (intro w' hSw; (try dsimp only at hSw); go_simp; try with_reducible rfl)
          (try simp only [Act.put, List.setIfInBounds_toArray, List.set_cons_zero, List.set_cons_succ])
          have hcz : Below wr.heap.size wr (((V2.setCell ⟨wr.heap.size, 0, none⟩ (.int .i64 X)).setCell ⟨wr.heap.size, 1, none⟩ (.int .i64 Y)).setCell ⟨wr.heap.size, 2, none⟩ (.bool ng)) := (hc2).trans ((set3 wr.heap.size V2 _ _ _).mono (Nat.le_refl _))
          refine wpAnyH_ready (rs := [27]) (by kernel_rfl) (by simp) ?_
          refine AllReadyH.cons (o := _) rfl (fun Kq hKq => ?_) AllReadyH.nil
          go_simp
          try dsimp only
          refine hKq.out _ _ (HS.out _ hcz) (fun _ => ?_)
          clear hKq Kq
          (try simp only [Act.put, List.setIfInBounds_toArray, List.set_cons_zero, List.set_cons_succ])
          refine wpAnyH_done (by kernel_rfl) (NoPanic.normal ?_) _
          have z0 : (((V2.setCell ⟨wr.heap.size, 0, none⟩ (.int .i64 X)).setCell ⟨wr.heap.size, 1, none⟩ (.int .i64 Y)).setCell ⟨wr.heap.size, 2, none⟩ (.bool ng)).cell? ⟨wr.heap.size, 0, none⟩ = some (.int .i64 X) := by go_simp
          have z1 : (((V2.setCell ⟨wr.heap.size, 0, none⟩ (.int .i64 X)).setCell ⟨wr.heap.size, 1, none⟩ (.int .i64 Y)).setCell ⟨wr.heap.size, 2, none⟩ (.bool ng)).cell? ⟨wr.heap.size, 1, none⟩ = some (.int .i64 Y) := by go_simp
          have z2 : (((V2.setCell ⟨wr.heap.size, 0, none⟩ (.int .i64 X)).setCell ⟨wr.heap.size, 1, none⟩ (.int .i64 Y)).setCell ⟨wr.heap.size, 2, none⟩ (.bool ng)).cell? ⟨wr.heap.size, 2, none⟩ = some (.bool ng) := by go_simp
          generalize ((V2.setCell ⟨wr.heap.size, 0, none⟩ (.int .i64 X)).setCell ⟨wr.heap.size, 1, none⟩ (.int .i64 Y)).setCell ⟨wr.heap.size, 2, none⟩ (.bool ng) = Wz at z0 z1 z2 hcz ⊢
          generalize wr.heap.size = bz at z0 z1 z2 ⊢
          clear al0 al1 al2 az0 az1 az2
          clear HX HY HS hcd d0 d1 e0 e1 c0 c1 c2
          replace hb := hb.then hcz
          have hrKz := hrK.below hcz
          have hb6z := hbk.then hcz
          clear hcz
          go_wp2_with fail
          go_loopw [14, 15] (fun v i wz => ∃ (j : Nat) (rb : Bool), j ≤ K.length ∧ i = .int .i64 j ∧ v = .bool rb ∧ Hid (anyL K j ⟨X, Y, ng⟩ = rb) ∧ Below Wz.heap.size Wz wz) (fun v i wz => K.length - (intOf i).toNat)
          case atStart => exact ⟨0, false, Nat.zero_le _, rfl, rfl, rfl, Below.refl _ _⟩
          case round =>
            obtain ⟨j, rb, hj, rfl, rfl, HR, hbj⟩ := hrel
            by_cases hjl : j < K.length
            · obtain ⟨bK, oK, rfl, hbK, hatK⟩ := hrKz.cases.resolve_left (fun e => by simp [e] at hjl)
              obtain ⟨g0, g1, g2, _⟩ := lk_at hatK hbj hjl
              have y0 := keep z0 hbj
              have y1 := keep z1 hbj
              have y2 := keep z2 hbj
              have hnx : anyL K (j + 1) ⟨X, Y, ng⟩ = (rb || decide (K[j] = (⟨X, Y, ng⟩ : Lk))) := by rw [anyL_next hjl, HR.out]
              have hq : ∀ W, (binOp .eql 57 (.agg #[.int .i64 K[j].f, .int .i64 K[j].t, .bool K[j].neg]) (.agg #[.int .i64 X, .int .i64 Y, .bool ng])).run Try.prog W = .ok (.bool (decide (K[j] = (⟨X, Y, ng⟩ : Lk)))) W := fun W => run_eql_lk K[j] ⟨X, Y, ng⟩ W
              obtain ⟨bq, hbq⟩ : ∃ bq, decide (K[j] = (⟨X, Y, ng⟩ : Lk)) = bq := ⟨_, rfl⟩
              rw [hbq] at hq hnx
              have HNX := mkHid hnx
              clear hbq hnx HR hatK hbK
              cases rb with
              | true =>
                have HT : Hid (anyL K (j + 1) ⟨X, Y, ng⟩ = true) := by rw [Hid, HNX.out]; rfl
                go_wp2_with fail
                go_quiet (fail)
                go_wp2_with fail
                exact ⟨⟨j + 1, true, by omega, by go_num, rfl, HT, hbj.trans ((drewN_below _ _).mono hbj.size)⟩, by simp [intOf]; omega⟩
              | false =>
                have HT : Hid (anyL K (j + 1) ⟨X, Y, ng⟩ = bq) := by rw [Hid, HNX.out]; rfl
                go_wp2_with fail
                go_quiet (fail)
                go_wp2_with fail
                exact ⟨⟨j + 1, bq, by omega, by go_num, rfl, HT, hbj.trans ((drewN_below _ _).mono hbj.size)⟩, by simp [intOf]; omega⟩
            · obtain rfl : rb = true := by
                have h1 := HR.out
                rw [anyL_end (by omega) HW.out] at h1
                exact h1.symm
              clear HR
              go_wp2_with fail
              go_round
              case rel => exact ⟨k + 1, by omega, by go_num, hb6z.then hbj⟩
              case measure => simp [intOf]; omega
        · go_simp
          refine (place_is (hrP.below hcd) HX).mono ?_
          rintro e V1 ⟨rfl, hv1⟩
          have hc1 := (hcd).then hv1
          try dsimp only
          refine hKq.out _ _ (HS.out _ hc1) (fun _ => ?_)
          clear hKq Kq
          (try simp only [Act.put, List.setIfInBounds_toArray, List.set_cons_zero, List.set_cons_succ])
          refine wpAnyH_ready (rs := [19, 26]) (by kernel_rfl) (by simp) ?_
          refine AllReadyH.cons (o := _) rfl (fun Kq hKq => ?_) ?_
          rotate_left
          · refine AllReadyH.cons (o := _) rfl (fun Kq hKq => ?_) AllReadyH.nil
            go_simp
            have hcA : Below wr.heap.size wr (V1.alloc (.cells #[.int .i64 0, .int .i64 0, .bool false] 57)) := (hc1).new _
            have ho1 := hc1.size
            have al0 : (V1.alloc (.cells #[.int .i64 0, .int .i64 0, .bool false] 57)).cell? ⟨V1.heap.size, 0, none⟩ = some (.int .i64 0) := World.cell?_alloc_at _ _ _ 0 rfl
            have al1 : (V1.alloc (.cells #[.int .i64 0, .int .i64 0, .bool false] 57)).cell? ⟨V1.heap.size, 1, none⟩ = some (.int .i64 0) := World.cell?_alloc_at _ _ _ 1 rfl
            have al2 : (V1.alloc (.cells #[.int .i64 0, .int .i64 0, .bool false] 57)).cell? ⟨V1.heap.size, 2, none⟩ = some (.bool false) := World.cell?_alloc_at _ _ _ 2 rfl
            have az0 : (V1.alloc (.cells #[.int .i64 0, .int .i64 0, .bool false] 57)).frozen? ⟨V1.heap.size, 0, none⟩ = false := by simp [go_sem]
            have az1 : (V1.alloc (.cells #[.int .i64 0, .int .i64 0, .bool false] 57)).frozen? ⟨V1.heap.size, 1, none⟩ = false := by simp [go_sem]
            have az2 : (V1.alloc (.cells #[.int .i64 0, .int .i64 0, .bool false] 57)).frozen? ⟨V1.heap.size, 2, none⟩ = false := by simp [go_sem]
            try dsimp only
            refine hKq.out _ _ (HS.out _ hcA) (fun _ => ?_)
            clear hKq Kq
            (try simp only [Act.put, List.setIfInBounds_toArray, List.set_cons_zero, List.set_cons_succ])
            generalize V1.alloc (.cells #[.int .i64 0, .int .i64 0, .bool false] 57) = WA at *
            refine wpAnyH_ready (rs := [19]) (by kernel_rfl) (by simp) ?_
            refine AllReadyH.cons (o := _) rfl (fun Kq hKq => ?_) AllReadyH.nil
            go_simp
            refine (place_is (hrP.below hcA) HY).mono ?_
            rintro e V2 ⟨rfl, hv2⟩
            have hc2 := (hcA).then hv2
            replace az0 := (hv2.frozen (p := ⟨V1.heap.size, 0, none⟩) (cell_lt al0)).trans az0
            replace az1 := (hv2.frozen (p := ⟨V1.heap.size, 1, none⟩) (cell_lt al1)).trans az1
            replace az2 := (hv2.frozen (p := ⟨V1.heap.size, 2, none⟩) (cell_lt al2)).trans az2
            replace al0 := keep al0 hv2
            replace al1 := keep al1 hv2
            replace al2 := keep al2 hv2
            try dsimp only
            refine hKq.out _ _ (HS.out _ hc2) (fun _ => ?_)
            clear hKq Kq
            (try simp only [Act.put, List.setIfInBounds_toArray, List.set_cons_zero, List.set_cons_succ])
            refine wpAnyH_take (i := 25) (oi := _) (v := ?_) rfl (by kernel_rfl) (by kernel_rfl) (by kernel_rfl) (fun _ _ _ h => h) (Or.inl ⟨by rfl, ?_⟩) (by assumption) ?_
            rotate_left
            · (intro w' hSw; (try dsimp only at hSw); go_simp; try with_reducible rfl)
            (try simp only [Act.put, List.setIfInBounds_toArray, List.set_cons_zero, List.set_cons_succ])
            have hcz : Below wr.heap.size wr (((V2.setCell ⟨V1.heap.size, 0, none⟩ (.int .i64 X)).setCell ⟨V1.heap.size, 1, none⟩ (.int .i64 Y)).setCell ⟨V1.heap.size, 2, none⟩ (.bool ng)) := (hc2).trans ((set3 V1.heap.size V2 _ _ _).mono (ho1))
            refine wpAnyH_ready (rs := [27]) (by kernel_rfl) (by simp) ?_
            refine AllReadyH.cons (o := _) rfl (fun Kq hKq => ?_) AllReadyH.nil
            go_simp
            try dsimp only
            refine hKq.out _ _ (HS.out _ hcz) (fun _ => ?_)
            clear hKq Kq
            (try simp only [Act.put, List.setIfInBounds_toArray, List.set_cons_zero, List.set_cons_succ])
            refine wpAnyH_done (by kernel_rfl) (NoPanic.normal ?_) _
            have z0 : (((V2.setCell ⟨V1.heap.size, 0, none⟩ (.int .i64 X)).setCell ⟨V1.heap.size, 1, none⟩ (.int .i64 Y)).setCell ⟨V1.heap.size, 2, none⟩ (.bool ng)).cell? ⟨V1.heap.size, 0, none⟩ = some (.int .i64 X) := by go_simp
            have z1 : (((V2.setCell ⟨V1.heap.size, 0, none⟩ (.int .i64 X)).setCell ⟨V1.heap.size, 1, none⟩ (.int .i64 Y)).setCell ⟨V1.heap.size, 2, none⟩ (.bool ng)).cell? ⟨V1.heap.size, 1, none⟩ = some (.int .i64 Y) := by go_simp
            have z2 : (((V2.setCell ⟨V1.heap.size, 0, none⟩ (.int .i64 X)).setCell ⟨V1.heap.size, 1, none⟩ (.int .i64 Y)).setCell ⟨V1.heap.size, 2, none⟩ (.bool ng)).cell? ⟨V1.heap.size, 2, none⟩ = some (.bool ng) := by go_simp
            generalize ((V2.setCell ⟨V1.heap.size, 0, none⟩ (.int .i64 X)).setCell ⟨V1.heap.size, 1, none⟩ (.int .i64 Y)).setCell ⟨V1.heap.size, 2, none⟩ (.bool ng) = Wz at z0 z1 z2 hcz ⊢
            generalize V1.heap.size = bz at z0 z1 z2 ⊢
            clear al0 al1 al2 az0 az1 az2
            clear HX HY HS hcd d0 d1 e0 e1 c0 c1 c2
            replace hb := hb.then hcz
            have hrKz := hrK.below hcz
            have hb6z := hbk.then hcz
            clear hcz
            go_wp2_with fail
            go_loopw [14, 15] (fun v i wz => ∃ (j : Nat) (rb : Bool), j ≤ K.length ∧ i = .int .i64 j ∧ v = .bool rb ∧ Hid (anyL K j ⟨X, Y, ng⟩ = rb) ∧ Below Wz.heap.size Wz wz) (fun v i wz => K.length - (intOf i).toNat)
            case atStart => exact ⟨0, false, Nat.zero_le _, rfl, rfl, rfl, Below.refl _ _⟩
            case round =>
              obtain ⟨j, rb, hj, rfl, rfl, HR, hbj⟩ := hrel
              by_cases hjl : j < K.length
              · obtain ⟨bK, oK, rfl, hbK, hatK⟩ := hrKz.cases.resolve_left (fun e => by simp [e] at hjl)
                obtain ⟨g0, g1, g2, _⟩ := lk_at hatK hbj hjl
                have y0 := keep z0 hbj
                have y1 := keep z1 hbj
                have y2 := keep z2 hbj
                have hnx : anyL K (j + 1) ⟨X, Y, ng⟩ = (rb || decide (K[j] = (⟨X, Y, ng⟩ : Lk))) := by rw [anyL_next hjl, HR.out]
                have hq : ∀ W, (binOp .eql 57 (.agg #[.int .i64 K[j].f, .int .i64 K[j].t, .bool K[j].neg]) (.agg #[.int .i64 X, .int .i64 Y, .bool ng])).run Try.prog W = .ok (.bool (decide (K[j] = (⟨X, Y, ng⟩ : Lk)))) W := fun W => run_eql_lk K[j] ⟨X, Y, ng⟩ W
                obtain ⟨bq, hbq⟩ : ∃ bq, decide (K[j] = (⟨X, Y, ng⟩ : Lk)) = bq := ⟨_, rfl⟩
                rw [hbq] at hq hnx
                have HNX := mkHid hnx
                clear hbq hnx HR hatK hbK
                cases rb with
                | true =>
                  have HT : Hid (anyL K (j + 1) ⟨X, Y, ng⟩ = true) := by rw [Hid, HNX.out]; rfl
                  go_wp2_with fail
                  go_quiet (fail)
                  go_wp2_with fail
                  exact ⟨⟨j + 1, true, by omega, by go_num, rfl, HT, hbj.trans ((drewN_below _ _).mono hbj.size)⟩, by simp [intOf]; omega⟩
                | false =>
                  have HT : Hid (anyL K (j + 1) ⟨X, Y, ng⟩ = bq) := by rw [Hid, HNX.out]; rfl
                  go_wp2_with fail
                  go_quiet (fail)
                  go_wp2_with fail
                  exact ⟨⟨j + 1, bq, by omega, by go_num, rfl, HT, hbj.trans ((drewN_below _ _).mono hbj.size)⟩, by simp [intOf]; omega⟩
              · obtain rfl : rb = true := by
                  have h1 := HR.out
                  rw [anyL_end (by omega) HW.out] at h1
                  exact h1.symm
                clear HR
                go_wp2_with fail
                go_round
                case rel => exact ⟨k + 1, by omega, by go_num, hb6z.then hbj⟩
                case measure => simp [intOf]; omega
          · go_simp
            refine (place_is (hrP.below hc1) HY).mono ?_
            rintro e V2 ⟨rfl, hv2⟩
            have hc2 := (hc1).then hv2
            try dsimp only
            refine hKq.out _ _ (HS.out _ hc2) (fun _ => ?_)
            clear hKq Kq
            (try simp only [Act.put, List.setIfInBounds_toArray, List.set_cons_zero, List.set_cons_succ])
            refine wpAnyH_take (i := 25) (oi := _) (v := ?_) rfl (by kernel_rfl) (by kernel_rfl) (by kernel_rfl) (fun _ _ _ h => h) (Or.inl ⟨by rfl, ?_⟩) (by assumption) ?_
            rotate_left
            · (intro w' hSw; (try dsimp only at hSw); go_simp; try with_reducible rfl)
            (try simp only [Act.put, List.setIfInBounds_toArray, List.set_cons_zero, List.set_cons_succ])
            refine wpAnyH_ready (rs := [26]) (by kernel_rfl) (by simp) ?_
            refine AllReadyH.cons (o := _) rfl (fun Kq hKq => ?_) AllReadyH.nil
            go_simp
            have hcA : Below wr.heap.size wr (V2.alloc (.cells #[.int .i64 0, .int .i64 0, .bool false] 57)) := (hc2).new _
            have ho2 := hc2.size
            have al0 : (V2.alloc (.cells #[.int .i64 0, .int .i64 0, .bool false] 57)).cell? ⟨V2.heap.size, 0, none⟩ = some (.int .i64 0) := World.cell?_alloc_at _ _ _ 0 rfl
            have al1 : (V2.alloc (.cells #[.int .i64 0, .int .i64 0, .bool false] 57)).cell? ⟨V2.heap.size, 1, none⟩ = some (.int .i64 0) := World.cell?_alloc_at _ _ _ 1 rfl
            have al2 : (V2.alloc (.cells #[.int .i64 0, .int .i64 0, .bool false] 57)).cell? ⟨V2.heap.size, 2, none⟩ = some (.bool false) := World.cell?_alloc_at _ _ _ 2 rfl
            have az0 : (V2.alloc (.cells #[.int .i64 0, .int .i64 0, .bool false] 57)).frozen? ⟨V2.heap.size, 0, none⟩ = false := by simp [go_sem]
            have az1 : (V2.alloc (.cells #[.int .i64 0, .int .i64 0, .bool false] 57)).frozen? ⟨V2.heap.size, 1, none⟩ = false := by simp [go_sem]
            have az2 : (V2.alloc (.cells #[.int .i64 0, .int .i64 0, .bool false] 57)).frozen? ⟨V2.heap.size, 2, none⟩ = false := by simp [go_sem]
            try dsimp only
            refine hKq.out _ _ (HS.out _ hcA) (fun _ => ?_)
            clear hKq Kq
            (try simp only [Act.put, List.setIfInBounds_toArray, List.set_cons_zero, List.set_cons_succ])
            generalize hWA : V2.alloc (.cells #[.int .i64 0, .int .i64 0, .bool false] 57) = WA at *
            have hcz : Below wr.heap.size wr (((WA.setCell ⟨V2.heap.size, 0, none⟩ (.int .i64 X)).setCell ⟨V2.heap.size, 1, none⟩ (.int .i64 Y)).setCell ⟨V2.heap.size, 2, none⟩ (.bool ng)) := (hcA).trans ((set3 V2.heap.size WA _ _ _).mono (ho2))
            refine wpAnyH_ready (rs := [27]) (by kernel_rfl) (by simp) ?_
            refine AllReadyH.cons (o := _) rfl (fun Kq hKq => ?_) AllReadyH.nil
            go_simp
            try dsimp only
            refine hKq.out _ _ (HS.out _ hcz) (fun _ => ?_)
            clear hKq Kq
            (try simp only [Act.put, List.setIfInBounds_toArray, List.set_cons_zero, List.set_cons_succ])
            refine wpAnyH_done (by kernel_rfl) (NoPanic.normal ?_) _
            have z0 : (((WA.setCell ⟨V2.heap.size, 0, none⟩ (.int .i64 X)).setCell ⟨V2.heap.size, 1, none⟩ (.int .i64 Y)).setCell ⟨V2.heap.size, 2, none⟩ (.bool ng)).cell? ⟨V2.heap.size, 0, none⟩ = some (.int .i64 X) := by go_simp
            have z1 : (((WA.setCell ⟨V2.heap.size, 0, none⟩ (.int .i64 X)).setCell ⟨V2.heap.size, 1, none⟩ (.int .i64 Y)).setCell ⟨V2.heap.size, 2, none⟩ (.bool ng)).cell? ⟨V2.heap.size, 1, none⟩ = some (.int .i64 Y) := by go_simp
            have z2 : (((WA.setCell ⟨V2.heap.size, 0, none⟩ (.int .i64 X)).setCell ⟨V2.heap.size, 1, none⟩ (.int .i64 Y)).setCell ⟨V2.heap.size, 2, none⟩ (.bool ng)).cell? ⟨V2.heap.size, 2, none⟩ = some (.bool ng) := by go_simp
            generalize ((WA.setCell ⟨V2.heap.size, 0, none⟩ (.int .i64 X)).setCell ⟨V2.heap.size, 1, none⟩ (.int .i64 Y)).setCell ⟨V2.heap.size, 2, none⟩ (.bool ng) = Wz at z0 z1 z2 hcz ⊢
            generalize V2.heap.size = bz at z0 z1 z2 ⊢
            clear al0 al1 al2 az0 az1 az2
            clear HX HY HS hcd d0 d1 e0 e1 c0 c1 c2
            replace hb := hb.then hcz
            have hrKz := hrK.below hcz
            have hb6z := hbk.then hcz
            clear hcz
            go_wp2_with fail
            go_loopw [14, 15] (fun v i wz => ∃ (j : Nat) (rb : Bool), j ≤ K.length ∧ i = .int .i64 j ∧ v = .bool rb ∧ Hid (anyL K j ⟨X, Y, ng⟩ = rb) ∧ Below Wz.heap.size Wz wz) (fun v i wz => K.length - (intOf i).toNat)
            case atStart => exact ⟨0, false, Nat.zero_le _, rfl, rfl, rfl, Below.refl _ _⟩
            case round =>
              obtain ⟨j, rb, hj, rfl, rfl, HR, hbj⟩ := hrel
              by_cases hjl : j < K.length
              · obtain ⟨bK, oK, rfl, hbK, hatK⟩ := hrKz.cases.resolve_left (fun e => by simp [e] at hjl)
                obtain ⟨g0, g1, g2, _⟩ := lk_at hatK hbj hjl
                have y0 := keep z0 hbj
                have y1 := keep z1 hbj
                have y2 := keep z2 hbj
                have hnx : anyL K (j + 1) ⟨X, Y, ng⟩ = (rb || decide (K[j] = (⟨X, Y, ng⟩ : Lk))) := by rw [anyL_next hjl, HR.out]
                have hq : ∀ W, (binOp .eql 57 (.agg #[.int .i64 K[j].f, .int .i64 K[j].t, .bool K[j].neg]) (.agg #[.int .i64 X, .int .i64 Y, .bool ng])).run Try.prog W = .ok (.bool (decide (K[j] = (⟨X, Y, ng⟩ : Lk)))) W := fun W => run_eql_lk K[j] ⟨X, Y, ng⟩ W
                obtain ⟨bq, hbq⟩ : ∃ bq, decide (K[j] = (⟨X, Y, ng⟩ : Lk)) = bq := ⟨_, rfl⟩
                rw [hbq] at hq hnx
                have HNX := mkHid hnx
                clear hbq hnx HR hatK hbK
                cases rb with
                | true =>
                  have HT : Hid (anyL K (j + 1) ⟨X, Y, ng⟩ = true) := by rw [Hid, HNX.out]; rfl
                  go_wp2_with fail
                  go_quiet (fail)
                  go_wp2_with fail
                  exact ⟨⟨j + 1, true, by omega, by go_num, rfl, HT, hbj.trans ((drewN_below _ _).mono hbj.size)⟩, by simp [intOf]; omega⟩
                | false =>
                  have HT : Hid (anyL K (j + 1) ⟨X, Y, ng⟩ = bq) := by rw [Hid, HNX.out]; rfl
                  go_wp2_with fail
                  go_quiet (fail)
                  go_wp2_with fail
                  exact ⟨⟨j + 1, bq, by omega, by go_num, rfl, HT, hbj.trans ((drewN_below _ _).mono hbj.size)⟩, by simp [intOf]; omega⟩
              · obtain rfl : rb = true := by
                  have h1 := HR.out
                  rw [anyL_end (by omega) HW.out] at h1
                  exact h1.symm
                clear HR
                go_wp2_with fail
                go_round
                case rel => exact ⟨k + 1, by omega, by go_num, hb6z.then hbj⟩
                case measure => simp [intOf]; omega
      · replace hrm := hrm.below hbk
        replace hrg := hrg.below hbk
        replace hrP := hrP.below hbk
        replace hrQ := hrQ.below hbk
        clear hbk hrK hrJ HIN HLJ
        go_wp2_with fail
        refine (levelsp_lv hrm HMM (by omega) HLM).mono ?_; rintro e w7 ⟨aL, cL, rfl, hrL, hb7⟩
        replace hb := hb.then hb7
        replace hrg := hrg.below hb7
        replace hrP := hrP.below hb7
        replace hrQ := hrQ.below hb7
        clear hb7 hrm
        go_wp2_with fail
        refine (levelsp_lv hrg HMG (by omega) HLN).mono ?_; rintro e w8 ⟨aM, cM, rfl, hrM, hb8⟩
        replace hb := hb.then hb8
        replace hrL := hrL.below hb8
        replace hrP := hrP.below hb8
        replace hrQ := hrQ.below hb8
        have hL1 := hrL.max
        have hL2 := hrL.le
        have hM1 := hrM.max
        have hM2 := hrM.le
        clear hb8 hrg
        cases B with
        | false =>
          clear HLV
          cases C with
          | false =>
            clear HLG
            go_wp2_with fail
            go_loopw [20] (fun i wz => ∃ k : Nat, i = .int .i64 k ∧ wz = w8) (fun i wz => 0)
            case atStart => exact ⟨0, rfl, rfl⟩
            case round =>
              obtain ⟨k2, rfl, rfl⟩ := hrel
              by_cases h2 : k2 < Q.length
              · go_wp2_with fail
                go_ret
                exact ⟨rfl, hb⟩
              · go_wp2_with fail
                go_ret
                exact ⟨rfl, hb⟩
          | true =>
            have hML : M.length = Q.length := HLG.out rfl
            have z2 : ((M.length : Int) != (Q.length : Int)) = false := by simp [hML]
            clear hML HLG
            go_wp2_with fail
            go_loopw [20] (fun i wz => ∃ k : Nat, i = .int .i64 k ∧ wz = w8) (fun i wz => 0)
            case atStart => exact ⟨0, rfl, rfl⟩
            case round =>
              obtain ⟨k2, rfl, rfl⟩ := hrel
              by_cases h2 : k2 < Q.length
              · go_wp2_with fail
                go_ret
                exact ⟨rfl, hb⟩
              · go_wp2_with fail
                go_ret
                exact ⟨rfl, hb⟩
        | true =>
          obtain ⟨hC, hLL, hall⟩ := HLV.out rfl
          subst hC
          have hML : M.length = Q.length := HLG.out rfl
          have z1 : ((L.length : Int) != (P.length : Int)) = false := by simp [hLL]
          have z2 : ((M.length : Int) != (Q.length : Int)) = false := by simp [hML]
          have hLe1 : L.length ≤ P.length := by omega
          have hLe2 : P.length ≤ L.length := by omega
          have hMe1 : M.length ≤ Q.length := by omega
          have hMe2 : Q.length ≤ M.length := by omega
          have HALL := mkHid hall
          clear HLV HLG hLL hML hall
          go_wp2_with fail
          go_loopw [20] (fun i wz => ∃ k : Nat, k ≤ Q.length ∧ i = .int .i64 k ∧ Below w8.heap.size w8 wz) (fun i wz => Q.length - (intOf i).toNat)
          case atStart => exact ⟨0, Nat.zero_le _, rfl, Below.refl _ _⟩
          case round =>
            obtain ⟨k2, hk2', rfl, hb9⟩ := hrel
            replace hb := hb.then hb9
            by_cases h2 : k2 < Q.length
            · obtain ⟨bQ, oQ, rfl, hbQ, hatQ⟩ := hrQ.cases.resolve_left (fun e => by simp [e] at h2)
              obtain ⟨d0, d1, _⟩ := pd_at hatQ hb9 h2
              obtain ⟨⟨h01, h02⟩, hle⟩ := HALL.out k2 h2
              obtain ⟨x, hx⟩ : ∃ x : Nat, placeP P Q[k2] = x := ⟨(placeP P Q[k2]).toNat, by omega⟩
              have HX := mkHid hx
              rw [hx] at h02 hle
              have hxL : x < L.length := by omega
              have hkM : k2 < M.length := by omega
              have hgl : G L x = L[x] := G_get hxL
              have hgm : G M k2 = M[k2] := G_get hkM
              rw [hgl, hgm] at hle
              obtain ⟨bL, oL, rfl, hbL, hatL⟩ := hrL.cases.resolve_left (fun e => by simp [e] at hxL)
              obtain ⟨bM, oM, rfl, hbM, hatM⟩ := hrM.cases.resolve_left (fun e => by simp [e] at hkM)
              obtain ⟨g0, _, _⟩ := int_at hatL hb9 hxL
              obtain ⟨g1, _, _⟩ := int_at hatM hb9 hkM
              have hrP9 := hrP.below hb9
              have x0 : (0 : Int) ≤ (x : Int) := by omega
              have x1 : (x : Int) < (L.length : Int) := by omega
              have x2 : (k2 : Int) < (M.length : Int) := by omega
              have x3 : decide ((x : Int) < 0) = false := decide_eq_false (by omega)
              generalize L[x] = U at *
              generalize M[k2] = V at *
              have x4 : decide (U < V) = false := decide_eq_false (by omega)
              clear hatQ hbQ h01 h02 hx hgl hgm hatL hatM hbL hbM hle
              go_wp2_with fail
              refine (place_is hrP9 HX).mono ?_; rintro e w10 ⟨rfl, hb10⟩
              have g0 := keep g0 hb10
              have g1 := keep g1 hb10
              go_wp2_with fail
              go_quiet (fail)
              go_wp2_with fail
              exact ⟨⟨k2 + 1, by omega, by go_num, (hb9.then hb10).trans ((drewN_below _ _).mono (hb9.then hb10).size)⟩, by simp [intOf]; omega⟩
            · go_wp2_with fail
              go_ret
              exact ⟨rfl, hb⟩
end Go.Proofs.Ytkgebkinlpmpnaa
namespace Go.Proofs.Ytkgebkinlpmpnaa
open Go.RowKit Go.ChangeShapes Go.WideShapes Go.ChangeAt
open Go.ChangeMaps (open_string)

set_option maxRecDepth 100000 in
set_option maxHeartbeats 1000000 in
theorem ProgMore_lifted (os : Os) (started : os.Started) (H : Type) (enc : TypeId × Value → H) :
    ReturnsInHanded {} Try.checked os 10 .any (Rows.progMoreSpec.pre6 enc Try.prog Try.f10 Rows.progMoreRow.domain false) (Rows.progMoreSpec.post enc Try.prog Try.f10 false true false false) := by
  refine returnsInHanded_of_change (C := Try.checked) Try.own started (by kernel_rfl) Try.func10
    (ChangeSpec.witness6 (enc := enc) (C := Try.checked) false ⟨#[], #[.slice none 0 0, .int .u8 0], []⟩ 8 (by kernel_rfl) (by kernel_rfl) (by kernel_rfl) (by kernel_rfl)) ?_
  intro W base args ds gs before hval0 hW hcnd _
  have hval : ∀ (j : Nat) t v, Try.f10.params[j]? = some t → args[j]? = some v → Value.okWide Try.prog W .any base t v := hval0
  have hW' := hW
  obtain ⟨p, q, hA0, hV, rfl, hfz, hnd⟩ := hW
  have hA : DataW.TrodAll enc Try.prog W 0 (fun _ => true) true Try.f10.params.toList args.toList ds p := hA0
  rw [Try.params10] at hA hval
  obtain ⟨v0, vs0, d0, ds0, p0, q0, hargs, rfl, rfl, h0, r0⟩ := trodAll_cons hA
  obtain ⟨v1, vs1, d1, ds1, p1, q1, rfl, rfl, rfl, h1, r1⟩ := trodAll_cons r0
  obtain ⟨rfl, rfl, rfl⟩ := trodAll_nil r1
  obtain rfl : args = #[v0, v1] := by cases args; simp_all
  obtain ⟨rfl, rfl⟩ := trodVars_none hV
  have k0 := h0
  have lt0 : ∀ x ∈ p0, x.block < W.heap.size := by obtain ⟨m, hm⟩ := k0; exact DataW.trod_lt m _ _ _ hm
  obtain ⟨a0, len0, cap0, rfl⟩ := okWide_slice Try.underlying22 (hval 0 22 v0 rfl rfl)
  obtain ⟨xs0, rfl, hr0⟩ : ∃ xs : List Cl, xs.length = len0 ∧ Row W a0 cap0 xs := by
    obtain ⟨fuel, hf⟩ := h0
    exact open_clauses7 hf
  have k1 := h1
  have lt1 : ∀ x ∈ p1, x.block < W.heap.size := by obtain ⟨m, hm⟩ := k1; exact DataW.trod_lt m _ _ _ hm
  obtain ⟨n1, rfl, _, _, wf1⟩ := open_int Try.underlying5 (hval 1 5 v1 rfl rfl) h1
  clear hA0 hval0
  refine (lawMore_any W xs0 a0 cap0 hr0 n1 wf1).mono fun e W' ⟨he, bel⟩ => ?_
  subst he
  exact ⟨_, rfl, _, _, _, [], _, [], hW', trodAll_mk1 (shut_bool Try.underlying4 _), (trodAll_cons_mk (Below.trod Try.laidOut (by kernel_rfl) (of_decide_eq_true (by kernel_rfl)) k0 bel lt0) (trodAll_cons_mk (Below.trod Try.laidOut (by kernel_rfl) (of_decide_eq_true (by kernel_rfl)) k1 bel lt1) trodAll_mk0)), rfl, bel.frame _, fun h => by cases h⟩

theorem ProgMore_over : Rows.progMoreRow.holds Try.pinned (OpenSpec.ofChange Rows.progMoreSpec) :=
  OpenClaim.holds_of_wide 10 Try.f10 rfl rfl rfl rfl rfl rfl rfl ⟨rfl, rfl, rfl, rfl, rfl⟩ rfl rfl rfl rfl rfl (by kernel_rfl) Try.func10 (by kernel_rfl)
    (of_decide_eq_true (by kernel_rfl)) (by unfold Func.isWrapper; first | (rw [if_pos (by decide +kernel)]; kernel_rfl) | (rw [if_neg (by decide +kernel)]; exact ⟨rfl, rfl⟩))
    (fun os started H enc _ => ProgMore_lifted os started H enc)

theorem ProgMore_holds : Rows.ProgMoreSaid := ProgMore_over
end Go.Proofs.Ytkgebkinlpmpnaa
