/-
  Of layer 10 of sorrel: whatever arguments come in, the law CodeMakes returns true, and what was handed in reads as it did: code of which a clause is told is made of that clause; code without any one of its instructions is no clause's, or another one's. No condition.
-/
import Derived.Test.YtkkiemideldioaaZr8
import Derived.OrdersHeld
import Derived.Deep.RegionHeld3
set_option linter.unusedVariables false
namespace Go.Proofs.Ytkkiemideldioaa
open Go.RowKit

theorem greatIK (a : Option Addr) (cap : Nat) (w : World) (l : List Ins) (r : Bool) (hr : Row w a cap l) (hrr : greatI l = r) :
    Calls Try.prog 16 #[.slice a l.length cap] w fun e w' => e = .returned (.bool r) ∧ Below w.heap.size w w' := by
  subst hrr
  refine (greati_any a cap w l hr).mono ?_
  rintro e w' ⟨rfl, rfl⟩
  exact ⟨rfl, Below.refl _ _⟩
/-- append of all of a slice of instructions, as a run that tells what has turned -/
theorem run_accsI {w : World} (B : Nat) {v : Value} {acc : List Ins} (hacc : AccInv B 48 acc v w) {sa : Option Addr} {cap : Nat} {ys : List Ins} (hr : Row (hide v.ownBlock w) sa cap ys)
    (hmax : acc.length + ys.length ≤ 1000000000) (hB : B ≤ w.heap.size) :
    ∃ v' w', (Builtin.append_ #[26, 26] 26 #[v, .slice sa ys.length cap]).run Try.prog w = .ok v' w' ∧ AccInv B 48 (acc ++ ys) v' w' ∧ Below B w w' := by
  obtain ⟨vs, hown, hc⟩ := hacc.ex
  obtain ⟨us, hu, hsrc⟩ := hr.srcK (hide_keeps _ _)
  obtain ⟨i, hi, hz0, hz1, hz2⟩ := info_parts Try.infoInstr
  cases sa with
  | none =>
    have h0 : ys.length = 0 := (hsrc.nil rfl).1
    have hc0 : cap = 0 := (hsrc.nil rfl).2
    obtain rfl : ys = [] := List.eq_nil_of_length_eq_zero h0
    subst hc0
    exact ⟨v, w, run_append_owned_none (P := Try.prog) (w := w) B 26 26 48 i (Rep.sz Ins) Try.underlying26 hi v acc.length vs hown, ⟨vs, by rw [List.append_nil]; exact hown, by rw [List.append_nil]; exact hc⟩, Below.refl _ _⟩
  | some ad =>
    have hb : (acc.length + ys.length) * 56 ≤ 140737488355328 := Nat.le_trans (Nat.mul_le_mul_right 56 hmax) (by decide)
    obtain ⟨v', w', hr, h2, h3, h4⟩ := run_append_where (P := Try.prog) w B 26 26 48 i _ (Rep.sz Ins) 56 Try.underlying26 hi hz0 hz1 hz2 (by decide) RepC.pos v acc.length vs hown ad ys.length cap us hsrc.len (hsrc.cells ad rfl) hsrc.one (by unfold maxLen; omega) hb hB
    exact ⟨v', w', hr, ⟨vs ++ us, by rw [List.length_append]; exact h2, (hc.keeps (hide_next h3 h4)).append (hu.keeps (hide_next h3 h4))⟩, grown_below h3 hown hB⟩
/-- a beginning and a rest, one behind the other in a new row -/
theorem app_cut {W z : World} {v0 : Value} {sa sb : Option Addr} {c d : Nat} {p q S : List Ins} (hc : Below W.heap.size W z) (hacc : AccInv W.heap.size 48 ([] : List Ins) v0 z) (hp : Row W sa c p) (hq : Row W sb d q) (hl : p.length + q.length ≤ 1000) (hS : p ++ q = S) (n m : Nat) (hn : p.length = n) (hm : q.length = m) :
    ∃ v1 w1 a2 c2 w2, (Builtin.append_ #[26, 26] 26 #[v0, .slice sa n c]).run Try.prog z = .ok v1 w1 ∧
      (Builtin.append_ #[26, 26] 26 #[v1, .slice sb m d]).run Try.prog w1 = .ok (.slice a2 S.length c2) w2 ∧
      Row w2 a2 c2 S ∧ Below W.heap.size W w1 ∧ Below W.heap.size W w2 := by
  subst hS; subst hn; subst hm
  obtain ⟨v1, w1, r1, k1, b1⟩ := run_accsI W.heap.size hacc (hp.keeps (hacc.fresh hc)) (by simp; omega) hc.size
  rw [List.nil_append] at k1
  have hc1 := hc.trans b1
  obtain ⟨v2, w2, r2, k2, b2⟩ := run_accsI W.heap.size k1 (hq.keeps (k1.fresh hc1)) (by omega) hc1.size
  obtain ⟨a2, c2, rfl, hr2⟩ := k2.row
  exact ⟨v1, w1, a2, c2, w2, r1, r2, hr2, hc1, hc1.trans b2⟩
theorem row_dropQ {w : World} {b off cap : Nat} {xs : List Ins} (h : Row w (some ⟨b, off, none⟩) cap xs) {k : Nat} (hk : k ≤ xs.length) : Row w (some ⟨b, off + k * 6, none⟩) (cap - k) (xs.drop k) :=
  ⟨by have := h.le; rw [List.length_drop]; omega, by have := h.max; omega, (fun e => by cases e), fun i x hi => by
    rw [List.getElem?_drop] at hi
    obtain ⟨b1, o1, e, hE⟩ := h.at_ (k + i) x hi
    injection e with e
    injection e with e1 e2 e3
    subst e1
    subst e2
    refine ⟨b, off + k * 6, rfl, ?_⟩
    have e4 : off + k * 6 + i * Rep.sz Ins = off + (k + i) * Rep.sz Ins := by
      show off + k * 6 + i * 6 = off + (k + i) * 6
      omega
    rw [e4]
    exact hE⟩
theorem row_takeM {α : Type} [Rep α] {w : World} {a : Option Addr} {cap : Nat} {xs : List α} (h : Row w a cap xs) (k : Nat) : Row w a cap (xs.take k) :=
  ⟨by have := h.le; rw [List.length_take]; omega, h.max, h.nil, fun i x hi => h.at_ i x (by
    rw [List.getElem?_take] at hi
    split at hi
    · exact hi
    · cases hi)⟩
/-- code without its last instruction is no clause's -/
theorem less_last {x z : Cl} {h h2 : Tm} {bl bl2 : List (Bool × Tm)} (hT : ClT x h bl) (h2T : ClT z h2 bl2) {k : Nat} (hk : k < (compS h bl).length) (e : compS h2 bl2 = (compS h bl).take k ++ (compS h bl).drop (k + 1)) : k < (compS h bl).length - 1 := by
  obtain ⟨ch, e1, hz, _⟩ := compS_calls h bl
  obtain ⟨ch2, e2, _, _⟩ := compS_calls h2 bl2
  rw [e2] at e
  have hl := congrArg List.length e1
  rw [List.length_append, List.length_singleton] at hl
  by_cases hlt : k < (compS h bl).length - 1
  · exact hlt
  · exfalso
    have hke : k = ch.length := by omega
    rw [List.drop_eq_nil_of_le (by omega), List.append_nil, e1, hke, List.take_left] at e
    exact (hz ⟨13, 0, 0, h2.hd.s, h2.hd.n, false⟩ (by rw [← e]; simp)).2.2 rfl
theorem less_other {x z : Cl} {h h2 : Tm} {bl bl2 : List (Bool × Tm)} (hT : ClT x h bl) (h2T : ClT z h2 bl2) {k : Nat} (hk : k < (compS h bl).length) (e : compS h2 bl2 = (compS h bl).take k ++ (compS h bl).drop (k + 1)) : decide (x = z) = false := by
  refine decide_eq_false fun hxz => ?_
  subst hxz
  obtain ⟨e1, e2⟩ := ClT.one hT h2T
  subst e1
  subst e2
  have hl := congrArg List.length e
  rw [List.length_append, List.length_take, List.length_drop] at hl
  omega
set_option maxRecDepth 100000 in
set_option maxHeartbeats 12800000 in
theorem lawMakes_any (W : World) (L : List Ins) (a : Option Addr) (c : Nat) (hr : Row W a c L) (n : Int) (wf : (Lit.int .u16 n).wf = true) :
    Calls Try.prog 7 #[.slice a L.length c, .int .u16 n] W fun r W' => r = .returned (.bool true) ∧ Below W.heap.size W W' := by
  have hm1 := hr.max
  have hm2 := hr.le
  have HL := mkHid hr
  clear hr
  by_cases h4 : 400 < L.length
  · go_enter Try.func7, Try.ntmps7
    go_wp2_with fail
    refine (head10_any _).mono ?_
    rintro r w1 ⟨rfl, hb1⟩
    have HB1 := mkHid hb1
    have HL1 := mkHid (HL.out.below hb1)
    clear hb1 HL
    go_wp2_with fail
    go_ret
    exact ⟨rfl, HB1.out⟩
  · cases hG : greatI L
    · go_enter Try.func7, Try.ntmps7
      go_wp2_with fail
      refine (head10_any _).mono ?_
      rintro r w1 ⟨rfl, hb1⟩
      have HB1 := mkHid hb1
      have HL1 := mkHid (HL.out.below hb1)
      clear hb1 HL
      go_wp2_with fail
      refine (greatIK a c _ L _ HL1.out hG).mono ?_
      rintro r w2 ⟨rfl, hb2⟩
      have HB2 := mkHid (HB1.out.then hb2)
      have HL2 := mkHid (HL1.out.below hb2)
      clear hb2 HB1 HL1
      go_wp2_with fail
      refine (source_any w2 a c L HL2.out).mono ?_
      rintro r w3 ⟨hb3, hs⟩
      have HB3 := mkHid (HB2.out.then hb3)
      have HL3 := mkHid (HL2.out.below hb3)
      clear HB2 HL2
      rcases hs with ⟨rfl, hno⟩ | ⟨y, h, bl, a3, c3, a4, c4, rfl, hy1, hy2, hT, hcL, _, _⟩
      · clear hno hb3
        go_wp2_with fail
        have b0 : (w3.alloc (.cells #[.slice none 0 0, .slice none 0 0] 25)).cell? ⟨w3.heap.size, 0, none⟩ = some (.slice none 0 0) := World.cell?_alloc_at _ _ w3.heap.size 0 rfl
        have b1 : (w3.alloc (.cells #[.slice none 0 0, .slice none 0 0] 25)).cell? ⟨w3.heap.size, 1, none⟩ = some (.slice none 0 0) := World.cell?_alloc_at _ _ w3.heap.size 1 rfl
        have hn3 := (Below.refl w3.heap.size w3).new (.cells #[.slice none 0 0, .slice none 0 0] 25)
        have HN3 := mkHid (HB3.out.then hn3)
        clear hn3
        go_wp2_with fail
        go_ret
        exact ⟨rfl, HN3.out⟩
      · have HT := mkHid hT
        have HC := mkHid hcL
        have HY1 := mkHid hy1
        have HY2 := mkHid hy2
        have hpos : 0 < L.length := by rw [← hcL]; exact comp_pos hT
        clear hy1 hy2 hb3 hT hcL
        have hn2 : 0 ≤ n ∧ n ≤ 65535 := by
          simp [Lit.wf, IntKind.min, IntKind.max, IntKind.signed, IntKind.bits] at wf
          omega
        obtain ⟨k, hk, hkl⟩ : ∃ k : Nat, Int.tmod n (L.length : Int) = k ∧ k < L.length := by
          have h1 : Int.tmod n (L.length : Int) = n % (L.length : Int) := Int.tmod_eq_emod_of_nonneg hn2.1
          have h2 := Int.emod_nonneg n (show (L.length : Int) ≠ 0 by omega)
          have h3 := Int.emod_lt_of_pos n (show (0 : Int) < (L.length : Int) by omega)
          generalize n % (L.length : Int) = r at h1 h2 h3
          exact ⟨r.toNat, by rw [h1]; omega, by omega⟩
        have hz : ((L.length : Int) == 0) = false := beq_false_of_ne (by omega)
        have hz2 : decide ((L.length : Int) = 0) = false := decide_eq_false (by omega)
        have hz3 : (L.length == 0) = false := beq_false_of_ne (by omega)
        go_wp2_with fail
        have b0 : (w3.alloc (.cells #[.slice a3 y.h.length c3, .slice a4 y.b.length c4] 25)).cell? ⟨w3.heap.size, 0, none⟩ = some (.slice a3 y.h.length c3) := World.cell?_alloc_at _ _ w3.heap.size 0 rfl
        have b1 : (w3.alloc (.cells #[.slice a3 y.h.length c3, .slice a4 y.b.length c4] 25)).cell? ⟨w3.heap.size, 1, none⟩ = some (.slice a4 y.b.length c4) := World.cell?_alloc_at _ _ w3.heap.size 1 rfl
        have hn3 := (Below.refl w3.heap.size w3).new (.cells #[.slice a3 y.h.length c3, .slice a4 y.b.length c4] 25)
        refine (compK a3 c3 a4 c4 _ y h bl _ _ L.length L HT.out rfl rfl HC.out rfl (HY1.out.below hn3) (HY2.out.below hn3)).mono ?_
        rintro r w4 ⟨a5, c5, rfl, hr5, hb4⟩
        have hb5 := hn3.then hb4
        have HB4 := mkHid (HB3.out.then hb5)
        have HL4 := mkHid (HL3.out.below hb5)
        have HY3 := mkHid (HY1.out.below hb5)
        have HY4 := mkHid (HY2.out.below hb5)
        have HR5 := mkHid hr5
        have d0 := keep b0 hb4
        have d1 := keep b1 hb4
        clear hb4 hb5 hn3 hr5 b0 b1 HB3 HL3 HY1 HY2
        go_wp2_with fail
        refine (sameIK _ _ _ _ _ L L _ _ true rfl rfl (by simp) HR5.out HL4.out).mono ?_
        rintro r w5 ⟨rfl, hb5⟩
        have HB5 := mkHid (HB4.out.then hb5)
        have HL5 := mkHid (HL4.out.below hb5)
        have HY5 := mkHid (HY3.out.below hb5)
        have HY6 := mkHid (HY4.out.below hb5)
        have f0 := keep d0 hb5
        have f1 := keep d1 hb5
        clear hb5 d0 d1 HB4 HL4 HY3 HY4 HR5
        obtain ⟨b, off, rfl, hbb, hat⟩ := HL5.out.cases.resolve_left (fun e => by simp [e] at hpos)
        clear hat hbb
        have hck : k ≤ c := by omega
        have hck1 : k + 1 ≤ c := by omega
        have hck2 : k + 1 ≤ L.length := by omega
        have HP := mkHid (row_takeM HL5.out k)
        have htl : (L.take k).length = k := by rw [List.length_take]; omega
        have hdl : (L.drop (k + 1)).length = L.length - (k + 1) := List.length_drop
        obtain ⟨S, hS⟩ : ∃ S, L.take k ++ L.drop (k + 1) = S := ⟨_, rfl⟩
        have HSE := mkHid hS
        clear hS
        by_cases hce : c = k + 1
        · have hq0 : L.drop (k + 1) = [] := List.drop_eq_nil_of_le (by omega)
          have HQ : Hid (Row w5 (some ⟨b, off, none⟩) (c - (k + 1)) (L.drop (k + 1))) := by
            rw [Hid, hq0]
            exact Row.empty _ _ _ (by omega) (fun e => by cases e)
          have hwk : IntKind.i64.wrap ((k : Int) + 1) = (k : Int) + 1 := IntWalk.i64_in _ (by omega)
          have hlk0 : (0 : Int) ≤ (k : Int) + 1 := by omega
          have hlk2 : (k : Int) + 1 ≤ (L.length : Int) := by omega
          have hce2 : (c = k + 1) = True := eq_true hce
          clear hq0 hce
          have HS : Hid (∀ X, Below w5.heap.size w5 X → (fun X : World => X.cell? ⟨w3.heap.size, 0, none⟩ = some (.slice a3 y.h.length c3) ∧ X.cell? ⟨w3.heap.size, 1, none⟩ = some (.slice a4 y.b.length c4)) X) := fun X h => ⟨keep f0 h, keep f1 h⟩
          go_wp2_with fail
          refine wp_region_noPanic ?_
          have hbd : Below w5.heap.size w5 w5.drew := (Below.refl _ _).drew
          refine wp_region_held_drew (S := fun X : World => X.cell? ⟨w3.heap.size, 0, none⟩ = some (.slice a3 y.h.length c3) ∧ X.cell? ⟨w3.heap.size, 1, none⟩ = some (.slice a4 y.b.length c4)) (by kernel_rfl) (HS.out _ hbd) (fun hSd => ?_)
          have HBD := mkHid hbd
          clear hbd
          obtain ⟨y0, hv0⟩ : ∃ X, w5.drew = X := ⟨_, rfl⟩
          rw [hv0] at HBD hSd ⊢
          clear hv0
          refine wpAnyH_take (i := 1) (oi := _) (v := ?_) rfl (by kernel_rfl) (by kernel_rfl) (by kernel_rfl) (fun _ _ _ h => h) (Or.inl ⟨by rfl, ?_⟩) (by assumption) ?_
          rotate_left
          · (intro w' hSw; obtain ⟨z0, z1⟩ := hSw; go_simp; try with_reducible rfl)
          (try simp only [List.getElem_toArray, List.getElem_cons_succ, List.getElem_cons_zero, Act.put, List.setIfInBounds_toArray, List.set_cons_zero, List.set_cons_succ])
          refine wpAnyH_take (i := 2) (oi := _) (v := ?_) rfl (by kernel_rfl) (by kernel_rfl) (by kernel_rfl) (fun _ _ _ h => h) (Or.inl ⟨by rfl, ?_⟩) (by assumption) ?_
          rotate_left
          · (intro w' hSw; obtain ⟨z0, z1⟩ := hSw; go_simp; try with_reducible rfl)
          (try simp only [List.getElem_toArray, List.getElem_cons_succ, List.getElem_cons_zero, Act.put, List.setIfInBounds_toArray, List.set_cons_zero, List.set_cons_succ])
          refine wpAnyH_take (i := 3) (oi := _) (v := ?_) rfl (by kernel_rfl) (by kernel_rfl) (by kernel_rfl) (fun _ _ _ h => h) (Or.inl ⟨by rfl, ?_⟩) (by assumption) ?_
          rotate_left
          · (intro w' hSw; obtain ⟨z0, z1⟩ := hSw; go_simp; try with_reducible rfl)
          (try simp only [List.getElem_toArray, List.getElem_cons_succ, List.getElem_cons_zero, Act.put, List.setIfInBounds_toArray, List.set_cons_zero, List.set_cons_succ])
          refine wpAnyH_take (i := 5) (oi := _) (v := ?_) rfl (by kernel_rfl) (by kernel_rfl) (by kernel_rfl) (fun _ _ _ h => h) (Or.inl ⟨by rfl, ?_⟩) (by assumption) ?_
          rotate_left
          · (intro w' hSw; obtain ⟨z0, z1⟩ := hSw; go_simp; try with_reducible rfl)
          (try simp only [List.getElem_toArray, List.getElem_cons_succ, List.getElem_cons_zero, Act.put, List.setIfInBounds_toArray, List.set_cons_zero, List.set_cons_succ])
          refine wpAnyH_take (i := 6) (oi := _) (v := ?_) rfl (by kernel_rfl) (by kernel_rfl) (by kernel_rfl) (fun _ _ _ h => h) (Or.inl ⟨by rfl, ?_⟩) (by assumption) ?_
          rotate_left
          · (intro w' hSw; obtain ⟨z0, z1⟩ := hSw; go_simp; try with_reducible rfl)
          (try simp only [List.getElem_toArray, List.getElem_cons_succ, List.getElem_cons_zero, Act.put, List.setIfInBounds_toArray, List.set_cons_zero, List.set_cons_succ])
          refine wpAnyH_take (i := 7) (oi := _) (v := ?_) rfl (by kernel_rfl) (by kernel_rfl) (by kernel_rfl) (fun _ _ _ h => h) (Or.inl ⟨by rfl, ?_⟩) (by assumption) ?_
          rotate_left
          · (intro w' hSw; obtain ⟨z0, z1⟩ := hSw; go_simp; try with_reducible rfl)
          (try simp only [List.getElem_toArray, List.getElem_cons_succ, List.getElem_cons_zero, Act.put, List.setIfInBounds_toArray, List.set_cons_zero, List.set_cons_succ])
          refine wpAnyH_take (i := 8) (oi := _) (v := ?_) rfl (by kernel_rfl) (by kernel_rfl) (by kernel_rfl) (fun _ _ _ h => h) (Or.inl ⟨by rfl, ?_⟩) (by assumption) ?_
          rotate_left
          · (intro w' hSw; obtain ⟨z0, z1⟩ := hSw; go_simp; try with_reducible rfl)
          (try simp only [List.getElem_toArray, List.getElem_cons_succ, List.getElem_cons_zero, Act.put, List.setIfInBounds_toArray, List.set_cons_zero, List.set_cons_succ])
          refine wpAnyH_ready (rs := [0]) (by kernel_rfl) (by simp) ?_
          refine AllReadyH.cons (o := _) rfl (fun K hK => ?_) AllReadyH.nil
          go_simp
          have hcC : Below w5.heap.size w5 (y0.alloc (.cells #[] 48)) := HBD.out.trans ((Below.refl _ _).alloc HBD.out.size _)
          have hkC : AccInv w5.heap.size 48 ([] : List Ins) (.slice (some ⟨y0.heap.size, 0, none⟩) 0 0) (y0.alloc (.cells #[] 48)) := AccInv.made (α := Ins) (B := w5.heap.size) (e := 48) (T := 48) y0 HBD.out.size rfl
          obtain ⟨v1, w6, a6, c6, w7, hrun1, hrun2, hr7, hc1, hc2⟩ := app_cut hcC hkC HP.out HQ.out (by rw [htl, hdl]; omega) HSE.out k (L.length - (k + 1)) htl hdl
          have HR7 := mkHid hr7
          have HC6 := mkHid hc1
          have HC7 := mkHid hc2
          clear hr7 hc1 hc2 hkC
          try dsimp only
          refine hK.out _ _ (HS.out _ hcC) (fun hSe => ?_)
          clear hK K hcC
          (try simp only [List.getElem_toArray, List.getElem_cons_succ, List.getElem_cons_zero, Act.put, List.setIfInBounds_toArray, List.set_cons_zero, List.set_cons_succ])
          refine wpAnyH_ready (rs := [4]) (by kernel_rfl) (by simp) ?_
          refine AllReadyH.cons (o := _) rfl (fun K hK => ?_) AllReadyH.nil
          (rw [if_pos (by rfl)]; simp [Oper.wp, execOp, resolve, invoke, builtin, Oper.upon, Act.eval, hrun1, Result.andThen, Sem.run_bind])
          try dsimp only
          refine hK.out _ _ (HS.out _ HC6.out) (fun _ => ?_)
          clear hK K
          (try simp only [List.getElem_toArray, List.getElem_cons_succ, List.getElem_cons_zero, Act.put, List.setIfInBounds_toArray, List.set_cons_zero, List.set_cons_succ])
          refine wpAnyH_ready (rs := [9]) (by kernel_rfl) (by simp) ?_
          refine AllReadyH.cons (o := _) rfl (fun K hK => ?_) AllReadyH.nil
          (rw [if_pos (by rfl)]; simp [Oper.wp, execOp, resolve, invoke, builtin, Oper.upon, Act.eval, hrun2, Result.andThen, Sem.run_bind])
          try dsimp only
          refine hK.out _ _ (HS.out _ HC7.out) (fun hSf => ?_)
          clear hK K hrun1 hrun2 hSd hSe
          (try simp only [List.getElem_toArray, List.getElem_cons_succ, List.getElem_cons_zero, Act.put, List.setIfInBounds_toArray, List.set_cons_zero, List.set_cons_succ])
          refine wpAnyH_take (i := 10) (oi := _) (v := ?_) rfl (by kernel_rfl) (by kernel_rfl) (by kernel_rfl) (fun _ _ _ h => h) (Or.inl ⟨by rfl, ?_⟩) (by assumption) ?_
          rotate_left
          · (intro w' hSw; obtain ⟨z0, z1⟩ := hSw; go_simp; try with_reducible rfl)
          (try simp only [List.getElem_toArray, List.getElem_cons_succ, List.getElem_cons_zero, Act.put, List.setIfInBounds_toArray, List.set_cons_zero, List.set_cons_succ])
          refine wpAnyH_done (by kernel_rfl) (NoPanic.normal ?_) _
          obtain ⟨f0, f1⟩ := hSf
          have HB7 := mkHid (HB5.out.then HC7.out)
          have HY7 := mkHid (HY5.out.below HC7.out)
          have HY8 := mkHid (HY6.out.below HC7.out)
          clear HS HB5 HY5 HY6 HC7 HC6 HBD HP HQ HL5
          go_wp2_with fail
          refine (source_any w7 a6 c6 S HR7.out).mono ?_
          rintro r w8 ⟨hb8, hs⟩
          have HB8 := mkHid (HB7.out.then hb8)
          have HY9 := mkHid (HY7.out.below hb8)
          have HYa := mkHid (HY8.out.below hb8)
          have g0 := keep f0 hb8
          have g1 := keep f1 hb8
          clear hb8 f0 f1 HB7 HY7 HY8 HR7
          rcases hs with ⟨rfl, hno⟩ | ⟨z, h2, bl2, a8, c8, a9, c9, rfl, hz1, hz2', h2T, h2L, _, _⟩
          · clear hno
            have hn3 := HB8.out.then ((Below.refl w8.heap.size w8).new (.cells #[.slice none 0 0, .slice none 0 0] 25))
            have HN3 := mkHid hn3
            clear hn3
            go_wp2_with fail
            go_ret
            exact ⟨rfl, HN3.out⟩
          · have hSe := h2L
            rw [← HSE.out, ← HC.out] at hSe
            have HLT := mkHid (less_last HT.out h2T (by rw [HC.out]; exact hkl) hSe)
            have HNE := mkHid (less_other HT.out h2T (by rw [HC.out]; exact hkl) hSe)
            have hlt : k < L.length - 1 := by have := HLT.out; rw [HC.out] at this; exact this
            have hlt1 : decide ((k : Int) < (L.length : Int) - 1) = true := by simp; omega
            have hlt2 : (k : Int) < (L.length : Int) - 1 := by omega
            have hn3 := (Below.refl w8.heap.size w8).new (.cells #[.slice a8 z.h.length c8, .slice a9 z.b.length c9] 25)
            have HN3 := mkHid (HB8.out.then hn3)
            have HZ1 := mkHid (hz1.below hn3)
            have HZ2 := mkHid (hz2'.below hn3)
            have HYb := mkHid (HY9.out.below hn3)
            have HYc := mkHid (HYa.out.below hn3)
            have j0 := keep g0 hn3
            have j1 := keep g1 hn3
            clear hn3 hz1 hz2' h2T h2L hSe g0 g1 HLT
            go_wp2_with fail
            have HT1 := mkHid (sameclause_any a3 c3 a4 c4 a8 c8 a9 c9 _ y z HYb.out HYc.out HZ1.out HZ2.out)
            rw [HNE.out] at HT1
            refine HT1.out.mono ?_
            clear HT1
            rintro r w9 ⟨rfl, hb9⟩
            have HN4 := mkHid (HN3.out.then hb9)
            clear hb9
            go_wp2_with fail
            go_ret
            exact ⟨rfl, HN4.out⟩
        · have hwk : IntKind.i64.wrap ((k : Int) + 1) = (k : Int) + 1 := IntWalk.i64_in _ (by omega)
          have hlk0 : (0 : Int) ≤ (k : Int) + 1 := by omega
          have hlk2 : (k : Int) + 1 ≤ (L.length : Int) := by omega
          have HQ := mkHid (row_dropQ HL5.out hck2)
          have HS : Hid (∀ X, Below w5.heap.size w5 X → (fun X : World => X.cell? ⟨w3.heap.size, 0, none⟩ = some (.slice a3 y.h.length c3) ∧ X.cell? ⟨w3.heap.size, 1, none⟩ = some (.slice a4 y.b.length c4)) X) := fun X h => ⟨keep f0 h, keep f1 h⟩
          go_wp2_with fail
          refine wp_region_noPanic ?_
          have hbd : Below w5.heap.size w5 w5.drew := (Below.refl _ _).drew
          refine wp_region_held_drew (S := fun X : World => X.cell? ⟨w3.heap.size, 0, none⟩ = some (.slice a3 y.h.length c3) ∧ X.cell? ⟨w3.heap.size, 1, none⟩ = some (.slice a4 y.b.length c4)) (by kernel_rfl) (HS.out _ hbd) (fun hSd => ?_)
          have HBD := mkHid hbd
          clear hbd
          obtain ⟨y0, hv0⟩ : ∃ X, w5.drew = X := ⟨_, rfl⟩
          rw [hv0] at HBD hSd ⊢
          clear hv0
          refine wpAnyH_take (i := 1) (oi := _) (v := ?_) rfl (by kernel_rfl) (by kernel_rfl) (by kernel_rfl) (fun _ _ _ h => h) (Or.inl ⟨by rfl, ?_⟩) (by assumption) ?_
          rotate_left
          · (intro w' hSw; obtain ⟨z0, z1⟩ := hSw; go_simp; try with_reducible rfl)
          (try simp only [List.getElem_toArray, List.getElem_cons_succ, List.getElem_cons_zero, Act.put, List.setIfInBounds_toArray, List.set_cons_zero, List.set_cons_succ])
          refine wpAnyH_take (i := 2) (oi := _) (v := ?_) rfl (by kernel_rfl) (by kernel_rfl) (by kernel_rfl) (fun _ _ _ h => h) (Or.inl ⟨by rfl, ?_⟩) (by assumption) ?_
          rotate_left
          · (intro w' hSw; obtain ⟨z0, z1⟩ := hSw; go_simp; try with_reducible rfl)
          (try simp only [List.getElem_toArray, List.getElem_cons_succ, List.getElem_cons_zero, Act.put, List.setIfInBounds_toArray, List.set_cons_zero, List.set_cons_succ])
          refine wpAnyH_take (i := 3) (oi := _) (v := ?_) rfl (by kernel_rfl) (by kernel_rfl) (by kernel_rfl) (fun _ _ _ h => h) (Or.inl ⟨by rfl, ?_⟩) (by assumption) ?_
          rotate_left
          · (intro w' hSw; obtain ⟨z0, z1⟩ := hSw; go_simp; try with_reducible rfl)
          (try simp only [List.getElem_toArray, List.getElem_cons_succ, List.getElem_cons_zero, Act.put, List.setIfInBounds_toArray, List.set_cons_zero, List.set_cons_succ])
          refine wpAnyH_take (i := 5) (oi := _) (v := ?_) rfl (by kernel_rfl) (by kernel_rfl) (by kernel_rfl) (fun _ _ _ h => h) (Or.inl ⟨by rfl, ?_⟩) (by assumption) ?_
          rotate_left
          · (intro w' hSw; obtain ⟨z0, z1⟩ := hSw; go_simp; try with_reducible rfl)
          (try simp only [List.getElem_toArray, List.getElem_cons_succ, List.getElem_cons_zero, Act.put, List.setIfInBounds_toArray, List.set_cons_zero, List.set_cons_succ])
          refine wpAnyH_take (i := 6) (oi := _) (v := ?_) rfl (by kernel_rfl) (by kernel_rfl) (by kernel_rfl) (fun _ _ _ h => h) (Or.inl ⟨by rfl, ?_⟩) (by assumption) ?_
          rotate_left
          · (intro w' hSw; obtain ⟨z0, z1⟩ := hSw; go_simp; try with_reducible rfl)
          (try simp only [List.getElem_toArray, List.getElem_cons_succ, List.getElem_cons_zero, Act.put, List.setIfInBounds_toArray, List.set_cons_zero, List.set_cons_succ])
          refine wpAnyH_take (i := 7) (oi := _) (v := ?_) rfl (by kernel_rfl) (by kernel_rfl) (by kernel_rfl) (fun _ _ _ h => h) (Or.inl ⟨by rfl, ?_⟩) (by assumption) ?_
          rotate_left
          · (intro w' hSw; obtain ⟨z0, z1⟩ := hSw; go_simp; try with_reducible rfl)
          (try simp only [List.getElem_toArray, List.getElem_cons_succ, List.getElem_cons_zero, Act.put, List.setIfInBounds_toArray, List.set_cons_zero, List.set_cons_succ])
          refine wpAnyH_take (i := 8) (oi := _) (v := ?_) rfl (by kernel_rfl) (by kernel_rfl) (by kernel_rfl) (fun _ _ _ h => h) (Or.inl ⟨by rfl, ?_⟩) (by assumption) ?_
          rotate_left
          · (intro w' hSw; obtain ⟨z0, z1⟩ := hSw; go_simp; try with_reducible rfl)
          (try simp only [List.getElem_toArray, List.getElem_cons_succ, List.getElem_cons_zero, Act.put, List.setIfInBounds_toArray, List.set_cons_zero, List.set_cons_succ])
          refine wpAnyH_ready (rs := [0]) (by kernel_rfl) (by simp) ?_
          refine AllReadyH.cons (o := _) rfl (fun K hK => ?_) AllReadyH.nil
          go_simp
          have hcC : Below w5.heap.size w5 (y0.alloc (.cells #[] 48)) := HBD.out.trans ((Below.refl _ _).alloc HBD.out.size _)
          have hkC : AccInv w5.heap.size 48 ([] : List Ins) (.slice (some ⟨y0.heap.size, 0, none⟩) 0 0) (y0.alloc (.cells #[] 48)) := AccInv.made (α := Ins) (B := w5.heap.size) (e := 48) (T := 48) y0 HBD.out.size rfl
          obtain ⟨v1, w6, a6, c6, w7, hrun1, hrun2, hr7, hc1, hc2⟩ := app_cut hcC hkC HP.out HQ.out (by rw [htl, hdl]; omega) HSE.out k (L.length - (k + 1)) htl hdl
          have HR7 := mkHid hr7
          have HC6 := mkHid hc1
          have HC7 := mkHid hc2
          clear hr7 hc1 hc2 hkC
          try dsimp only
          refine hK.out _ _ (HS.out _ hcC) (fun hSe => ?_)
          clear hK K hcC
          (try simp only [List.getElem_toArray, List.getElem_cons_succ, List.getElem_cons_zero, Act.put, List.setIfInBounds_toArray, List.set_cons_zero, List.set_cons_succ])
          refine wpAnyH_ready (rs := [4]) (by kernel_rfl) (by simp) ?_
          refine AllReadyH.cons (o := _) rfl (fun K hK => ?_) AllReadyH.nil
          (rw [if_pos (by rfl)]; simp [Oper.wp, execOp, resolve, invoke, builtin, Oper.upon, Act.eval, hrun1, Result.andThen, Sem.run_bind])
          try dsimp only
          refine hK.out _ _ (HS.out _ HC6.out) (fun _ => ?_)
          clear hK K
          (try simp only [List.getElem_toArray, List.getElem_cons_succ, List.getElem_cons_zero, Act.put, List.setIfInBounds_toArray, List.set_cons_zero, List.set_cons_succ])
          refine wpAnyH_ready (rs := [9]) (by kernel_rfl) (by simp) ?_
          refine AllReadyH.cons (o := _) rfl (fun K hK => ?_) AllReadyH.nil
          (rw [if_pos (by rfl)]; simp [Oper.wp, execOp, resolve, invoke, builtin, Oper.upon, Act.eval, hrun2, Result.andThen, Sem.run_bind])
          try dsimp only
          refine hK.out _ _ (HS.out _ HC7.out) (fun hSf => ?_)
          clear hK K hrun1 hrun2 hSd hSe
          (try simp only [List.getElem_toArray, List.getElem_cons_succ, List.getElem_cons_zero, Act.put, List.setIfInBounds_toArray, List.set_cons_zero, List.set_cons_succ])
          refine wpAnyH_take (i := 10) (oi := _) (v := ?_) rfl (by kernel_rfl) (by kernel_rfl) (by kernel_rfl) (fun _ _ _ h => h) (Or.inl ⟨by rfl, ?_⟩) (by assumption) ?_
          rotate_left
          · (intro w' hSw; obtain ⟨z0, z1⟩ := hSw; go_simp; try with_reducible rfl)
          (try simp only [List.getElem_toArray, List.getElem_cons_succ, List.getElem_cons_zero, Act.put, List.setIfInBounds_toArray, List.set_cons_zero, List.set_cons_succ])
          refine wpAnyH_done (by kernel_rfl) (NoPanic.normal ?_) _
          obtain ⟨f0, f1⟩ := hSf
          have HB7 := mkHid (HB5.out.then HC7.out)
          have HY7 := mkHid (HY5.out.below HC7.out)
          have HY8 := mkHid (HY6.out.below HC7.out)
          clear HS HB5 HY5 HY6 HC7 HC6 HBD HP HQ HL5
          go_wp2_with fail
          refine (source_any w7 a6 c6 S HR7.out).mono ?_
          rintro r w8 ⟨hb8, hs⟩
          have HB8 := mkHid (HB7.out.then hb8)
          have HY9 := mkHid (HY7.out.below hb8)
          have HYa := mkHid (HY8.out.below hb8)
          have g0 := keep f0 hb8
          have g1 := keep f1 hb8
          clear hb8 f0 f1 HB7 HY7 HY8 HR7
          rcases hs with ⟨rfl, hno⟩ | ⟨z, h2, bl2, a8, c8, a9, c9, rfl, hz1, hz2', h2T, h2L, _, _⟩
          · clear hno
            have hn3 := HB8.out.then ((Below.refl w8.heap.size w8).new (.cells #[.slice none 0 0, .slice none 0 0] 25))
            have HN3 := mkHid hn3
            clear hn3
            go_wp2_with fail
            go_ret
            exact ⟨rfl, HN3.out⟩
          · have hSe := h2L
            rw [← HSE.out, ← HC.out] at hSe
            have HLT := mkHid (less_last HT.out h2T (by rw [HC.out]; exact hkl) hSe)
            have HNE := mkHid (less_other HT.out h2T (by rw [HC.out]; exact hkl) hSe)
            have hlt : k < L.length - 1 := by have := HLT.out; rw [HC.out] at this; exact this
            have hlt1 : decide ((k : Int) < (L.length : Int) - 1) = true := by simp; omega
            have hlt2 : (k : Int) < (L.length : Int) - 1 := by omega
            have hn3 := (Below.refl w8.heap.size w8).new (.cells #[.slice a8 z.h.length c8, .slice a9 z.b.length c9] 25)
            have HN3 := mkHid (HB8.out.then hn3)
            have HZ1 := mkHid (hz1.below hn3)
            have HZ2 := mkHid (hz2'.below hn3)
            have HYb := mkHid (HY9.out.below hn3)
            have HYc := mkHid (HYa.out.below hn3)
            have j0 := keep g0 hn3
            have j1 := keep g1 hn3
            clear hn3 hz1 hz2' h2T h2L hSe g0 g1 HLT
            go_wp2_with fail
            have HT1 := mkHid (sameclause_any a3 c3 a4 c4 a8 c8 a9 c9 _ y z HYb.out HYc.out HZ1.out HZ2.out)
            rw [HNE.out] at HT1
            refine HT1.out.mono ?_
            clear HT1
            rintro r w9 ⟨rfl, hb9⟩
            have HN4 := mkHid (HN3.out.then hb9)
            clear hb9
            go_wp2_with fail
            go_ret
            exact ⟨rfl, HN4.out⟩
    · go_enter Try.func7, Try.ntmps7
      go_wp2_with fail
      refine (head10_any _).mono ?_
      rintro r w1 ⟨rfl, hb1⟩
      have HB1 := mkHid hb1
      have HL1 := mkHid (HL.out.below hb1)
      clear hb1 HL
      go_wp2_with fail
      refine (greatIK a c _ L _ HL1.out hG).mono ?_
      rintro r w2 ⟨rfl, hb2⟩
      have HB2 := mkHid (HB1.out.then hb2)
      have HL2 := mkHid (HL1.out.below hb2)
      clear hb2 HB1 HL1
      go_wp2_with fail
      go_ret
      exact ⟨rfl, HB2.out⟩
end Go.Proofs.Ytkkiemideldioaa
namespace Go.Proofs.Ytkkiemideldioaa
open Go.RowKit Go.ChangeShapes Go.WideShapes Go.ChangeAt
open Go.ChangeMaps (open_string)

set_option maxRecDepth 100000 in
set_option maxHeartbeats 1000000 in
theorem CodeMakes_lifted (os : Os) (started : os.Started) (H : Type) (enc : TypeId × Value → H) :
    ReturnsInHanded {} Try.checked os 7 .any (Rows.codeMakesSpec.pre6 enc Try.prog Try.f7 Rows.codeMakesRow.domain false) (Rows.codeMakesSpec.post enc Try.prog Try.f7 false true false false) := by
  refine returnsInHanded_of_change (C := Try.checked) Try.own started (by kernel_rfl) Try.func7
    (ChangeSpec.witness6 (enc := enc) (C := Try.checked) false ⟨#[], #[.slice none 0 0, .int .u16 0], []⟩ 8 (by kernel_rfl) (by kernel_rfl) (by kernel_rfl) (by kernel_rfl)) ?_
  intro W base args ds gs before hval0 hW hcnd _
  have hval : ∀ (j : Nat) t v, Try.f7.params[j]? = some t → args[j]? = some v → Value.okWide Try.prog W .any base t v := hval0
  have hW' := hW
  obtain ⟨p, q, hA0, hV, rfl, hfz, hnd⟩ := hW
  have hA : DataW.TrodAll enc Try.prog W 0 (fun _ => true) true Try.f7.params.toList args.toList ds p := hA0
  rw [Try.params7] at hA hval
  obtain ⟨v0, vs0, d0, ds0, p0, q0, hargs, rfl, rfl, h0, r0⟩ := trodAll_cons hA
  obtain ⟨v1, vs1, d1, ds1, p1, q1, rfl, rfl, rfl, h1, r1⟩ := trodAll_cons r0
  obtain ⟨rfl, rfl, rfl⟩ := trodAll_nil r1
  obtain rfl : args = #[v0, v1] := by cases args; simp_all
  obtain ⟨rfl, rfl⟩ := trodVars_none hV
  have k0 := h0
  have lt0 : ∀ x ∈ p0, x.block < W.heap.size := by obtain ⟨m, hm⟩ := k0; exact DataW.trod_lt m _ _ _ hm
  obtain ⟨a0, len0, cap0, rfl⟩ := okWide_slice Try.underlying26 (hval 0 26 v0 rfl rfl)
  obtain ⟨xs0, rfl, hr0⟩ : ∃ xs : List Ins, xs.length = len0 ∧ Row W a0 cap0 xs := by
    obtain ⟨fuel, hf⟩ := h0
    exact open_inss10 hf
  have k1 := h1
  have lt1 : ∀ x ∈ p1, x.block < W.heap.size := by obtain ⟨m, hm⟩ := k1; exact DataW.trod_lt m _ _ _ hm
  obtain ⟨n1, rfl, _, _, wf1⟩ := open_int Try.underlying42 (hval 1 42 v1 rfl rfl) h1
  clear hA0 hval0
  refine (lawMakes_any W xs0 a0 cap0 hr0 n1 wf1).mono fun e W' ⟨he, bel⟩ => ?_
  subst he
  exact ⟨_, rfl, _, _, _, [], _, [], hW', trodAll_mk1 (shut_bool Try.underlying4 _), (trodAll_cons_mk (Below.trod Try.laidOut (by kernel_rfl) (of_decide_eq_true (by kernel_rfl)) k0 bel lt0) (trodAll_cons_mk (Below.trod Try.laidOut (by kernel_rfl) (of_decide_eq_true (by kernel_rfl)) k1 bel lt1) trodAll_mk0)), rfl, bel.frame _, fun h => by cases h⟩

theorem CodeMakes_over : Rows.codeMakesRow.holds Try.pinned (OpenSpec.ofChange Rows.codeMakesSpec) :=
  OpenClaim.holds_of_wide 7 Try.f7 rfl rfl rfl rfl rfl rfl rfl ⟨rfl, rfl, rfl, rfl, rfl⟩ rfl rfl rfl rfl rfl (by kernel_rfl) Try.func7 (by kernel_rfl)
    (of_decide_eq_true (by kernel_rfl)) (by unfold Func.isWrapper; first | (rw [if_pos (by decide +kernel)]; kernel_rfl) | (rw [if_neg (by decide +kernel)]; exact ⟨rfl, rfl⟩))
    (fun os started H enc _ => CodeMakes_lifted os started H enc)

theorem CodeMakes_holds : Rows.CodeMakesSaid := CodeMakes_over
end Go.Proofs.Ytkkiemideldioaa
