import Derived.Test.YtlddglajdcednaaZr10
import Derived.OwnWalk

namespace Go.Proofs.Ytlddglajdcednaa

/-! ### the document's classes are joining's own -/
/-- closed, as the document closes its classes -/
structure Shut (l : List Cel) (p q : Nat) (V : Nat → Nat) : Prop where
  vars : ∀ a b (ha : a < l.length) (hb : b < l.length), l[a].k = 1 → l[a] = l[b] → V a = V b
  parts : ∀ a b (ha : a < l.length) (hb : b < l.length), V a = V b → l[a].k = 3 → l[a] = l[b] → (argsL l a).map V = (argsL l b).map V
  pair : V p = V q
/-- the least ones that are closed so -/
structure Least (l : List Cel) (p q : Nat) (W : Nat → Nat) : Prop extends Shut l p q W where
  least : ∀ V : Nat → Nat, Shut l p q V → ∀ a b, a < l.length → b < l.length → W a = W b → V a = V b
theorem not_fun {l : List Cel} {a : Nat} (ha : a < l.length) (h : l[a].k ≠ 3) : argsL l a = [] := by
  apply List.eq_nil_of_length_eq_zero
  rw [args_length l ha]; unfold ar; rw [if_neg h]
theorem joined_shut {l : List Cel} (_hG : Good l) {r : List Nat} {p q : Nat} (J : Joined l (ups l) r [(p, q)]) : Shut l p q (fun z => r.getD z 0) := by
  refine ⟨fun a b ha hb hk e => ?_, fun a b ha hb e hk el => ?_, J.done (p, q) (by simp)⟩
  · refine J.mono a b ha hb ?_
    have hkb : l[b].k = 1 := by rw [← e]; exact hk
    have h1 := first_of ha hk
    have h2 := first_of hb hkb
    rw [show l[b].n = l[a].n by rw [e]] at h2
    rw [h1] at h2
    injection h2 with h2
    show (ups l).getD a 0 = (ups l).getD b 0
    rw [ups_get ha, ups_get hb, h2]
  · exact (J.closed a b ha hb e (by omega) (by rw [← el]; omega)).2
/-- two cells that are no variables and not the same, in one of the document's classes: joining ends with none -/
theorem clash_none {l : List Cel} (hG : Good l) {p q : Nat} (hp : p < l.length) (hq : q < l.length) {W : Nat → Nat} (hW : Least l p q W) {a b : Nat} (ha : a < l.length) (hb : b < l.length) (e : W a = W b) (k1 : l[a].k ≠ 1) (k2 : l[b].k ≠ 1) (hne : l[a] ≠ l[b]) (f : Nat) :
    joinL l f (ups l) [(p, q)] = none := by
  cases h : joinL l f (ups l) [(p, q)] with
  | none => rfl
  | some r =>
    exfalso
    have J := joined_ups hG (t := [(p, q)]) (by simp [hp, hq]) h
    exact hne (J.closed a b ha hb (hW.least _ (joined_shut hG J) a b ha hb e) k1 k2).1
/-- no clash: joining ends well, with the document's classes -/
theorem clear_same {l : List Cel} (hG : Good l) {p q : Nat} (hp : p < l.length) (hq : q < l.length) {W : Nat → Nat} (hW : Least l p q W) (hc : ∀ a b (ha : a < l.length) (hb : b < l.length), W a = W b → l[a].k ≠ 1 → l[b].k ≠ 1 → l[a] = l[b]) :
    ∃ r, joinL l (7 * l.length + 1) (ups l) [(p, q)] = some r ∧ ∀ a b, a < l.length → b < l.length → (r.getD a 0 = r.getD b 0 ↔ W a = W b) := by
  have hJ : JoinOk l (ups l) [(p, q)] := laid_ok l _ (by simp [hp, hq])
  have ht : tops (ups l) ≤ l.length := by
    unfold tops
    have h1 := List.length_filter_le (fun k => decide ((ups l).getD k 0 = k)) (List.range (ups l).length)
    rw [List.length_range, hJ.len] at h1
    rw [hJ.len]
    exact h1
  have hV : ValOk l W := ⟨fun x y hx hy e k1 k2 => by
    have el := hc x y hx hy e k1 k2
    refine ⟨el, ?_⟩
    by_cases hk : l[x].k = 3
    · exact hW.parts x y hx hy e hk el
    · rw [not_fun hx hk, not_fun hy (by rw [← el]; exact hk)]⟩
  obtain ⟨r, e1, e2⟩ := join_val hG hV (7 * l.length + 1) (ups l) [(p, q)] hJ (by rw [List.length_singleton]; omega)
    (fun z hz => by
      rw [ups_get hz]
      by_cases hk : l[z].k = 1
      · obtain ⟨h1, _⟩ := upAt_le hz
        have hu : upAt l z < l.length := by omega
        have hf := first_of hz hk
        unfold firstO at hf
        obtain ⟨_, h2, _⟩ := List.findIdx?_eq_some_iff_getElem.1 hf
        simp only [isV, Bool.and_eq_true, decide_eq_true_eq] at h2
        exact hW.vars _ _ hu hz h2.1 (var_eq (good_ok hG hu) (good_ok hG hz) h2.1 hk h2.2)
      · have : upAt l z = z := by unfold upAt; rw [List.getElem?_eq_getElem hz]; simp [hk]
        rw [this])
    (by simp only [List.mem_singleton]; rintro _ rfl; exact hW.pair)
  have J := joined_ups hG (t := [(p, q)]) (by simp [hp, hq]) e1
  exact ⟨r, e1, fun a b ha hb => ⟨fun e => by rw [← e2 a ha, e, e2 b hb], fun e => hW.least _ (joined_shut hG J) a b ha hb e⟩⟩
/-- one class goes to another, for a reason: it stays least -/
theorem least_step {l : List Cel} {p q : Nat} {W : Nat → Nat} (h : ∀ V : Nat → Nat, Shut l p q V → ∀ a b, a < l.length → b < l.length → W a = W b → V a = V b) {x y : Nat} (hx : x < l.length) (hy : y < l.length)
    (hr : ∀ V : Nat → Nat, Shut l p q V → V x = V y) : ∀ V : Nat → Nat, Shut l p q V → ∀ a b, a < l.length → b < l.length →
    (if W a = W x then W y else W a) = (if W b = W x then W y else W b) → V a = V b := by
  intro V hV a b ha hb e
  have h0 := hr V hV
  by_cases h1 : W a = W x
  · rw [if_pos h1] at e
    have a1 := h V hV a x ha hx h1
    by_cases h2 : W b = W x
    · rw [a1, h V hV b x hb hx h2]
    · rw [if_neg h2] at e
      rw [a1, h0, h V hV y b hy hb e]
  · rw [if_neg h1] at e
    by_cases h2 : W b = W x
    · rw [if_pos h2] at e
      rw [h V hV a y ha hy e, ← h0, h V hV b x hb hx h2]
    · rw [if_neg h2] at e
      exact h V hV a b ha hb e
end Go.Proofs.Ytlddglajdcednaa
namespace Go.Proofs.Ytlddglajdcednaa
open Go.RowKit

/-! ### the document's own functions: places -/
set_option maxHeartbeats 800000 in
theorem end3_any (a : Option Addr) (cap : Nat) (w : World) (l : List Cel) (hx : Row w a cap l) (hG : Good l) {i : Nat} (hi : i < l.length) (hl : l.length ≤ 1000) :
    Calls Try.prog 52 #[.slice a l.length cap, .int .i64 i] w fun e w' => e = .returned (.int .i64 (endI l i)) ∧ Below w.heap.size w w' := by
  obtain ⟨q, hq⟩ := hG i hi
  have he : endI l i = (l.length : Int) - q.length := by unfold endI; rw [hq]
  have HQ : Hid (sk 1 (l.drop i) = some q) := hq
  have HE := mkHid he
  have hm := hx.max
  have hle := hx.le
  clear hq he hG
  go_enter Try.func52, Try.ntmps52
  go_wp2_with fail
  go_loopw [1, 5] (fun at_ lf wr => ∃ (k m : Nat), at_ = .int .i64 k ∧ lf = .int .i64 m ∧ k ≤ l.length ∧ m ≤ 6 * k + 1 ∧ Hid (sk m (l.drop k) = some q) ∧ Below w.heap.size w wr) (fun at_ lf wr => l.length - (intOf at_).toNat)
  case atStart => exact ⟨i, 1, rfl, rfl, by omega, by omega, HQ, Below.refl _ _⟩
  case round =>
    obtain ⟨k, m, rfl, rfl, hk, hmk, HS, hbl⟩ := hrel
    cases m with
    | zero =>
      have HV : Hid ((k : Int) = endI l i) := by
        have h := HS.out
        rw [sk_zero] at h
        injection h with h
        rw [Hid, HE.out, ← h, List.length_drop]
        omega
      clear HS
      go_wp2
      go_ret
      exact ⟨by rw [HV.out]; rfl, hbl⟩
    | succ m =>
      have hlt : k < l.length := by
        by_cases h : k < l.length
        · exact h
        · have h2 := HS.out
          rw [sk_end m l k (by omega)] at h2; cases h2
      have hst := sk_step m l k hlt
      rw [HS.out] at hst
      have hc : cellOk l[k] = true := by
        by_cases h : cellOk l[k] = true
        · exact h
        · rw [if_neg h] at hst; cases hst
      rw [if_pos hc] at hst
      have hsym := hst.symm
      obtain ⟨b, off, rfl, hb, hat⟩ := hx.cases.resolve_left (fun e => by simp [e] at hlt)
      obtain ⟨c0, c1, c2, hf⟩ := cel_at hat hbl hlt
      have hm0 : decide ((0 : Int) < ((m + 1 : Nat) : Int)) = true := decide_eq_true (by omega)
      have hk0 : (0 : Int) ≤ (k : Int) := by omega
      have hk1 : (k : Int) < (l.length : Int) := by omega
      by_cases h3 : l[k].k = 3
      · have t15 : (l[k].k == 3) = true := by simp [h3]
        obtain ⟨n0, n6⟩ := cellOk_fun _ hc t15
        obtain ⟨d, hd⟩ : ∃ d : Nat, l[k].n = (d : Int) := ⟨l[k].n.toNat, by omega⟩
        have har : ar l[k] = d := by unfold ar; rw [if_pos h3, hd]; simp
        rw [hd] at c2
        have HS2 : Hid (sk (m + d) (l.drop (k + 1)) = some q) := by rw [Hid, ← har]; exact hsym
        have hd6 : d ≤ 6 := by omega
        clear h3 hst hsym hc hd har n0 n6 HS
        go_wp2
        go_round
        case rel => exact ⟨k + 1, m + d, by go_num, by go_num, by omega, by omega, HS2, hbl⟩
        case measure => simp [intOf]; omega
      · have t15 : (l[k].k == 3) = false := by simp [h3]
        have har : ar l[k] = 0 := by unfold ar; rw [if_neg h3]
        have HS2 : Hid (sk m (l.drop (k + 1)) = some q) := by rw [har, Nat.add_zero] at hsym; exact hsym
        clear h3 hst hsym hc har HS
        go_wp2
        go_round
        case rel => exact ⟨k + 1, m, by go_num, by go_num, by omega, by omega, HS2, hbl⟩
        case measure => simp [intOf]; omega
/-- places as numbers -/
def natI (l : List Nat) : List Int := l.map fun (n : Nat) => (n : Int)
theorem natI_length (l : List Nat) : (natI l).length = l.length := by unfold natI; rw [List.length_map]
theorem args_take {l : List Cel} {i k : Nat} (hi : i < l.length) (hk : k < ar l[i]) : natI ((argsL l i).take (k + 1)) = natI ((argsL l i).take k) ++ [(argP l i k : Int)] := by
  have h : k < (argsL l i).length := by rw [args_length l hi]; exact hk
  rw [List.take_succ_eq_append_getElem h]
  unfold natI
  rw [List.map_append]
  have : (argsL l i)[k] = argP l i k := by simp [argsL, List.getElem?_eq_getElem hi]
  rw [this]; rfl
theorem argP_lt {l : List Cel} (hG : Good l) {i k : Nat} (hi : i < l.length) (hk : k < ar l[i]) : argP l i k < l.length ∧ endI l (argP l i k) = (argP l i (k + 1) : Int) := by
  have h1 := (good_after hG hi (Nat.le_of_lt hk))
  have h2 := h1.2.2 hk
  have h3 : argP l i k < l.length := by unfold argP; omega
  have h4 := argP_next hG hi hk
  have h5 := end_range hG h3
  exact ⟨h3, by omega⟩
set_option maxHeartbeats 1600000 in
theorem parts3_any (a : Option Addr) (cap : Nat) (w : World) (l : List Cel) (hx : Row w a cap l) (hG : Good l) {i : Nat} (hi : i < l.length) (hl : l.length ≤ 1000) :
    Calls Try.prog 76 #[.slice a l.length cap, .int .i64 i] w fun e w' => ∃ v, e = .returned v ∧ AccInv w.heap.size 3 (natI (argsL l i)) v w' ∧ Below w.heap.size w w' := by
  have hm := hx.max
  have hle := hx.le
  have HG := mkHid hG
  have HX := mkHid hx
  have hc := (good_cell hG hi).1
  obtain ⟨b, off, rfl, hb, hat⟩ := hx.cases.resolve_left (fun e => by simp [e] at hi)
  have hb0 := (Below.refl w.heap.size w).new (.cells #[] 3)
  have HA0 : Hid (AccInv w.heap.size 3 ([] : List Int) (.slice (some ⟨w.heap.size, 0, none⟩) 0 0) (w.alloc (.cells #[] 3))) := AccInv.made w (Nat.le_refl _) rfl
  obtain ⟨c0, c1, c2, hf⟩ := cel_at hat hb0 hi
  have hi0 : (0 : Int) ≤ (i : Int) := by omega
  have hi1 : (i : Int) < (l.length : Int) := by omega
  by_cases h3 : l[i].k = 3
  · have t14 : (l[i].k != 3) = false := by simp [h3]
    obtain ⟨n0, n6⟩ := cellOk_fun _ hc (by simp [h3])
    obtain ⟨d, hd⟩ : ∃ d : Nat, l[i].n = (d : Int) := ⟨l[i].n.toNat, by omega⟩
    have har : ar l[i] = d := by unfold ar; rw [if_pos h3, hd]; simp
    have hp0 : Hid (argP l i 0 = i + 1) := argP_zero hi
    have hd6 : d ≤ 6 := by omega
    have HAR := mkHid har
    have HD := mkHid hd
    clear h3 hd har n0 n6 hG hx hc hb
    go_enter Try.func76, Try.ntmps76
    go_wp2
    go_loopw [5, 6, 7] (fun v to j wr => ∃ k : Nat, k ≤ d ∧ j = .int .i64 k ∧ to = .int .i64 (argP l i k) ∧ Hid (AccInv w.heap.size 3 (natI ((argsL l i).take k)) v wr) ∧ Below w.heap.size w wr) (fun v to j wr => d - (intOf j).toNat)
    case atStart => exact ⟨0, Nat.zero_le _, rfl, by rw [hp0.out]; go_num, by rw [List.take_zero]; exact HA0, hb0⟩
    case round =>
      clear HA0 hb0 c0 c1 c2
      obtain ⟨k, hk, rfl, rfl, HA, hbl⟩ := hrel
      obtain ⟨c0, c1, c2, hf⟩ := cel_at hat hbl hi
      rw [HD.out] at c2
      by_cases hlt : k < d
      · have hka : k < ar l[i] := by rw [HAR.out]; exact hlt
        obtain ⟨hq1, hq2⟩ := argP_lt HG.out hi hka
        have HQ2 := mkHid hq2
        have HT := mkHid (args_take hi hka)
        have hll : (natI ((argsL l i).take k)).length ≤ 10 := by rw [natI_length, List.length_take]; omega
        obtain ⟨p, hp⟩ : ∃ p, argP l i k = p := ⟨_, rfl⟩
        rw [hp] at hq1 HQ2 HT ⊢
        have hs := hbl.size
        have h1 : decide ((k : Int) < (d : Int)) = true := decide_eq_true (by omega)
        clear hq2 hka hp
        go_wp2_with (at_builtin; refine wpList_acc (α := Int) rfl _ _ 36 rfl w.heap.size 3 8 _ Try.underlying36 Try.infoInt rfl (by decide) _ (natI ((argsL l i).take k)) HA.out rfl _ #[.int .i64 p] (p : Int) ⟨rfl, by omega, by omega⟩ rfl (by omega) hs ?_; intro v' w2 hacc hb2)
        have hbl2 := hbl.trans hb2
        have HACC : Hid (AccInv w.heap.size 3 (natI ((argsL l i).take (k + 1))) v' w2) := by rw [Hid, HT.out]; exact hacc
        clear hacc c0 c1 c2
        refine (end3_any _ cap _ l (HX.out.below hbl2) HG.out hq1 hl).mono ?_
        rintro e w3 ⟨rfl, hb3⟩
        rw [HQ2.out]
        have HACC3 := mkHid (HACC.out.below hb3)
        have hbl3 := hbl2.then hb3
        go_wp2
        go_round
        case rel => exact ⟨k + 1, by omega, by go_num, rfl, HACC3, hbl3⟩
        case measure => simp [intOf]; omega
      · have he := HA.out
        rw [List.take_of_length_le (by rw [args_length l hi, HAR.out]; omega)] at he
        have HE := mkHid he
        clear he
        have h1 : decide ((k : Int) < (d : Int)) = false := decide_eq_false (by omega)
        clear HA
        go_wp2
        go_ret
        exact ⟨_, rfl, HE.out, hbl⟩
  · have t14 : (l[i].k != 3) = true := by simp [h3]
    have HN : Hid (argsL l i = []) := not_fun hi h3
    clear h3 hG hx hc hb
    go_enter Try.func76, Try.ntmps76
    go_wp2
    go_ret
    exact ⟨_, rfl, by rw [HN.out]; exact HA0.out, hb0⟩
/-! ### one class goes to another -/
def toI (f t : Int) (z : Int) : Int := if z = f then t else z
def upI2 (f t : Int) (cs : List Int) (k : Nat) : List Int := (cs.take k).map (toI f t) ++ cs.drop k
theorem upI2_length (f t : Int) (cs : List Int) (k : Nat) : (upI2 f t cs k).length = cs.length := by
  unfold upI2; simp; omega
theorem upI2_at {f t : Int} {cs : List Int} {k : Nat} (h : k < cs.length) : (upI2 f t cs k)[k]? = some cs[k] := by
  unfold upI2
  rw [List.getElem?_append_right (by simp; omega)]
  have : k - ((cs.take k).map (toI f t)).length = 0 := by simp; omega
  rw [this, List.getElem?_drop, Nat.add_zero, List.getElem?_eq_getElem h]
theorem upI2_succ {f t : Int} {cs : List Int} {k : Nat} (h : k < cs.length) : upI2 f t cs (k + 1) = (upI2 f t cs k).set k (toI f t cs[k]) := by
  unfold upI2
  rw [List.take_succ_eq_append_getElem h, List.map_append, List.append_assoc, List.set_append_right _ _ (by simp; omega)]
  congr 1
  have : k - ((cs.take k).map (toI f t)).length = 0 := by simp; omega
  rw [this, List.drop_eq_getElem_cons h]
  rfl
theorem upI2_same {f t : Int} {cs : List Int} {k : Nat} (h : k < cs.length) (hf : cs[k] ≠ f) : upI2 f t cs (k + 1) = upI2 f t cs k := by
  rw [upI2_succ h]
  have : toI f t cs[k] = cs[k] := if_neg hf
  rw [this]
  have h2 := upI2_at (f := f) (t := t) h
  have hl : k < (upI2 f t cs k).length := by rw [upI2_length]; exact h
  rw [List.getElem?_eq_getElem hl] at h2
  have h3 := Option.some.inj h2
  rw [← h3, List.set_getElem_self]
theorem upI2_fit {f t : Int} {cs : List Int} (k : Nat) (ht : -9223372036854775808 ≤ t ∧ t ≤ 9223372036854775807) (h : ∀ n ∈ cs, -9223372036854775808 ≤ n ∧ n ≤ 9223372036854775807) : ∀ n ∈ upI2 f t cs k, -9223372036854775808 ≤ n ∧ n ≤ 9223372036854775807 := by
  intro n hn
  unfold upI2 at hn
  rcases List.mem_append.1 hn with h1 | h1
  · obtain ⟨m, hm, rfl⟩ := List.mem_map.1 h1
    unfold toI
    split
    · exact ht
    · exact h m (List.mem_of_mem_take hm)
  · exact h n (List.mem_of_mem_drop h1)
theorem row_ints {w : World} {a : Option Addr} {cap : Nat} {cs : List Int} (h : Row w a cap cs) : ∀ n ∈ cs, -9223372036854775808 ≤ n ∧ n ≤ 9223372036854775807 := by
  intro n hn
  obtain ⟨i, hi, rfl⟩ := List.getElem_of_mem hn
  obtain ⟨b, off, rfl, _, hat⟩ := h.cases.resolve_left (fun e => by simp [e] at hi)
  obtain ⟨_, h1, h2⟩ := int_at hat (Below.refl _ _) hi
  exact ⟨h1, h2⟩
theorem crows_vals {w : World} {vs : List Value} {xs : List Int} (h : CRows w vs xs) : vs = xs.map (Value.int .i64) := by
  induction h with
  | nil => rfl
  | cons hc _ ih => obtain ⟨rfl, _⟩ := hc; rw [ih]; rfl
set_option maxHeartbeats 1600000 in
theorem one3_any (a : Option Addr) (cap : Nat) (w : World) (cs : List Int) (hx : Row w a cap cs) (f t : Int) (ht : -9223372036854775808 ≤ t ∧ t ≤ 9223372036854775807) (hl : cs.length ≤ 1000) (h0 : 0 < cs.length) :
    Calls Try.prog 74 #[.slice a cs.length cap, .int .i64 f, .int .i64 t] w fun e w' => ∃ a' cap', e = .returned (.slice a' cs.length cap') ∧ Row w' a' cap' (cs.map (toI f t)) ∧ Below w.heap.size w w' := by
  have hm := hx.max
  have hle := hx.le
  have HF := mkHid (row_ints hx)
  have hb0 := (Below.refl w.heap.size w).new (.cells #[] 3)
  have HA0 : AccInv w.heap.size 3 ([] : List Int) (.slice (some ⟨w.heap.size, 0, none⟩) 0 0) (w.alloc (.cells #[] 3)) := AccInv.made w (Nat.le_refl _) rfl
  have hro : Row (hide (Value.slice (some ⟨w.heap.size, 0, none⟩) 0 0).ownBlock (w.alloc (.cells #[] 3))) a cap cs := hx.keeps (HA0.fresh hb0)
  have HT := mkHid ht
  clear ht
  go_enter Try.func74, Try.ntmps74
  go_wp2_with (at_builtin; refine wpList_accs (α := Int) rfl _ _ 36 rfl w.heap.size 3 8 _ Try.underlying36 Try.infoInt rfl (by decide) _ [] HA0 (by rfl) _ _ cs hro (by rfl) (by simp; omega) hb0.size ?_; intro v' w2 hacc hb2)
  rw [List.nil_append] at hacc
  have hbl2 := hb0.trans hb2
  obtain ⟨vs, hown, hcr⟩ := hacc.ex
  obtain rfl := crows_vals hcr
  obtain ⟨g, cp, rfl, hg1, hg2, hg3, hg4⟩ := own_form hown h0
  have HOWN0 : Hid (w2.ownsRow w.heap.size 3 1 (.slice (some ⟨g, 0, none⟩) cs.length cp) cs.length ((upI2 f t cs 0).map (Value.int .i64))) := by
    have : upI2 f t cs 0 = cs := by unfold upI2; simp
    rw [Hid, this]; exact hown
  clear hown hcr hacc HA0 hro hb0 hb2
  go_wp2_with fail
  go_loopw [8] (fun i wr => ∃ k : Nat, k ≤ cs.length ∧ i = .int .i64 k ∧ Hid (wr.ownsRow w.heap.size 3 1 (.slice (some ⟨g, 0, none⟩) cs.length cp) cs.length ((upI2 f t cs k).map (Value.int .i64))) ∧ Below w.heap.size w wr) (fun i wr => cs.length - (intOf i).toNat)
  case atStart => exact ⟨0, Nat.zero_le _, rfl, HOWN0, hbl2⟩
  case round =>
    clear HOWN0 hbl2
    obtain ⟨k, hk, rfl, HOWN, hbl⟩ := hrel
    have hgl := (HOWN.out.lt g rfl).2
    by_cases hlt : k < cs.length
    · have o0 : wr.cell? ⟨g, k, none⟩ = some (.int .i64 cs[k]) := by
        have := HOWN.out.cells (g := g) rfl k (.int .i64 cs[k]) (by rw [List.getElem?_map, upI2_at hlt]; rfl)
        have e : (Addr.mk g 0 none).add k = ⟨g, k, none⟩ := by unfold Addr.add; split <;> simp_all
        rw [e] at this; exact this
      have hfz := own_free HOWN.out k
      have hk0 : (0 : Int) ≤ (k : Int) := by omega
      have hk1 : (k : Int) < (cs.length : Int) := by omega
      by_cases h1 : cs[k] = f
      · have t1 : (cs[k] == f) = true := by simp [h1]
        have HS : Hid ((wr.setCell ⟨g, k, none⟩ (.int .i64 t)).ownsRow w.heap.size 3 1 (.slice (some ⟨g, 0, none⟩) cs.length cp) cs.length ((upI2 f t cs (k + 1)).map (Value.int .i64))) := by
          have h := (HOWN.out.stored k (.int .i64 t)).1
          rw [Hid, upI2_succ hlt, List.map_set]
          have : toI f t cs[k] = t := if_pos h1
          rw [this]; exact h
        have HB := mkHid (hbl.setCell (p := ⟨g, k, none⟩) hg1 (.int .i64 t))
        clear h1 HOWN
        go_wp2
        go_round
        case rel => exact ⟨k + 1, by omega, by go_num, HS, HB.out⟩
        case measure => simp [intOf]; omega
      · have t1 : (cs[k] == f) = false := by simp [h1]
        have HS : Hid (wr.ownsRow w.heap.size 3 1 (.slice (some ⟨g, 0, none⟩) cs.length cp) cs.length ((upI2 f t cs (k + 1)).map (Value.int .i64))) := by
          rw [Hid, upI2_same hlt h1]; exact HOWN.out
        clear h1 HOWN
        go_wp2
        go_round
        case rel => exact ⟨k + 1, by omega, by go_num, HS, hbl⟩
        case measure => simp [intOf]; omega
    · have HE : Hid (Row wr (some ⟨g, 0, none⟩) cp (cs.map (toI f t))) := by
        have hall : upI2 f t cs k = cs.map (toI f t) := by unfold upI2; rw [List.take_of_length_le (by omega), List.drop_of_length_le (by omega), List.append_nil]
        have h := HOWN.out
        rw [hall] at h
        obtain ⟨a2, c2, e, hr⟩ := own_rowI (xs := cs.map (toI f t)) (by rw [List.length_map]; exact h) (by
          have := upI2_fit (f := f) (cs := cs) cs.length HT.out HF.out
          unfold upI2 at this
          rw [List.take_length, List.drop_length, List.append_nil] at this
          exact this)
        rw [List.length_map] at e
        cases e
        exact hr
      clear HOWN
      go_wp2
      go_ret
      exact ⟨_, _, rfl, HE.out, hbl⟩
end Go.Proofs.Ytlddglajdcednaa
namespace Go.Proofs.Ytlddglajdcednaa
open Go.RowKit

/-! ### two places that must be of one class -/
def clsI (n : Nat) (W : Nat → Nat) : List Int := (List.range n).map fun (z : Nat) => ((W z : Nat) : Int)
theorem clsI_length (n : Nat) (W : Nat → Nat) : (clsI n W).length = n := by unfold clsI; simp
theorem clsI_get {n : Nat} {W : Nat → Nat} {k : Nat} (h : k < (clsI n W).length) : (clsI n W)[k] = ((W k : Nat) : Int) := by simp [clsI]
theorem cls_at {w wr : World} {b off n : Nat} {W : Nat → Nat} (hat : ∀ i (hi : i < (clsI n W).length), Rep.E w b (off + i * Rep.sz Int) (clsI n W)[i]) (hb : Below w.heap.size w wr) {k : Nat} (hk : k < n) : wr.cell? ⟨b, off + k, none⟩ = some (.int .i64 ((W k : Nat) : Int)) := by
  have h := (int_at hat hb (k := k) (by rw [clsI_length]; exact hk)).c
  rw [clsI_get] at h; exact h
theorem natI_get {l : List Cel} {k i : Nat} (hk : k < l.length) (h : i < (natI (argsL l k)).length) : (natI (argsL l k))[i] = ((argP l k i : Nat) : Int) := by
  simp [natI, argsL, List.getElem?_eq_getElem hk]
/-- what is asked of two places -/
def Cl (l : List Cel) (W : Nat → Nat) (a b : Nat) : Prop := ∀ (ha : a < l.length) (hb : b < l.length), (l[a].k = 1 → l[a] = l[b] → W a = W b) ∧ (W a = W b → l[a].k = 3 → l[a] = l[b] → ∀ i, i < ar l[a] → W (argP l a i) = W (argP l b i))
def PairYes (l : List Cel) (W : Nat → Nat) (x y : Nat) : Prop := x < l.length ∧ y < l.length ∧ W x ≠ W y ∧ ((∃ (hx : x < l.length) (hy : y < l.length), l[x].k = 1 ∧ l[x] = l[y]) ∨ ∃ (a b i : Nat) (ha : a < l.length) (hb : b < l.length), W a = W b ∧ l[a].k = 3 ∧ l[a] = l[b] ∧ i < ar l[a] ∧ x = argP l a i ∧ y = argP l b i)
def PairNo (l : List Cel) (W : Nat → Nat) : Prop := ∀ a b, a < l.length → b < a → Cl l W a b
def PairPost (l : List Cel) (W : Nat → Nat) (e : Ending) : Prop := (∃ x y : Nat, e = .returned (.tuple #[.int .i64 x, .int .i64 y, .bool true]) ∧ PairYes l W x y) ∨ (e = .returned (.tuple #[.int .i64 0, .int .i64 0, .bool false]) ∧ PairNo l W)
/-- all pairs ahead -/
def Done1 (l : List Cel) (W : Nat → Nat) (k : Nat) : Prop := ∀ a b, a < k → b < a → Cl l W a b
def Done2 (l : List Cel) (W : Nat → Nat) (k m : Nat) : Prop := Done1 l W k ∧ ∀ b, b < m → Cl l W k b
theorem Done2.next {l : List Cel} {W : Nat → Nat} {k m : Nat} (h : Done2 l W k m) (hc : Cl l W k m) : Done2 l W k (m + 1) :=
  ⟨h.1, fun b hb => by
    by_cases e : b = m
    · rw [e]; exact hc
    · exact h.2 b (by omega)⟩
theorem Done2.done {l : List Cel} {W : Nat → Nat} {k m : Nat} (h : Done2 l W k m) (hm : k ≤ m) : Done1 l W (k + 1) := fun a b ha hb => by
  by_cases e : a = k
  · subst e; exact h.2 b (by omega)
  · exact h.1 a b (by omega) hb

set_option maxRecDepth 100000 in
set_option maxHeartbeats 8000000 in
theorem pair3_any (a : Option Addr) (cap : Nat) (a' : Option Addr) (cap' : Nat) (w : World) (l : List Cel) (W : Nat → Nat) (hx : Row w a cap l) (hc : Row w a' cap' (clsI l.length W)) (hG : Good l) (hW : ∀ z, z < l.length → W z < l.length) (hl : l.length ≤ 1000) :
    Calls Try.prog 75 #[.slice a l.length cap, .slice a' l.length cap'] w fun e w' => PairPost l W e ∧ Below w.heap.size w w' := by
  have hm := hx.max
  have hle := hx.le
  have hmc := hc.max
  have hlc := hc.le
  rw [clsI_length] at hlc
  have HX := mkHid hx
  have HC := mkHid hc
  have HG := mkHid hG
  have HW := mkHid hW
  clear hx hc hG hW
  go_enter Try.func75, Try.ntmps75
  go_wp2_with fail
  go_loopw [7, 8, 9, 10, 11] (fun ka x1 x2 x3 x4 wr => ∃ k : Nat, k ≤ l.length ∧ ka = .int .i64 k ∧ Hid (Done1 l W k) ∧ Below w.heap.size w wr) (fun ka x1 x2 x3 x4 wr => l.length - (intOf ka).toNat)
  case atStart => exact ⟨0, Nat.zero_le _, rfl, fun a b ha => by omega, Below.refl _ _⟩
  case round =>
    obtain ⟨k, hk, rfl, HD, hbl⟩ := hrel
    by_cases hlt : k < l.length
    · obtain ⟨b, off, rfl, _, hat⟩ := HX.out.cases.resolve_left (fun e => by simp [e] at hlt)
      obtain ⟨bc, oc, rfl, _, hatc⟩ := HC.out.cases.resolve_left (fun e => by have h2 := congrArg List.length e; rw [clsI_length] at h2; simp at h2; simp [h2] at hlt)
      have HAT := mkHid hat
      have HATC := mkHid hatc
      have hk0 : (0 : Int) ≤ (k : Int) := by omega
      have hk1 : (k : Int) < (l.length : Int) := by omega
      clear hat hatc
      go_wp2_with fail
      go_loopw [8, 9, 10, 11] (fun mb x1 x2 x3 wq => ∃ m : Nat, m ≤ k ∧ mb = .int .i64 m ∧ Hid (Done2 l W k m) ∧ Below w.heap.size w wq) (fun mb x1 x2 x3 wq => k - (intOf mb).toNat)
      case atStart => exact ⟨0, Nat.zero_le _, rfl, ⟨HD.out, fun b hb => by omega⟩, hbl⟩
      case round =>
        clear HD hbl
        obtain ⟨m, hmk, rfl, HD, hbl⟩ := hrel
        by_cases hlm : m < k
        · have hml : m < l.length := by omega
          obtain ⟨c0, c1, c2, hcf⟩ := cel_at HAT.out hbl hlt
          obtain ⟨d0, d1, d2, hdf⟩ := cel_at HAT.out hbl hml
          have q0 := cls_at HATC.out hbl hlt
          have q1 := cls_at HATC.out hbl hml
          have heq := fun w => run_eql_cel l[k] l[m] w
          have hneq := fun w => run_neq_cel l[k] l[m] w
          have hm0 : (0 : Int) ≤ (m : Int) := by omega
          have hm1 : (m : Int) < (l.length : Int) := by omega
          have hmk' : decide ((m : Int) < (k : Int)) = true := decide_eq_true (by omega)
          clear hcf hdf
          by_cases v : l[k].k = 1
          · have t28 : (l[k].k == 1) = true := by simp [v]
            have t68 : (l[k].k != 3) = true := by simp [v]
            by_cases e : l[k] = l[m]
            · rw [decide_eq_true e] at heq
              by_cases u : W k = W m
              · have t49 : (((W k : Nat) : Int) != ((W m : Nat) : Int)) = false := by simp [u]
                have HN : Hid (Done2 l W k (m + 1)) := HD.out.next fun _ _ => ⟨fun _ _ => u, fun _ h3 _ => by omega⟩
                clear v e u HD hneq
                go_wp2
                go_quiet (fail)
                go_wp2
                go_quiet (fail)
                go_wp2
                go_round
                case rel => exact ⟨m + 1, by omega, by go_num, HN, ⟨hbl.os, hbl.tape, hbl.output, hbl.size, hbl.block⟩⟩
                case measure => simp [intOf]; omega
              · have t49 : (((W k : Nat) : Int) != ((W m : Nat) : Int)) = true := by simp; exact fun h => u (by omega)
                have HY : Hid (PairYes l W k m) := ⟨hlt, hml, u, .inl ⟨hlt, hml, v, e⟩⟩
                clear v e u HD hneq
                go_wp2
                go_quiet (fail)
                go_wp2
                go_ret3
                exact ⟨.inl ⟨k, m, rfl, HY.out⟩, ⟨hbl.os, hbl.tape, hbl.output, hbl.size, hbl.block⟩⟩
            · rw [decide_eq_false e] at heq
              have HN : Hid (Done2 l W k (m + 1)) := HD.out.next fun _ _ => ⟨fun _ h => absurd h e, fun _ h3 _ => by omega⟩
              by_cases u : W k = W m
              · have t49 : (((W k : Nat) : Int) != ((W m : Nat) : Int)) = false := by simp [u]
                clear v e u HD hneq
                go_wp2
                go_quiet (fail)
                go_wp2
                go_quiet (fail)
                go_wp2
                go_round
                case rel => exact ⟨m + 1, by omega, by go_num, HN, ⟨hbl.os, hbl.tape, hbl.output, hbl.size, hbl.block⟩⟩
                case measure => simp [intOf]; omega
              · have t49 : (((W k : Nat) : Int) != ((W m : Nat) : Int)) = true := by simp; exact fun h => u (by omega)
                clear v e u HD hneq
                go_wp2
                go_quiet (fail)
                go_wp2
                go_quiet (fail)
                go_wp2
                go_round
                case rel => exact ⟨m + 1, by omega, by go_num, HN, ⟨hbl.os, hbl.tape, hbl.output, hbl.size, hbl.block⟩⟩
                case measure => simp [intOf]; omega
          · have t28 : (l[k].k == 1) = false := by simp [v]
            by_cases u : W k = W m
            · have t49 : (((W k : Nat) : Int) != ((W m : Nat) : Int)) = false := by simp [u]
              by_cases f : l[k].k = 3
              · have t68 : (l[k].k != 3) = false := by simp [f]
                by_cases e : l[k] = l[m]
                · rw [decide_eq_true e] at hneq
                  have HDM := mkHid HD.out
                  obtain ⟨d, hd⟩ : ∃ d, ar l[k] = d := ⟨_, rfl⟩
                  have hdm : ar l[m] = d := by rw [← e]; exact hd
                  have HDK := mkHid hd
                  have HDD := mkHid hdm
                  have HE := mkHid e
                  have HF := mkHid f
                  have HU := mkHid u
                  have HV := mkHid v
                  clear v e u f HD heq hd hdm
                  go_wp2
                  go_quiet (fail)
                  go_wp2
                  go_quiet (fail)
                  go_wp2_with fail
                  refine (parts3_any _ cap _ l (HX.out.below (by exact ⟨hbl.os, hbl.tape, hbl.output, hbl.size, hbl.block⟩)) HG.out hlt hl).mono ?_
                  rintro e2 w2 ⟨v2, rfl, ha2, hb2⟩
                  obtain ⟨a2, c2', rfl, hr2⟩ := ha2.row
                  have hbl2 : Below w.heap.size w w2 := by
                    refine Below.then ?_ hb2
                    exact ⟨hbl.os, hbl.tape, hbl.output, hbl.size, hbl.block⟩
                  have HR2a := mkHid hr2
                  clear hr2 ha2 hb2 c0 c1 c2 d0 d1 d2 q0 q1
                  go_wp2_with fail
                  refine (parts3_any _ cap _ l (HX.out.below hbl2) HG.out hml hl).mono ?_
                  rintro e3 w3 ⟨v3, rfl, ha3, hb3⟩
                  obtain ⟨a3, c3', rfl, hr3⟩ := ha3.row
                  have hbl3 := hbl2.then hb3
                  have HR2 := mkHid (HR2a.out.below hb3)
                  have HR3 := mkHid hr3
                  clear hr3 ha3 hb3
                  rw [show (natI (argsL l k)).length = d by rw [natI_length, args_length l hlt]; exact HDK.out]
                  rw [show (natI (argsL l m)).length = d by rw [natI_length, args_length l hml]; exact HDD.out]
                  have hd6 : d ≤ 6 := by
                    have h := ar_le l[k] (good_cell HG.out hlt).1
                    rw [HDK.out] at h; exact h
                  go_wp2_with fail
                  go_loopw [11] (fun ii wz => ∃ i : Nat, i ≤ d ∧ ii = .int .i64 i ∧ Hid (∀ j, j < i → W (argP l k j) = W (argP l m j)) ∧ Below w3.heap.size w3 wz) (fun ii wz => d - (intOf ii).toNat)
                  case atStart => exact ⟨0, Nat.zero_le _, rfl, fun j hj => by omega, Below.refl _ _⟩
                  case round =>
                    obtain ⟨i, hi, rfl, HI, hbz⟩ := hrel
                    by_cases hid : i < d
                    · obtain ⟨hp1, _⟩ := argP_lt HG.out hlt (k := i) (by rw [HDK.out]; exact hid)
                      obtain ⟨hp2, _⟩ := argP_lt HG.out hml (k := i) (by rw [HDD.out]; exact hid)
                      have i2 : i < (natI (argsL l k)).length := by rw [natI_length, args_length l hlt, HDK.out]; exact hid
                      have i3 : i < (natI (argsL l m)).length := by rw [natI_length, args_length l hml, HDD.out]; exact hid
                      obtain ⟨b2, o2, rfl, _, hat2⟩ := HR2.out.cases.resolve_left (fun e => by rw [e] at i2; cases i2)
                      obtain ⟨b3, o3, rfl, _, hat3⟩ := HR3.out.cases.resolve_left (fun e => by rw [e] at i3; cases i3)
                      have e2 := (int_at hat2 hbz i2).c
                      have e3 := (int_at hat3 hbz i3).c
                      rw [natI_get hlt i2] at e2
                      rw [natI_get hml i3] at e3
                      have g2 := cls_at HATC.out (hbl3.then hbz) hp1
                      have g3 := cls_at HATC.out (hbl3.then hbz) hp2
                      have HYY : Hid (W (argP l k i) ≠ W (argP l m i) → PairYes l W (argP l k i) (argP l m i)) := fun h => ⟨hp1, hp2, h, .inr ⟨k, m, i, hlt, hml, HU.out, HF.out, HE.out, by rw [HDK.out]; exact hid, rfl, rfl⟩⟩
                      have HII : Hid (W (argP l k i) = W (argP l m i) → ∀ j, j < i + 1 → W (argP l k j) = W (argP l m j)) := fun h j hj => by
                        by_cases e : j = i
                        · rw [e]; exact h
                        · exact HI.out j (by omega)
                      obtain ⟨p, hp⟩ : ∃ p, argP l k i = p := ⟨_, rfl⟩
                      obtain ⟨q, hq⟩ : ∃ p, argP l m i = p := ⟨_, rfl⟩
                      rw [hp] at hp1 e2 g2 HYY HII
                      rw [hq] at hp2 e3 g3 HYY HII
                      have hi0 : (0 : Int) ≤ (i : Int) := by omega
                      have hi1 : (i : Int) < (d : Int) := by omega
                      have hpi0 : (0 : Int) ≤ (p : Int) := by omega
                      have hpi1 : (p : Int) < (l.length : Int) := by omega
                      have hqi0 : (0 : Int) ≤ (q : Int) := by omega
                      have hqi1 : (q : Int) < (l.length : Int) := by omega
                      clear hp hq i2 i3 hat2 hat3 HI
                      by_cases u2 : W p = W q
                      · have t107 : (((W p : Nat) : Int) != ((W q : Nat) : Int)) = false := by simp [u2]
                        have HJ := mkHid (HII.out u2)
                        clear u2 HYY HII
                        go_wp2
                        go_quiet (fail)
                        go_wp2
                        go_round
                        case rel => exact ⟨i + 1, by omega, by go_num, HJ, ⟨hbz.os, hbz.tape, hbz.output, hbz.size, hbz.block⟩⟩
                        case measure => simp [intOf]; omega
                      · have t107 : (((W p : Nat) : Int) != ((W q : Nat) : Int)) = true := by simp; exact fun h => u2 (by omega)
                        have HY := mkHid (HYY.out u2)
                        clear u2 HYY HII
                        go_wp2
                        go_quiet (fail)
                        go_wp2
                        go_quiet (fail)
                        go_wp2
                        go_ret3
                        refine ⟨.inl ⟨p, q, rfl, HY.out⟩, hbl3.then ?_⟩
                        exact ⟨hbz.os, hbz.tape, hbz.output, hbz.size, hbz.block⟩
                    · have HN : Hid (Done2 l W k (m + 1)) := HDM.out.next fun _ _ => ⟨fun h _ => absurd h HV.out, fun _ _ _ j hj => HI.out j (by rw [HDK.out] at hj; omega)⟩
                      clear HI
                      go_wp2
                      go_round
                      case rel => exact ⟨m + 1, by omega, by go_num, HN, hbl3.then hbz⟩
                      case measure => simp [intOf]; omega
                · rw [decide_eq_false e] at hneq
                  have HN : Hid (Done2 l W k (m + 1)) := HD.out.next fun _ _ => ⟨fun h _ => absurd h v, fun _ _ h => absurd h e⟩
                  clear v e u f HD heq
                  go_wp2
                  go_quiet (fail)
                  go_wp2
                  go_quiet (fail)
                  go_wp2
                  go_round
                  case rel => exact ⟨m + 1, by omega, by go_num, HN, ⟨hbl.os, hbl.tape, hbl.output, hbl.size, hbl.block⟩⟩
                  case measure => simp [intOf]; omega
              · have t68 : (l[k].k != 3) = true := by simp [f]
                have HN : Hid (Done2 l W k (m + 1)) := HD.out.next fun _ _ => ⟨fun h _ => absurd h v, fun _ h _ => absurd h f⟩
                clear v u f HD heq hneq
                go_wp2
                go_quiet (fail)
                go_wp2
                go_quiet (fail)
                go_wp2
                go_round
                case rel => exact ⟨m + 1, by omega, by go_num, HN, ⟨hbl.os, hbl.tape, hbl.output, hbl.size, hbl.block⟩⟩
                case measure => simp [intOf]; omega
            · have t49 : (((W k : Nat) : Int) != ((W m : Nat) : Int)) = true := by simp; exact fun h => u (by omega)
              have HN : Hid (Done2 l W k (m + 1)) := HD.out.next fun _ _ => ⟨fun h _ => absurd h v, fun h => absurd h u⟩
              clear v u HD heq hneq
              go_wp2
              go_quiet (fail)
              go_wp2
              go_quiet (fail)
              go_wp2
              go_round
              case rel => exact ⟨m + 1, by omega, by go_num, HN, ⟨hbl.os, hbl.tape, hbl.output, hbl.size, hbl.block⟩⟩
              case measure => simp [intOf]; omega
        · have HE : Hid (Done1 l W (k + 1)) := HD.out.done (by omega)
          have hmk' : decide ((m : Int) < (k : Int)) = false := decide_eq_false (by omega)
          clear HD
          go_wp2
          go_round
          case rel => exact ⟨k + 1, by omega, by go_num, HE, hbl⟩
          case measure => simp [intOf]; omega
    · have HE : Hid (PairNo l W) := fun a b ha hb => HD.out a b (by omega) hb
      clear HD
      go_wp2
      go_ret3
      exact ⟨.inr ⟨rfl, HE.out⟩, hbl⟩
end Go.Proofs.Ytlddglajdcednaa
namespace Go.Proofs.Ytlddglajdcednaa
open Go.RowKit

/-! ### the document's classes -/
theorem filter_lt {p q : Nat → Bool} : ∀ L : List Nat, (∀ z ∈ L, p z = true → q z = true) → (∃ z ∈ L, q z = true ∧ p z = false) → (L.filter p).length < (L.filter q).length
  | [], _, h => by obtain ⟨z, hz, _⟩ := h; cases hz
  | x :: L, h, he => by
    have hle : ∀ L' : List Nat, (∀ z ∈ L', p z = true → q z = true) → (L'.filter p).length ≤ (L'.filter q).length := by
      intro L' h'
      induction L' with
      | nil => simp
      | cons y L' ih =>
        have := ih fun z hz => h' z (List.mem_cons_of_mem _ hz)
        cases hp : p y with
        | true => rw [List.filter_cons_of_pos hp, List.filter_cons_of_pos (h' y List.mem_cons_self hp)]; simp; omega
        | false =>
          rw [List.filter_cons_of_neg (by simp [hp])]
          cases hq : q y with
          | true => rw [List.filter_cons_of_pos hq]; simp; omega
          | false => rw [List.filter_cons_of_neg (by simp [hq])]; exact this
    have h' : ∀ z ∈ L, p z = true → q z = true := fun z hz => h z (List.mem_cons_of_mem _ hz)
    obtain ⟨z, hz, h1, h2⟩ := he
    rcases List.mem_cons.1 hz with rfl | hz
    · rw [List.filter_cons_of_neg (by simp [h2]), List.filter_cons_of_pos h1]
      have := hle L h'
      simp; omega
    · have ih := filter_lt L h' ⟨z, hz, h1, h2⟩
      cases hp : p x with
      | true => rw [List.filter_cons_of_pos hp, List.filter_cons_of_pos (h x List.mem_cons_self hp)]; simp; omega
      | false =>
        rw [List.filter_cons_of_neg (by simp [hp])]
        cases hq : q x with
        | true => rw [List.filter_cons_of_pos hq]; simp; omega
        | false => rw [List.filter_cons_of_neg (by simp [hq])]; exact ih
def cntW (n : Nat) (W : Nat → Nat) : Nat := ((List.range n).filter fun z => decide (W z = z)).length
def merge (W : Nat → Nat) (x y : Nat) (z : Nat) : Nat := if W z = W x then W y else W z
theorem merge_cls (n : Nat) (W : Nat → Nat) (x y : Nat) : (clsI n W).map (toI ((W x : Nat) : Int) ((W y : Nat) : Int)) = clsI n (merge W x y) := by
  unfold clsI
  rw [List.map_map]
  refine List.map_congr_left fun z _ => ?_
  show toI _ _ ((W z : Nat) : Int) = _
  unfold toI merge
  by_cases h : W z = W x
  · rw [if_pos (by omega), if_pos h]
  · rw [if_neg (by omega), if_neg h]
structure ClsInv (l : List Cel) (q : Nat) (W : Nat → Nat) : Prop where
  lt : ∀ z, z < l.length → W z < l.length
  own : ∀ z, z < l.length → W (W z) = W z
  pair : W 0 = W q
  least : ∀ V : Nat → Nat, Shut l 0 q V → ∀ a b, a < l.length → b < l.length → W a = W b → V a = V b
theorem ClsInv.merge {l : List Cel} {q : Nat} {W : Nat → Nat} (h : ClsInv l q W) {x y : Nat} (hx : x < l.length) (hy : y < l.length) (hr : ∀ V : Nat → Nat, Shut l 0 q V → V x = V y) : ClsInv l q (merge W x y) := by
  refine ⟨fun z hz => ?_, fun z hz => ?_, ?_, least_step h.least hx hy hr⟩
  · unfold Go.Proofs.Ytlddglajdcednaa.merge; split
    · exact h.lt y hy
    · exact h.lt z hz
  · unfold Go.Proofs.Ytlddglajdcednaa.merge
    by_cases e : W z = W x
    · rw [if_pos e, h.own y hy]
      split <;> rfl
    · rw [if_neg e, h.own z hz, if_neg e]
  · unfold Go.Proofs.Ytlddglajdcednaa.merge
    rw [h.pair]
theorem ClsInv.less {l : List Cel} {q : Nat} {W : Nat → Nat} (h : ClsInv l q W) {x y : Nat} (hx : x < l.length) (hy : y < l.length) (hne : W x ≠ W y) : cntW l.length (Go.Proofs.Ytlddglajdcednaa.merge W x y) < cntW l.length W := by
  unfold cntW
  refine filter_lt _ (fun z hz hp => ?_) ⟨W x, List.mem_range.2 (h.lt x hx), by simp [h.own x hx], ?_⟩
  · have hz := List.mem_range.1 hz
    have hp : Go.Proofs.Ytlddglajdcednaa.merge W x y z = z := by simpa using hp
    unfold Go.Proofs.Ytlddglajdcednaa.merge at hp
    by_cases e : W z = W x
    · rw [if_pos e] at hp
      have h1 := h.own y hy
      rw [hp] at h1
      omega
    · rw [if_neg e] at hp; simpa using hp
  · have : ¬ Go.Proofs.Ytlddglajdcednaa.merge W x y (W x) = W x := by
      unfold Go.Proofs.Ytlddglajdcednaa.merge
      rw [if_pos (h.own x hx)]
      exact fun e => hne e.symm
    simpa using this
theorem PairYes.reason {l : List Cel} {q : Nat} {W : Nat → Nat} (hI : ClsInv l q W) {x y : Nat} (h : PairYes l W x y) : ∀ V : Nat → Nat, Shut l 0 q V → V x = V y := by
  intro V hV
  obtain ⟨hx, hy, _, h⟩ := h
  rcases h with ⟨_, _, hk, he⟩ | ⟨a, b, i, ha, hb, hw, hk, he, hi, rfl, rfl⟩
  · exact hV.vars x y hx hy hk he
  · have h1 := hV.parts a b ha hb (hI.least V hV a b ha hb hw) hk he
    have hib : i < ar l[b] := by rw [← he]; exact hi
    have h2 := congrArg (fun L : List Nat => L[i]?) h1
    simp only [List.getElem?_map] at h2
    have e1 : (argsL l a)[i]? = some (argP l a i) := by simp [argsL, List.getElem?_eq_getElem ha, hi]
    have e2 : (argsL l b)[i]? = some (argP l b i) := by simp [argsL, List.getElem?_eq_getElem hb, hib]
    rw [e1, e2] at h2
    simpa using h2
theorem PairNo.shut {l : List Cel} {q : Nat} {W : Nat → Nat} (hI : ClsInv l q W) (h : PairNo l W) : Shut l 0 q W := by
  have two : ∀ a b (ha : a < l.length) (hb : b < l.length), (l[a].k = 1 → l[a] = l[b] → W a = W b) ∧ (W a = W b → l[a].k = 3 → l[a] = l[b] → ∀ i, i < ar l[a] → W (argP l a i) = W (argP l b i)) := by
    intro a b ha hb
    rcases Nat.lt_trichotomy a b with hlt | he | hlt
    · have h1 := h b a hb hlt hb ha
      refine ⟨fun hk e => (h1.1 (by rw [← e]; exact hk) e.symm).symm, fun hw hk e i hi => (h1.2 hw.symm (by rw [← e]; exact hk) e.symm i (by rw [← e]; exact hi)).symm⟩
    · subst he
      exact ⟨fun _ _ => rfl, fun _ _ _ _ _ => rfl⟩
    · exact h a b ha hlt ha hb
  refine ⟨fun a b ha hb hk e => (two a b ha hb).1 hk e, fun a b ha hb hw hk e => ?_, hI.pair⟩
  have har : ar l[b] = ar l[a] := by rw [e]
  unfold argsL
  rw [List.getElem?_eq_getElem ha, List.getElem?_eq_getElem hb]
  simp only [har, List.map_map]
  refine List.map_congr_left fun i hi => ?_
  exact (two a b ha hb).2 hw hk e i (List.mem_range.1 hi)
def ClsPost (l : List Cel) (q : Nat) (e : Ending) (w' : World) : Prop := ∃ (a' : Option Addr) (cap' : Nat) (W : Nat → Nat), e = .returned (.slice a' l.length cap') ∧ Row w' a' cap' (clsI l.length W) ∧ Least l 0 q W ∧ ∀ z, z < l.length → W z < l.length
def SC (bc oc x y : Nat) (W : Nat → Nat) (w' : World) : Prop := w'.cell? ⟨bc, oc + x, none⟩ = some (.int .i64 ((W x : Nat) : Int)) ∧ w'.cell? ⟨bc, oc + y, none⟩ = some (.int .i64 ((W y : Nat) : Int))
theorem range_next (k : Nat) : natI (List.range (k + 1)) = natI (List.range k) ++ [(k : Int)] := by unfold natI; rw [List.range_succ, List.map_append]; rfl
theorem first_cls (n q : Nat) : (natI (List.range n)).map (toI (q : Int) 0) = clsI n fun z => if z = q then 0 else z := by
  unfold natI clsI
  rw [List.map_map]
  refine List.map_congr_left fun z _ => ?_
  show toI (q : Int) 0 (z : Int) = (((if z = q then 0 else z : Nat)) : Int)
  unfold toI
  by_cases h : z = q
  · rw [if_pos (by omega), if_pos h]; rfl
  · rw [if_neg (by omega), if_neg h]
theorem first_inv {l : List Cel} {q : Nat} (h0 : 0 < l.length) : ClsInv l q fun z => if z = q then 0 else z := by
  refine ⟨fun z hz => ?_, fun z hz => ?_, ?_, fun V hV a b ha hb e => ?_⟩
  · show (if z = q then 0 else z) < _
    split <;> omega
  · show (if (if z = q then 0 else z) = q then 0 else (if z = q then 0 else z)) = if z = q then 0 else z
    by_cases h : z = q
    · rw [if_pos h]; split <;> rfl
    · rw [if_neg h, if_neg h]
  · show (if 0 = q then 0 else 0) = if q = q then 0 else q
    rw [if_pos rfl]; split <;> rfl
  · have e : (if a = q then 0 else a) = if b = q then 0 else b := e
    have hp := hV.pair
    by_cases h1 : a = q
    · by_cases h2 : b = q
      · rw [h1, h2]
      · rw [if_pos h1, if_neg h2] at e
        rw [h1, ← e, hp]
    · by_cases h2 : b = q
      · rw [if_neg h1, if_pos h2] at e
        rw [h2, e, hp]
      · rw [if_neg h1, if_neg h2] at e
        rw [e]

set_option maxRecDepth 100000 in
set_option maxHeartbeats 8000000 in
theorem classes3_any (a : Option Addr) (cap : Nat) (w : World) (l : List Cel) (hx : Row w a cap l) (hG : Good l) {q : Nat} (hq : q < l.length) (hl : l.length ≤ 1000) :
    Calls Try.prog 42 #[.slice a l.length cap, .int .i64 q] w fun e w' => ClsPost l q e w' ∧ Below w.heap.size w w' := by
  have hm := hx.max
  have hle := hx.le
  have HX := mkHid hx
  have HG := mkHid hG
  have hb0 := (Below.refl w.heap.size w).new (.cells #[] 3)
  have HA0 : Hid (AccInv w.heap.size 3 (natI (List.range 0)) (.slice (some ⟨w.heap.size, 0, none⟩) 0 0) (w.alloc (.cells #[] 3))) := AccInv.made w (Nat.le_refl _) rfl
  clear hx hG
  go_enter Try.func42, Try.ntmps42
  go_wp2_with fail
  go_loopw [5, 6] (fun v i wr => ∃ k : Nat, k ≤ l.length ∧ i = .int .i64 k ∧ Hid (AccInv w.heap.size 3 (natI (List.range k)) v wr) ∧ Below w.heap.size w wr) (fun v i wr => l.length - (intOf i).toNat)
  case atStart => exact ⟨0, Nat.zero_le _, rfl, HA0, hb0⟩
  case round =>
    clear HA0 hb0
    obtain ⟨k, hk, rfl, HA, hbl⟩ := hrel
    by_cases hlt : k < l.length
    · have hs := hbl.size
      have hll : (natI (List.range k)).length ≤ 1000 := by rw [natI_length, List.length_range]; omega
      go_wp2_with (at_builtin; refine wpList_acc (α := Int) rfl _ _ 36 rfl w.heap.size 3 8 _ Try.underlying36 Try.infoInt rfl (by decide) _ (natI (List.range k)) HA.out rfl _ #[.int .i64 k] (k : Int) ⟨rfl, by omega, by omega⟩ rfl (by omega) hs ?_; intro v' w2 hacc hb2)
      have hbl2 := hbl.trans hb2
      have HACC : Hid (AccInv w.heap.size 3 (natI (List.range (k + 1))) v' w2) := by rw [Hid, range_next]; exact hacc
      clear hacc
      go_round
      case rel => exact ⟨k + 1, by omega, by go_num, HACC, hbl2⟩
      case measure => simp [intOf]; omega
    · obtain rfl : k = l.length := by omega
      obtain ⟨a1, c1, rfl, hr1⟩ := HA.out.row
      have hll : (natI (List.range l.length)).length = l.length := by rw [natI_length, List.length_range]
      have hcall := one3_any a1 c1 wr (natI (List.range l.length)) hr1 (q : Int) 0 ⟨by omega, by omega⟩ (by rw [hll]; exact hl) (by rw [hll]; omega)
      rw [first_cls, hll] at hcall
      rw [hll]
      have HCALL := mkHid hcall
      have HI0 := mkHid (first_inv (q := q) (l := l) (by omega))
      have hcnt : cntW l.length (fun z => if z = q then 0 else z) ≤ l.length := by
        unfold cntW
        have := List.length_filter_le (fun z => decide ((if z = q then 0 else z) = z)) (List.range l.length)
        rwa [List.length_range] at this
      have HCNT := mkHid hcnt
      clear hcall hll hr1 HA hcnt hlt
      go_wp2_with fail
      refine HCALL.out.mono ?_
      rintro e w2 ⟨a2, c2, rfl, hr2, hb2⟩
      have hbl2 := hbl.then hb2
      have HR2 := mkHid hr2
      clear hr2
      go_wp2_with fail
      go_loopg [5, 7, 8, 9] l.length (fun kk v x y b wz => ∃ (W : Nat → Nat) (av : Option Addr) (cv : Nat), v = .slice av l.length cv ∧ Hid (Row wz av cv (clsI l.length W)) ∧ Hid (ClsInv l q W) ∧ Hid (cntW l.length W ≤ kk) ∧ Below w.heap.size w wz)
      case atStart => exact ⟨_, a2, c2, rfl, HR2, HI0, HCNT, hbl2⟩
      case round =>
      clear HR2 HI0 HCNT hbl2 hbl
      obtain ⟨W, av, cv, rfl, HC, HI, HCNT, hbl⟩ := hrel
      go_wp2_with fail
      refine (pair3_any _ cap _ cv _ l W (HX.out.below hbl) HC.out HG.out HI.out.lt hl).mono ?_
      rintro e w2 ⟨hpost, hb2⟩
      have hbl2 := hbl.then hb2
      have HC2 := mkHid (HC.out.below hb2)
      rcases hpost with ⟨x, y, rfl, hy⟩ | ⟨rfl, hno⟩
      rotate_left
      · have HE : Hid (ClsPost l q (.returned (.slice av l.length cv)) w2) := ⟨av, cv, W, rfl, HC2.out, ⟨hno.shut HI.out, HI.out.least⟩, HI.out.lt⟩
        clear hno HC HI HCNT
        go_wp2_with fail
        go_ret
        exact ⟨HE.out, hbl2⟩
      have hxl := hy.1
      have hyl := hy.2.1
      have HINV := mkHid (HI.out.merge hxl hyl (hy.reason HI.out))
      have hless := HI.out.less hxl hyl hy.2.2.1
      have hcn : cntW l.length (Go.Proofs.Ytlddglajdcednaa.merge W x y) + 1 ≤ gk := by have := HCNT.out; omega
      have HLESS := mkHid hcn
      have HMERGE := mkHid (merge_cls l.length W x y)
      have hWx := HI.out.lt x hxl
      have hWy := HI.out.lt y hyl
      obtain ⟨bc, oc, rfl, _, hatc⟩ := HC2.out.cases.resolve_left (fun e => by have h2 := congrArg List.length e; rw [clsI_length] at h2; simp at h2; simp [h2] at hxl)
      have hx0 : (0 : Int) ≤ (x : Int) := by omega
      have hx1 : (x : Int) < (l.length : Int) := by omega
      have hy0 : (0 : Int) ≤ (y : Int) := by omega
      have hy1 : (y : Int) < (l.length : Int) := by omega
      have HS : Hid (∀ W', Below w2.heap.size w2 W' → SC bc oc x y W W') := fun W' h => ⟨cls_at hatc h hxl, cls_at hatc h hyl⟩
      clear hy hless hcn hatc HC
      go_wp2_with fail
      have hcd := (Below.refl w2.heap.size w2).drew
      refine wp_region_noPanic ?_
      refine wp_region_held_drew (S := SC bc oc x y W) (by kernel_rfl) (HS.out _ hcd) (fun hSd => ?_)
      refine wpAnyH_take (i := 0) (oi := _) (v := ?_) rfl (by kernel_rfl) (by kernel_rfl) (by kernel_rfl) (fun _ _ _ h => h) (Or.inl ⟨by rfl, ?_⟩) (by assumption) ?_
      rotate_left
      · (intro w' hSw; obtain ⟨z0, z1⟩ := hSw; go_simp; try with_reducible rfl)
      (try simp only [Act.put, List.setIfInBounds_toArray, List.set_cons_zero, List.set_cons_succ])
      refine wpAnyH_take (i := 1) (oi := _) (v := ?_) rfl (by kernel_rfl) (by kernel_rfl) (by kernel_rfl) (fun _ _ _ h => h) (Or.inl ⟨by rfl, ?_⟩) (by assumption) ?_
      rotate_left
      · (intro w' hSw; obtain ⟨z0, z1⟩ := hSw; go_simp; try with_reducible rfl)
      (try simp only [Act.put, List.setIfInBounds_toArray, List.set_cons_zero, List.set_cons_succ])
      refine wpAnyH_take (i := 2) (oi := _) (v := ?_) rfl (by kernel_rfl) (by kernel_rfl) (by kernel_rfl) (fun _ _ _ h => h) (Or.inl ⟨by rfl, ?_⟩) (by assumption) ?_
      rotate_left
      · (intro w' hSw; obtain ⟨z0, z1⟩ := hSw; go_simp; try with_reducible rfl)
      (try simp only [Act.put, List.setIfInBounds_toArray, List.set_cons_zero, List.set_cons_succ])
      refine wpAnyH_take (i := 3) (oi := _) (v := ?_) rfl (by kernel_rfl) (by kernel_rfl) (by kernel_rfl) (fun _ _ _ h => h) (Or.inl ⟨by rfl, ?_⟩) (by assumption) ?_
      rotate_left
      · (intro w' hSw; obtain ⟨z0, z1⟩ := hSw; go_simp; try with_reducible rfl)
      (try simp only [Act.put, List.setIfInBounds_toArray, List.set_cons_zero, List.set_cons_succ])
      refine wpAnyH_take (i := 4) (oi := _) (v := ?_) rfl (by kernel_rfl) (by kernel_rfl) (by kernel_rfl) (fun _ _ _ h => h) (Or.inl ⟨by rfl, ?_⟩) (by assumption) ?_
      rotate_left
      · (intro w' hSw; obtain ⟨z0, z1⟩ := hSw; go_simp; try with_reducible rfl)
      (try simp only [Act.put, List.setIfInBounds_toArray, List.set_cons_zero, List.set_cons_succ])
      refine wpAnyH_take (i := 5) (oi := _) (v := ?_) rfl (by kernel_rfl) (by kernel_rfl) (by kernel_rfl) (fun _ _ _ h => h) (Or.inl ⟨by rfl, ?_⟩) (by assumption) ?_
      rotate_left
      · (intro w' hSw; obtain ⟨z0, z1⟩ := hSw; go_simp; try with_reducible rfl)
      (try simp only [Act.put, List.setIfInBounds_toArray, List.set_cons_zero, List.set_cons_succ])
      refine wpAnyH_take (i := 6) (oi := _) (v := ?_) rfl (by kernel_rfl) (by kernel_rfl) (by kernel_rfl) (fun _ _ _ h => h) (Or.inl ⟨by rfl, ?_⟩) (by assumption) ?_
      rotate_left
      · (intro w' hSw; obtain ⟨z0, z1⟩ := hSw; go_simp; try with_reducible rfl)
      (try simp only [Act.put, List.setIfInBounds_toArray, List.set_cons_zero, List.set_cons_succ])
      refine wpAnyH_take (i := 7) (oi := _) (v := ?_) rfl (by kernel_rfl) (by kernel_rfl) (by kernel_rfl) (fun _ _ _ h => h) (Or.inl ⟨by rfl, ?_⟩) (by assumption) ?_
      rotate_left
      · (intro w' hSw; obtain ⟨z0, z1⟩ := hSw; go_simp; try with_reducible rfl)
      (try simp only [Act.put, List.setIfInBounds_toArray, List.set_cons_zero, List.set_cons_succ])
      refine wpAnyH_take (i := 8) (oi := _) (v := ?_) rfl (by kernel_rfl) (by kernel_rfl) (by kernel_rfl) (fun _ _ _ h => h) (Or.inl ⟨by rfl, ?_⟩) (by assumption) ?_
      rotate_left
      · (intro w' hSw; obtain ⟨z0, z1⟩ := hSw; go_simp; try with_reducible rfl)
      (try simp only [Act.put, List.setIfInBounds_toArray, List.set_cons_zero, List.set_cons_succ])
      refine wpAnyH_ready (rs := [9]) (by kernel_rfl) (by simp) ?_
      refine AllReadyH.cons (o := _) rfl (fun K hK => ?_) AllReadyH.nil
      go_simp
      have hcall := one3_any (some ⟨bc, oc, none⟩) cv _ (clsI l.length W) (HC2.out.below (Below.refl _ w2).drew) (W x : Int) (W y : Int) ⟨by omega, by omega⟩ (by rw [clsI_length]; exact hl) (by rw [clsI_length]; omega)
      rw [clsI_length, HMERGE.out] at hcall
      refine hcall.mono ?_
      rintro e w3 ⟨a3, c3, rfl, hr3, hb3⟩
      have hd3 := hcd.then hb3
      try dsimp only
      refine hK.out _ _ (HS.out _ hd3) (fun hS3 => ?_)
      clear hK K
      (try simp only [Act.put, List.setIfInBounds_toArray, List.set_cons_zero, List.set_cons_succ])
      refine wpAnyH_ready (rs := [10]) (by kernel_rfl) (by simp) ?_
      refine AllReadyH.cons (o := _) rfl (fun K hK => ?_) AllReadyH.nil
      go_simp
      try dsimp only
      refine hK.out _ _ (HS.out _ hd3) (fun hS4 => ?_)
      clear hK K
      (try simp only [Act.put, List.setIfInBounds_toArray, List.set_cons_zero, List.set_cons_succ])
      refine wpAnyH_done (by kernel_rfl) (NoPanic.normal ?_) _
      have hbl3 := hbl2.then hd3
      have HR3 := mkHid hr3
      clear hr3
      go_wp2_with fail
      go_roundg (cntW l.length (Go.Proofs.Ytlddglajdcednaa.merge W x y))
      case measure => have := HLESS.out; omega
      case rel => exact ⟨_, a3, c3, rfl, HR3, HINV, Nat.le_refl _, hbl3⟩
end Go.Proofs.Ytlddglajdcednaa
namespace Go.Proofs.Ytlddglajdcednaa
open Go.RowKit

/-! ### a clash; what a class does; its least variable -/
def CP (l : List Cel) (W : Nat → Nat) (a b : Nat) : Prop := ∃ (ha : a < l.length) (hb : b < l.length), W a = W b ∧ l[a].k ≠ 1 ∧ l[b].k ≠ 1 ∧ l[a] ≠ l[b]
def ClashPost (l : List Cel) (W : Nat → Nat) (e : Ending) : Prop := (e = .returned (.bool true) ∧ ∃ a b, CP l W a b) ∨ (e = .returned (.bool false) ∧ ∀ a b, a < l.length → b < a → ¬ CP l W a b)
def Cd1 (l : List Cel) (W : Nat → Nat) (k : Nat) : Prop := ∀ a b, a < k → b < a → ¬ CP l W a b
def Cd2 (l : List Cel) (W : Nat → Nat) (k m : Nat) : Prop := Cd1 l W k ∧ ∀ b, b < m → ¬ CP l W k b
theorem Cd2.next {l : List Cel} {W : Nat → Nat} {k m : Nat} (h : Cd2 l W k m) (hc : ¬ CP l W k m) : Cd2 l W k (m + 1) :=
  ⟨h.1, fun b hb => by
    by_cases e : b = m
    · rw [e]; exact hc
    · exact h.2 b (by omega)⟩
theorem Cd2.done {l : List Cel} {W : Nat → Nat} {k m : Nat} (h : Cd2 l W k m) (hm : k ≤ m) : Cd1 l W (k + 1) := fun a b ha hb => by
  by_cases e : a = k
  · subst e; exact h.2 b (by omega)
  · exact h.1 a b (by omega) hb
theorem cls_ne {n : Nat} {W : Nat → Nat} {cap' : Nat} {w : World} {a' : Option Addr} {k : Nat} (hc : Row w a' cap' (clsI n W)) (hk : k < n) : ∃ bc oc, a' = some ⟨bc, oc, none⟩ ∧ ∀ i (hi : i < (clsI n W).length), Rep.E w bc (oc + i * Rep.sz Int) (clsI n W)[i] := by
  obtain ⟨bc, oc, e, _, hatc⟩ := hc.cases.resolve_left (fun e => by have h2 := congrArg List.length e; rw [clsI_length] at h2; simp at h2; omega)
  exact ⟨bc, oc, e, hatc⟩

set_option maxRecDepth 100000 in
set_option maxHeartbeats 8000000 in
theorem clash3_any (a : Option Addr) (cap : Nat) (a' : Option Addr) (cap' : Nat) (w : World) (l : List Cel) (W : Nat → Nat) (hx : Row w a cap l) (hc : Row w a' cap' (clsI l.length W)) (hl : l.length ≤ 1000) :
    Calls Try.prog 43 #[.slice a l.length cap, .slice a' l.length cap'] w fun e w' => ClashPost l W e ∧ Below w.heap.size w w' := by
  have hm := hx.max
  have hle := hx.le
  have hmc := hc.max
  have hlc := hc.le
  rw [clsI_length] at hlc
  have HX := mkHid hx
  have HC := mkHid hc
  clear hx hc
  go_enter Try.func43, Try.ntmps43
  go_wp2_with fail
  go_loopw [5, 6] (fun ka x1 wr => ∃ k : Nat, k ≤ l.length ∧ ka = .int .i64 k ∧ Hid (Cd1 l W k) ∧ Below w.heap.size w wr) (fun ka x1 wr => l.length - (intOf ka).toNat)
  case atStart => exact ⟨0, Nat.zero_le _, rfl, fun a b ha => by omega, Below.refl _ _⟩
  case round =>
    obtain ⟨k, hk, rfl, HD, hbl⟩ := hrel
    by_cases hlt : k < l.length
    · obtain ⟨b, off, rfl, _, hat⟩ := HX.out.cases.resolve_left (fun e => by simp [e] at hlt)
      obtain ⟨bc, oc, rfl, hatc⟩ := cls_ne HC.out hlt
      have HAT := mkHid hat
      have HATC := mkHid hatc
      have hk0 : (0 : Int) ≤ (k : Int) := by omega
      have hk1 : (k : Int) < (l.length : Int) := by omega
      clear hat hatc
      go_wp2_with fail
      go_loopw [6] (fun mb wq => ∃ m : Nat, m ≤ k ∧ mb = .int .i64 m ∧ Hid (Cd2 l W k m) ∧ Below w.heap.size w wq) (fun mb wq => k - (intOf mb).toNat)
      case atStart => exact ⟨0, Nat.zero_le _, rfl, ⟨HD.out, fun b hb => by omega⟩, hbl⟩
      case round =>
        clear HD hbl
        obtain ⟨m, hmk, rfl, HD, hbl⟩ := hrel
        by_cases hlm : m < k
        · have hml : m < l.length := by omega
          obtain ⟨c0, c1, c2, hcf⟩ := cel_at HAT.out hbl hlt
          obtain ⟨d0, d1, d2, hdf⟩ := cel_at HAT.out hbl hml
          have q0 := cls_at HATC.out hbl hlt
          have q1 := cls_at HATC.out hbl hml
          have hneq := fun w => run_neq_cel l[k] l[m] w
          have hm0 : (0 : Int) ≤ (m : Int) := by omega
          have hm1 : (m : Int) < (l.length : Int) := by omega
          have hmk' : decide ((m : Int) < (k : Int)) = true := decide_eq_true (by omega)
          clear hcf hdf
          by_cases u : W k = W m
          · have t26 : (((W k : Nat) : Int) == ((W m : Nat) : Int)) = true := by simp [u]
            by_cases v : l[k].k = 1
            · have t33 : (l[k].k != 1) = false := by simp [v]
              have HN : Hid (Cd2 l W k (m + 1)) := HD.out.next fun ⟨_, _, _, h, _⟩ => h v
              clear u v HD hneq
              go_wp2
              go_quiet (fail)
              go_wp2
              go_round
              case rel => exact ⟨m + 1, by omega, by go_num, HN, ⟨hbl.os, hbl.tape, hbl.output, hbl.size, hbl.block⟩⟩
              case measure => simp [intOf]; omega
            · have t33 : (l[k].k != 1) = true := by simp [v]
              by_cases v2 : l[m].k = 1
              · have t41 : (l[m].k != 1) = false := by simp [v2]
                have HN : Hid (Cd2 l W k (m + 1)) := HD.out.next fun ⟨_, _, _, _, h, _⟩ => h v2
                clear u v v2 HD hneq
                go_wp2
                go_quiet (fail)
                go_wp2
                go_round
                case rel => exact ⟨m + 1, by omega, by go_num, HN, ⟨hbl.os, hbl.tape, hbl.output, hbl.size, hbl.block⟩⟩
                case measure => simp [intOf]; omega
              · have t41 : (l[m].k != 1) = true := by simp [v2]
                by_cases e : l[k] = l[m]
                · rw [decide_eq_true e] at hneq
                  have HN : Hid (Cd2 l W k (m + 1)) := HD.out.next fun ⟨_, _, _, _, _, h⟩ => h e
                  clear u v v2 e HD
                  go_wp2
                  go_quiet (fail)
                  go_wp2
                  go_round
                  case rel => exact ⟨m + 1, by omega, by go_num, HN, ⟨hbl.os, hbl.tape, hbl.output, hbl.size, hbl.block⟩⟩
                  case measure => simp [intOf]; omega
                · rw [decide_eq_false e] at hneq
                  have HY : Hid (CP l W k m) := ⟨hlt, hml, u, v, v2, e⟩
                  clear u v v2 e HD
                  go_wp2
                  go_quiet (fail)
                  go_wp2
                  go_ret
                  exact ⟨.inl ⟨rfl, k, m, HY.out⟩, ⟨hbl.os, hbl.tape, hbl.output, hbl.size, hbl.block⟩⟩
          · have t26 : (((W k : Nat) : Int) == ((W m : Nat) : Int)) = false := by simp; exact fun h => u (by omega)
            have HN : Hid (Cd2 l W k (m + 1)) := HD.out.next fun ⟨_, _, h, _⟩ => u h
            clear u HD hneq
            go_wp2
            go_quiet (fail)
            go_wp2
            go_round
            case rel => exact ⟨m + 1, by omega, by go_num, HN, ⟨hbl.os, hbl.tape, hbl.output, hbl.size, hbl.block⟩⟩
            case measure => simp [intOf]; omega
        · have HE : Hid (Cd1 l W (k + 1)) := HD.out.done (by omega)
          have hmk' : decide ((m : Int) < (k : Int)) = false := decide_eq_false (by omega)
          clear HD
          go_wp2
          go_round
          case rel => exact ⟨k + 1, by omega, by go_num, HE, hbl⟩
          case measure => simp [intOf]; omega
    · have HE : Hid (∀ a b, a < l.length → b < a → ¬ CP l W a b) := fun a b ha hb => HD.out a b (by omega) hb
      clear HD
      go_wp2
      go_ret
      exact ⟨.inr ⟨rfl, HE.out⟩, hbl⟩

/-- a place of a class that is no variable, the first one -/
def noVar (l : List Cel) (i : Nat) : Bool := match l[i]? with
  | none => false
  | some c => !decide (c.k = 1)
def doesF (l : List Cel) (W : Nat → Nat) (c : Nat) : Nat → Option Nat
  | 0 => none
  | i + 1 => (doesF l W c i).or (if W i = c ∧ noVar l i = true then some i else none)
def doesI (l : List Cel) (W : Nat → Nat) (c : Nat) : Int := match doesF l W c l.length with
  | none => -1
  | some i => i
theorem does_le {l : List Cel} {W : Nat → Nat} {c : Nat} {i j k : Nat} (h : doesF l W c i = some j) (hik : i ≤ k) : doesF l W c k = some j := by
  induction k with
  | zero => have : i = 0 := by omega
            subst this; exact h
  | succ k ih =>
    by_cases e : i = k + 1
    · rw [← e]; exact h
    · unfold doesF
      rw [ih (by omega)]; rfl
theorem does_step {l : List Cel} {W : Nat → Nat} {c i : Nat} (hi : i < l.length) (h : doesF l W c i = none) (hw : W i = c) (hv : l[i].k ≠ 1) : doesI l W c = i := by
  have : doesF l W c (i + 1) = some i := by
    unfold doesF
    rw [h, if_pos ⟨hw, by simp [noVar, List.getElem?_eq_getElem hi, hv]⟩]; rfl
  unfold doesI
  rw [does_le this (by omega)]
theorem does_no {l : List Cel} {W : Nat → Nat} {c i : Nat} (hi : i < l.length) (h : doesF l W c i = none) (hn : ¬ (W i = c ∧ l[i].k ≠ 1)) : doesF l W c (i + 1) = none := by
  unfold doesF
  rw [h, if_neg ?_]; rfl
  rintro ⟨h1, h2⟩
  refine hn ⟨h1, fun h3 => ?_⟩
  simp [noVar, List.getElem?_eq_getElem hi, h3] at h2

set_option maxRecDepth 100000 in
set_option maxHeartbeats 4000000 in
theorem does3_any (a : Option Addr) (cap : Nat) (a' : Option Addr) (cap' : Nat) (w : World) (l : List Cel) (W : Nat → Nat) (hx : Row w a cap l) (hc : Row w a' cap' (clsI l.length W)) (hl : l.length ≤ 1000) {z : Nat} (hz : z < l.length) :
    Calls Try.prog 46 #[.slice a l.length cap, .slice a' l.length cap', .int .i64 z] w fun e w' => e = .returned (.int .i64 (doesI l W (W z))) ∧ Below w.heap.size w w' := by
  have hm := hx.max
  have hle := hx.le
  have hmc := hc.max
  have hlc := hc.le
  rw [clsI_length] at hlc
  obtain ⟨b, off, rfl, _, hat⟩ := hx.cases.resolve_left (fun e => by simp [e] at hz)
  obtain ⟨bc, oc, rfl, hatc⟩ := cls_ne hc hz
  have HAT := mkHid hat
  have HATC := mkHid hatc
  have hz0 : (0 : Int) ≤ (z : Int) := by omega
  have hz1 : (z : Int) < (l.length : Int) := by omega
  clear hat hatc hx hc
  go_enter Try.func46, Try.ntmps46
  go_wp2_with fail
  go_loopw [7] (fun ia wr => ∃ i : Nat, i ≤ l.length ∧ ia = .int .i64 i ∧ Hid (doesF l W (W z) i = none) ∧ Below w.heap.size w wr) (fun ia wr => l.length - (intOf ia).toNat)
  case atStart => exact ⟨0, Nat.zero_le _, rfl, rfl, Below.refl _ _⟩
  case round =>
    obtain ⟨i, hi, rfl, HD, hbl⟩ := hrel
    by_cases hlt : i < l.length
    · obtain ⟨c0, c1, c2, hcf⟩ := cel_at HAT.out hbl hlt
      have q0 := cls_at HATC.out hbl hlt
      have q1 := cls_at HATC.out hbl hz
      have hi0 : (0 : Int) ≤ (i : Int) := by omega
      have hi1 : (i : Int) < (l.length : Int) := by omega
      clear hcf c1 c2
      by_cases u : W i = W z
      · have t22 : (((W i : Nat) : Int) == ((W z : Nat) : Int)) = true := by simp [u]
        by_cases v : l[i].k = 1
        · have t29 : (l[i].k != 1) = false := by simp [v]
          have HN : Hid (doesF l W (W z) (i + 1) = none) := does_no hlt HD.out fun h => h.2 v
          clear u v HD
          go_wp2
          go_quiet (fail)
          go_wp2
          go_round
          case rel => exact ⟨i + 1, by omega, by go_num, HN, ⟨hbl.os, hbl.tape, hbl.output, hbl.size, hbl.block⟩⟩
          case measure => simp [intOf]; omega
        · have t29 : (l[i].k != 1) = true := by simp [v]
          have HY : Hid (doesI l W (W z) = i) := does_step hlt HD.out u v
          clear u v HD
          go_wp2
          go_quiet (fail)
          go_wp2
          go_ret
          refine ⟨by rw [HY.out]; rfl, ⟨hbl.os, hbl.tape, hbl.output, hbl.size, hbl.block⟩⟩
      · have t22 : (((W i : Nat) : Int) == ((W z : Nat) : Int)) = false := by simp; exact fun h => u (by omega)
        have HN : Hid (doesF l W (W z) (i + 1) = none) := does_no hlt HD.out fun h => u h.1
        clear u HD
        go_wp2
        go_quiet (fail)
        go_wp2
        go_round
        case rel => exact ⟨i + 1, by omega, by go_num, HN, ⟨hbl.os, hbl.tape, hbl.output, hbl.size, hbl.block⟩⟩
        case measure => simp [intOf]; omega
    · have HY : Hid (doesI l W (W z) = -1) := by
        have h := HD.out
        rw [show i = l.length by omega] at h
        rw [Hid]; unfold doesI; rw [h]
      clear HD
      go_wp2
      go_ret
      exact ⟨by rw [HY.out]; rfl, hbl⟩

/-- the least variable of a class -/
def leastUp (l : List Cel) (W : Nat → Nat) (c : Nat) : Nat → Int
  | 0 => 1000
  | i + 1 => match l[i]? with
    | none => leastUp l W c i
    | some x => if W i = c ∧ x.k = 1 then min (leastUp l W c i) x.n else leastUp l W c i
theorem least_yes {l : List Cel} {W : Nat → Nat} {c i : Nat} (hi : i < l.length) (hw : W i = c) (hv : l[i].k = 1) : leastUp l W c (i + 1) = min (leastUp l W c i) l[i].n := by
  rw [leastUp, List.getElem?_eq_getElem hi]; simp only; rw [if_pos ⟨hw, hv⟩]
theorem least_no {l : List Cel} {W : Nat → Nat} {c i : Nat} (hi : i < l.length) (hn : ¬ (W i = c ∧ l[i].k = 1)) : leastUp l W c (i + 1) = leastUp l W c i := by
  rw [leastUp, List.getElem?_eq_getElem hi]; simp only; rw [if_neg hn]

set_option maxRecDepth 100000 in
set_option maxHeartbeats 4000000 in
theorem least3_any (a : Option Addr) (cap : Nat) (a' : Option Addr) (cap' : Nat) (w : World) (l : List Cel) (W : Nat → Nat) (hx : Row w a cap l) (hc : Row w a' cap' (clsI l.length W)) (hl : l.length ≤ 1000) {z : Nat} (hz : z < l.length) :
    Calls Try.prog 47 #[.slice a l.length cap, .slice a' l.length cap', .int .i64 z] w fun e w' => e = .returned (.int .i64 (leastUp l W (W z) l.length)) ∧ Below w.heap.size w w' := by
  have hm := hx.max
  have hle := hx.le
  have hmc := hc.max
  have hlc := hc.le
  rw [clsI_length] at hlc
  obtain ⟨b, off, rfl, _, hat⟩ := hx.cases.resolve_left (fun e => by simp [e] at hz)
  obtain ⟨bc, oc, rfl, hatc⟩ := cls_ne hc hz
  have HAT := mkHid hat
  have HATC := mkHid hatc
  have hz0 : (0 : Int) ≤ (z : Int) := by omega
  have hz1 : (z : Int) < (l.length : Int) := by omega
  clear hat hatc hx hc
  go_enter Try.func47, Try.ntmps47
  go_wp2_with fail
  go_loopw [7, 8] (fun na ia wr => ∃ i : Nat, i ≤ l.length ∧ na = .int .i64 (leastUp l W (W z) i) ∧ ia = .int .i64 i ∧ Below w.heap.size w wr) (fun na ia wr => l.length - (intOf ia).toNat)
  case atStart => exact ⟨0, Nat.zero_le _, rfl, rfl, Below.refl _ _⟩
  case round =>
    obtain ⟨i, hi, rfl, rfl, hbl⟩ := hrel
    by_cases hlt : i < l.length
    · obtain ⟨c0, c1, c2, hcf⟩ := cel_at HAT.out hbl hlt
      have q0 := cls_at HATC.out hbl hlt
      have q1 := cls_at HATC.out hbl hz
      have hi0 : (0 : Int) ≤ (i : Int) := by omega
      have hi1 : (i : Int) < (l.length : Int) := by omega
      clear hcf c1
      obtain ⟨n0, hn0⟩ : ∃ n, leastUp l W (W z) i = n := ⟨_, rfl⟩
      by_cases u : W i = W z
      · have t22 : (((W i : Nat) : Int) == ((W z : Nat) : Int)) = true := by simp [u]
        by_cases v : l[i].k = 1
        · have t29 : (l[i].k == 1) = true := by simp [v]
          have HN : Hid (leastUp l W (W z) (i + 1) = min n0 l[i].n) := by rw [← hn0]; exact least_yes hlt u v
          rw [hn0]
          clear u v hn0
          go_wp2
          go_quiet (fail)
          go_wp2
          go_round
          case rel => exact ⟨i + 1, by omega, by rw [HN.out], by go_num, ⟨hbl.os, hbl.tape, hbl.output, hbl.size, hbl.block⟩⟩
          case measure => simp [intOf]; omega
        · have t29 : (l[i].k == 1) = false := by simp [v]
          have HN : Hid (leastUp l W (W z) (i + 1) = n0) := by rw [← hn0]; exact least_no hlt fun h => v h.2
          rw [hn0]
          clear u v hn0
          go_wp2
          go_quiet (fail)
          go_wp2
          go_round
          case rel => exact ⟨i + 1, by omega, by rw [HN.out], by go_num, ⟨hbl.os, hbl.tape, hbl.output, hbl.size, hbl.block⟩⟩
          case measure => simp [intOf]; omega
      · have t22 : (((W i : Nat) : Int) == ((W z : Nat) : Int)) = false := by simp; exact fun h => u (by omega)
        have HN : Hid (leastUp l W (W z) (i + 1) = n0) := by rw [← hn0]; exact least_no hlt fun h => u h.1
        rw [hn0]
        clear u hn0
        go_wp2
        go_quiet (fail)
        go_wp2
        go_round
        case rel => exact ⟨i + 1, by omega, by rw [HN.out], by go_num, ⟨hbl.os, hbl.tape, hbl.output, hbl.size, hbl.block⟩⟩
        case measure => simp [intOf]; omega
    · obtain rfl : i = l.length := by omega
      go_wp2
      go_ret
      exact ⟨rfl, hbl⟩
end Go.Proofs.Ytlddglajdcednaa
namespace Go.Proofs.Ytlddglajdcednaa
open Go.RowKit

/-! ### is a class within itself? -/
theorem made_bools (n : Nat) : madeCells (Value.bool false).cells n = Array.replicate n (Value.bool false) := by
  unfold madeCells
  simp only [Value.cells]
  apply Array.ext
  · simp
  · intro i h1 h2
    simp [Nat.mod_one]
theorem Try.infoBool : (Try.prog.info? 4).map (fun i => (i.zero, i.size, i.bytes)) = some (some (.bool false), 1, 1) := by kernel_rfl
theorem wpList_make_bools {P : Program} (w : World) {ops : Array Oper} {rest : List Oper} {o : Oper} {a : Act} {Q : Exit → Act → World → Prop}
    (hg : o.guard = none) (l c : Operand) (t : TypeId) (hop : o.op = Op.makeSlice t l c)
    (e : TypeId) (h1 : P.underlying t = some (.slice e)) (h2 : (P.info? e).map (fun i => (i.zero, i.size, i.bytes)) = some (some (.bool false), 1, 1))
    (n : Nat) (hl : a.eval l = .int .i64 n) (hc : a.eval c = .int .i64 n) (hn : n ≤ 1000000)
    (hK : wpList P ops Q rest (a.put o.dst (.slice (some ⟨w.heap.size, 0, none⟩) n n)) (w.alloc (.cells (Array.replicate n (Value.bool false)) e))) :
    wpList P ops Q (o :: rest) a w := by
  obtain ⟨i, hi, hz0, hz1, hz2⟩ := info_parts h2
  refine wpList_plain hg fun K hK' => ?_
  have hrun := run_make (P := P) w t e i _ h1 hi hz0 .i64 .i64 n n (by omega) (Int.le_refl _) (by rw [hz2]; omega) (by omega)
  rw [hz1, Nat.mul_one, Int.toNat_natCast, made_bools] at hrun
  unfold Oper.wp
  simp [execOp, hop, hl, hc, hrun, Result.andThen]
  exact hK' _ _ hK
/-- a block that says of each number whether it is done -/
def RowB (w : World) (g n : Nat) (D : Nat → Bool) : Prop := w.heap[g]? = some (.cells ((List.range n).map fun c => Value.bool (D c)).toArray 4 (0, 0))
section
variable {w w' : World} {g n : Nat} {D : Nat → Bool}
theorem RowB.made (w : World) (n : Nat) : RowB (w.alloc (.cells (Array.replicate n (Value.bool false)) 4)) w.heap.size n fun _ => false := by
  unfold RowB
  rw [heap_alloc_new]
  congr 2
  apply Array.ext
  · simp
  · intro i h1 h2; simp
theorem RowB.lt (h : RowB w g n D) : g < w.heap.size := by
  unfold RowB at h
  exact (Array.getElem?_eq_some_iff.1 h).1
theorem RowB.read (h : RowB w g n D) {k : Nat} (hk : k < n) : w.cell? ⟨g, k, none⟩ = some (.bool (D k)) := by
  rw [cell_of_row w g k _ _ _ h]; simp [hk]
theorem RowB.free (h : RowB w g n D) (k : Nat) : w.frozen? ⟨g, k, none⟩ = false := by
  unfold RowB at h
  simp [World.frozen?, h]
def setD (D : Nat → Bool) (c : Nat) : Nat → Bool := fun z => if z = c then true else D z
theorem RowB.set (h : RowB w g n D) {k : Nat} (hk : k < n) : RowB (w.setCell ⟨g, k, none⟩ (.bool true)) g n (setD D k) := by
  unfold RowB at *
  have e : ((List.range n).map fun c => Value.bool (D c)).set k (.bool true) = (List.range n).map fun c => Value.bool (setD D k c) := by
    apply List.ext_getElem
    · simp
    · intro i h1 h2
      simp only [List.getElem_set, List.getElem_map, List.getElem_range]
      unfold setD
      by_cases e : k = i
      · subst e; simp
      · rw [if_neg e, if_neg (fun h => e h.symm)]
  simp only [World.setCell, Array.getElem?_modify, if_true, h, Option.map_some]
  simp [e]
theorem RowB.below (h : RowB w g n D) (hb : Below w.heap.size w w') : RowB w' g n D := (hb.block g h.lt).trans h
end
/-- what is done, in which order -/
structure WInv (l : List Cel) (W : Nat → Nat) (D : Nat → Bool) (rank : Nat → Nat) (many : Nat) : Prop where
  cnt : many = ((List.range l.length).filter D).length
  ok : ∀ c, c < l.length → D c = true → ∀ a, doesF l W c l.length = some a → ∀ p ∈ argsL l a, D (W p) = true ∧ rank (W p) < rank c
  lt : ∀ c, c < l.length → D c = true → rank c < many
theorem filter_set {D : Nat → Bool} {c : Nat} (hD : D c = false) : ∀ L : List Nat, L.Nodup → c ∈ L → (L.filter (setD D c)).length = (L.filter D).length + 1
  | [], _, h => by cases h
  | x :: L, hn, h => by
    obtain ⟨n1, n2⟩ := List.nodup_cons.1 hn
    by_cases e : x = c
    · subst e
      have h1 : setD D x x = true := by unfold setD; rw [if_pos rfl]
      rw [List.filter_cons_of_pos h1, List.filter_cons_of_neg (by simp [hD])]
      have : L.filter (setD D x) = L.filter D := List.filter_congr fun z hz => by
        unfold setD; rw [if_neg]; rintro rfl; exact n1 hz
      rw [this]; simp
    · have hc : c ∈ L := by
        rcases List.mem_cons.1 h with h | h
        · exact absurd h.symm e
        · exact h
      have h1 : setD D c x = D x := by unfold setD; rw [if_neg e]
      have ih := filter_set hD L n2 hc
      cases hx : D x with
      | true => rw [List.filter_cons_of_pos (by rw [h1]; exact hx), List.filter_cons_of_pos hx]; simp [ih]
      | false => rw [List.filter_cons_of_neg (by rw [h1]; simp [hx]), List.filter_cons_of_neg (by simp [hx])]; exact ih
theorem WInv.mark {l : List Cel} {W : Nat → Nat} {D : Nat → Bool} {rank : Nat → Nat} {many : Nat} (h : WInv l W D rank many) (hW : ∀ z, z < l.length → W z < l.length) {c : Nat} (hc : c < l.length) (hD : D c = false) (hf : ∀ a, doesF l W c l.length = some a → ∀ p ∈ argsL l a, D (W p) = true) (ha : ∀ a, doesF l W c l.length = some a → ∀ p ∈ argsL l a, p < l.length) :
    WInv l W (setD D c) (fun z => if z = c then many else rank z) (many + 1) := by
  have ne : ∀ z, D z = true → z ≠ c := fun z hz e => by rw [e, hD] at hz; cases hz
  refine ⟨by rw [filter_set hD _ List.nodup_range (List.mem_range.2 hc), ← h.cnt], fun c' hc' hD' a ea p hp => ?_, fun c' hc' hD' => ?_⟩
  · by_cases e : c' = c
    · subst e
      have h1 := hf a ea p hp
      have h2 := h.lt _ (hW p (ha a ea p hp)) h1
      have h3 := ne _ h1
      refine ⟨by unfold setD; rw [if_neg h3]; exact h1, ?_⟩
      show (if W p = c' then many else rank (W p)) < if c' = c' then many else rank c'
      rw [if_neg h3, if_pos rfl]; exact h2
    · have hDc : D c' = true := by unfold setD at hD'; rwa [if_neg e] at hD'
      obtain ⟨h1, h2⟩ := h.ok c' hc' hDc a ea p hp
      have h3 := ne _ h1
      refine ⟨by unfold setD; rw [if_neg h3]; exact h1, ?_⟩
      show (if W p = c then many else rank (W p)) < if c' = c then many else rank c'
      rw [if_neg h3, if_neg e]; exact h2
  · show (if c' = c then many else rank c') < many + 1
    by_cases e : c' = c
    · rw [if_pos e]; omega
    · rw [if_neg e]
      have hDc : D c' = true := by unfold setD at hD'; rwa [if_neg e] at hD'
      have := h.lt c' hc' hDc
      omega
def Stuck (l : List Cel) (W : Nat → Nat) (D : Nat → Bool) (i : Nat) : Prop := ∃ a p, doesF l W (W i) l.length = some a ∧ p ∈ argsL l a ∧ D (W p) = false
def allD (l : List Cel) (W : Nat → Nat) (D : Nat → Bool) (a k : Nat) : Bool := (List.range k).all fun j => D (W (argP l a j))
theorem allD_next (l : List Cel) (W : Nat → Nat) (D : Nat → Bool) (a k : Nat) : allD l W D a (k + 1) = (allD l W D a k && D (W (argP l a k))) := by
  unfold allD; rw [List.range_succ, List.all_append]; simp
theorem does_some {l : List Cel} {W : Nat → Nat} {c n a : Nat} (h : doesF l W c n = some a) : a < n ∧ W a = c ∧ ∃ ha : a < l.length, l[a].k ≠ 1 := by
  induction n with
  | zero => cases h
  | succ n ih =>
    unfold doesF at h
    cases e : doesF l W c n with
    | some b =>
      rw [e] at h
      have h' : b = a := by simpa using h
      subst h'
      obtain ⟨h1, h2⟩ := ih e
      exact ⟨by omega, h2⟩
    | none =>
      rw [e] at h
      simp only [Option.none_or] at h
      split at h
      · next hc =>
        injection h with h
        subst h
        refine ⟨by omega, hc.1, ?_⟩
        have h2 := hc.2
        unfold noVar at h2
        cases e2 : l[n]? with
        | none => rw [e2] at h2; cases h2
        | some x =>
          obtain ⟨hn, rfl⟩ := List.getElem?_eq_some_iff.1 e2
          rw [e2] at h2
          exact ⟨hn, fun e => by simp [e] at h2⟩
      · cases h
theorem args_mem {l : List Cel} (hG : Good l) {a p : Nat} (ha : a < l.length) (hp : p ∈ argsL l a) : ∃ j, j < ar l[a] ∧ p = argP l a j ∧ p < l.length := by
  unfold argsL at hp
  rw [List.getElem?_eq_getElem ha] at hp
  obtain ⟨j, hj, rfl⟩ := List.mem_map.1 hp
  have hj := List.mem_range.1 hj
  exact ⟨j, hj, rfl, (argP_lt hG ha hj).1⟩
def WithinPost (l : List Cel) (W : Nat → Nat) (e : Ending) : Prop :=
  (e = .returned (.bool false) ∧ ∃ rank : Nat → Nat, ∀ i, i < l.length → ∀ a, doesF l W (W i) l.length = some a → ∀ p ∈ argsL l a, rank (W p) < rank (W i)) ∨
  (e = .returned (.bool true) ∧ ∃ D : Nat → Bool, (∃ i, i < l.length ∧ D (W i) = false) ∧ ∀ i, i < l.length → D (W i) = false → Stuck l W D i)

set_option maxRecDepth 100000 in
set_option maxHeartbeats 16000000 in
theorem within3_any (a : Option Addr) (cap : Nat) (a' : Option Addr) (cap' : Nat) (w : World) (l : List Cel) (W : Nat → Nat) (hx : Row w a cap l) (hc : Row w a' cap' (clsI l.length W)) (hG : Good l) (hW : ∀ z, z < l.length → W z < l.length) (hl : l.length ≤ 1000) (h0 : 0 < l.length) :
    Calls Try.prog 44 #[.slice a l.length cap, .slice a' l.length cap'] w fun e w' => WithinPost l W e ∧ Below w.heap.size w w' := by
  have hm := hx.max
  have hle := hx.le
  have hmc := hc.max
  have hlc := hc.le
  rw [clsI_length] at hlc
  have HX := mkHid hx
  have HC := mkHid hc
  have HG := mkHid hG
  have HW := mkHid hW
  obtain ⟨bc, oc, rfl, hatc⟩ := cls_ne hc h0
  have HATC := mkHid hatc
  have HB0 : Hid (RowB (w.alloc (.cells (Array.replicate l.length (Value.bool false)) 4)) w.heap.size l.length fun _ => false) := RowB.made w _
  have hb0 := (Below.refl w.heap.size w).new (.cells (Array.replicate l.length (Value.bool false)) 4)
  have HI0 : Hid (WInv l W (fun _ => false) (fun _ => 0) 0) := ⟨(by
    have : (List.range l.length).filter (fun _ => false) = [] := by simp
    rw [this]; rfl), (fun _ _ h => by cases h), (fun _ _ h => by cases h)⟩
  clear hx hc hG hW hatc
  go_enter Try.func44, Try.ntmps44
  go_wp2_with (refine wpList_make_bools _ rfl _ _ 100 rfl 4 Try.underlying100 Try.infoBool l.length (by rfl) (by rfl) (by omega) ?_)
  go_loopw [6, 7, 8, 9, 10, 11, 12] (fun mv x1 x2 x3 x4 x5 x6 wr => ∃ (many : Nat) (D : Nat → Bool) (rank : Nat → Nat), mv = .int .i64 many ∧ Hid (WInv l W D rank many) ∧ many ≤ l.length ∧ Hid (RowB wr w.heap.size l.length D) ∧ Below w.heap.size w wr) (fun mv x1 x2 x3 x4 x5 x6 wr => l.length - (intOf mv).toNat)
  case atStart => exact ⟨0, _, _, rfl, HI0, Nat.zero_le _, HB0, hb0⟩
  case round =>
    clear HI0 HB0 hb0
    obtain ⟨was, D0, rank0, rfl, HI, hmn, HB, hbl⟩ := hrel
    go_wp2_with fail
    go_loopw [6, 8, 9, 10, 11, 12] (fun mv iv x3 x4 x5 x6 wq => ∃ (many i : Nat) (D : Nat → Bool) (rank : Nat → Nat), mv = .int .i64 many ∧ iv = .int .i64 i ∧ i ≤ l.length ∧ was ≤ many ∧ many ≤ l.length ∧ Hid (WInv l W D rank many) ∧ Hid (many = was → ∀ j, j < i → D (W j) = false → Stuck l W D j) ∧ Hid (RowB wq w.heap.size l.length D) ∧ Below w.heap.size w wq) (fun mv iv x3 x4 x5 x6 wq => l.length - (intOf iv).toNat)
    case atStart => exact ⟨was, 0, D0, rank0, rfl, rfl, Nat.zero_le _, Nat.le_refl _, hmn, HI, fun _ j hj => by omega, HB, hbl⟩
    case round =>
      clear HI HB hbl hmn
      obtain ⟨many, i, D, rank, rfl, rfl, hi, hwm, hmn, HI, HS, HB, hbl⟩ := hrel
      by_cases hlt : i < l.length
      · have hWi := HW.out i hlt
        have hi0 : (0 : Int) ≤ (i : Int) := by omega
        have hi1 : (i : Int) < (l.length : Int) := by omega
        have hw0 : (0 : Int) ≤ ((W i : Nat) : Int) := by omega
        have hw1 : ((W i : Nat) : Int) < (l.length : Int) := by omega
        go_wp2_with fail
        refine (does3_any a cap _ cap' _ l W (HX.out.below hbl) (HC.out.below hbl) hl hlt).mono ?_
        rintro e w2 ⟨rfl, hb2⟩
        have hbl2 := hbl.then hb2
        have HB2 := mkHid (HB.out.below hb2)
        have q0 := cls_at HATC.out hbl2 hlt
        have q1 := HB2.out.read hWi
        clear HB hbl hb2
        cases hDi : D (W i) with
        | true =>
          rw [hDi] at q1
          have HN : Hid (many = was → ∀ j, j < i + 1 → D (W j) = false → Stuck l W D j) := fun h j hj hd => by
            by_cases e : j = i
            · rw [e, hDi] at hd; cases hd
            · exact HS.out h j (by omega) hd
          clear hDi HS
          go_wp2
          go_round
          case rel => exact ⟨many, i + 1, D, rank, rfl, by go_num, by omega, hwm, hmn, HI, HN, HB2, hbl2⟩
          case measure => simp [intOf]; omega
        | false =>
          rw [hDi] at q1
          have HDI := mkHid hDi
          have hfree := HB2.out.free (W i)
          have hmlt : many < l.length := by
            have h1 := HI.out.cnt
            have h2 := filter_set hDi (List.range l.length) List.nodup_range (List.mem_range.2 hWi)
            have h3 := List.length_filter_le (setD D (W i)) (List.range l.length)
            rw [List.length_range] at h3
            omega
          have HAP : Hid (∀ c' z, doesF l W c' l.length = some z → ∀ p ∈ argsL l z, p < l.length) := fun c' z hz p hp => by
            obtain ⟨_, _, hz2, _⟩ := does_some hz
            obtain ⟨_, _, _, h⟩ := args_mem HG.out hz2 hp
            exact h
          clear hDi
          cases hdo : doesF l W (W i) l.length with
          | none =>
            have hdi : doesI l W (W i) = -1 := by unfold doesI; rw [hdo]
            rw [hdi]
            have HM := mkHid (HI.out.mark HW.out hWi HDI.out (fun z hz => by rw [hdo] at hz; cases hz) (fun z hz => by rw [hdo] at hz; cases hz))
            have HB3 := mkHid (HB2.out.set hWi)
            have hbl3 := hbl2.setCell (p := ⟨w.heap.size, W i, none⟩) (Nat.le_refl _) (.bool true)
            have HN : Hid (many + 1 = was → ∀ j, j < i + 1 → setD D (W i) (W j) = false → Stuck l W (setD D (W i)) j) := fun h => by omega
            clear hdi hdo HS HI
            go_wp2
            go_round
            case rel => exact ⟨many + 1, i + 1, _, _, by go_num, by go_num, by omega, by omega, by omega, HM, HN, HB3, hbl3⟩
            case measure => simp [intOf]; omega
          | some z =>
            obtain ⟨hz1, hz2, hz3, hz4⟩ := does_some hdo
            have hdi : doesI l W (W i) = (z : Int) := by unfold doesI; rw [hdo]
            rw [hdi]
            have HDO := mkHid hdo
            obtain ⟨d, hd⟩ : ∃ d, ar l[z] = d := ⟨_, rfl⟩
            have HDA := mkHid hd
            have hd6 : d ≤ 6 := by
              have h := ar_le l[z] (good_cell HG.out hz1).1
              rw [hd] at h; exact h
            have hz0 : (0 : Int) ≤ (z : Int) := by omega
            have hgeq : decide ((z : Int) ≥ 0) = true := decide_eq_true hz0
            clear hdi hdo hd hz2 hz4
            go_wp2_with fail
            refine (parts3_any a cap _ l (HX.out.below hbl2) HG.out hz1 hl).mono ?_
            rintro e w3 ⟨v3, rfl, ha3, hb3⟩
            obtain ⟨a3, c3, rfl, hr3⟩ := ha3.row
            have hbl3 := hbl2.then hb3
            have HB3 := mkHid (HB2.out.below hb3)
            have HR3 := mkHid hr3
            have hfree3 := HB3.out.free (W i)
            clear hr3 ha3 hb3 q0 q1 HB2 hfree
            rw [show (natI (argsL l z)).length = d by rw [natI_length, args_length l hz1]; exact HDA.out]
            go_wp2_with fail
            go_loopw [10, 12] (fun fv kv wz => ∃ (k : Nat) (b : Bool), k ≤ d ∧ kv = .int .i64 k ∧ fv = .bool b ∧ Hid (b = allD l W D z k) ∧ Hid (RowB wz w.heap.size l.length D) ∧ Below w3.heap.size w3 wz) (fun fv kv wz => d - (intOf kv).toNat)
            case atStart => exact ⟨0, true, Nat.zero_le _, rfl, rfl, rfl, HB3, Below.refl _ _⟩
            case round =>
              obtain ⟨k, b, hk, rfl, rfl, HA, HBz, hbz⟩ := hrel
              by_cases hkd : k < d
              · obtain ⟨hp1, _⟩ := argP_lt HG.out hz1 (k := k) (by rw [HDA.out]; exact hkd)
                have i3 : k < (natI (argsL l z)).length := by rw [natI_length, args_length l hz1, HDA.out]; exact hkd
                obtain ⟨b3, o3, rfl, _, hat3⟩ := HR3.out.cases.resolve_left (fun e => by rw [e] at i3; cases i3)
                have e3 := (int_at hat3 hbz i3).c
                rw [natI_get hz1 i3] at e3
                have g3 := cls_at HATC.out (hbl3.then hbz) hp1
                have hWp := HW.out _ hp1
                have r3 := HBz.out.read hWp
                have HNX := mkHid (allD_next l W D z k)
                obtain ⟨p, hp⟩ : ∃ p, argP l z k = p := ⟨_, rfl⟩
                rw [hp] at hp1 e3 g3 hWp r3 HNX
                have hk0 : (0 : Int) ≤ (k : Int) := by omega
                have hk1 : (k : Int) < (d : Int) := by omega
                have hp0 : (0 : Int) ≤ (p : Int) := by omega
                have hp2 : (p : Int) < (l.length : Int) := by omega
                have hwp0 : (0 : Int) ≤ ((W p : Nat) : Int) := by omega
                have hwp1 : ((W p : Nat) : Int) < (l.length : Int) := by omega
                clear hp i3 hat3
                cases b with
                | true =>
                  have HN : Hid (D (W p) = allD l W D z (k + 1)) := by rw [Hid, HNX.out, ← HA.out]; simp
                  clear HA HNX
                  go_wp2
                  go_round
                  case rel => exact ⟨k + 1, _, by omega, by go_num, rfl, HN, HBz, hbz⟩
                  case measure => simp [intOf]; omega
                | false =>
                  have HN : Hid (false = allD l W D z (k + 1)) := by rw [Hid, HNX.out, ← HA.out]; simp
                  clear HA HNX
                  go_wp2
                  go_round
                  case rel => exact ⟨k + 1, false, by omega, by go_num, rfl, HN, HBz, hbz⟩
                  case measure => simp [intOf]; omega
              · obtain rfl : k = d := by omega
                have hblz := hbl3.then hbz
                have q0 := cls_at HATC.out hblz hlt
                have q1 := HBz.out.read hWi
                have hfz := HBz.out.free (W i)
                rw [HDI.out] at q1
                clear HB3 hfree3 hbz
                cases b with
                | true =>
                  have hall : ∀ z', doesF l W (W i) l.length = some z' → ∀ p ∈ argsL l z', D (W p) = true := fun z' hz' p hp => by
                    have hzz : z' = z := by have := HDO.out; rw [hz'] at this; exact Option.some.inj this
                    subst hzz
                    obtain ⟨j, hj, rfl, _⟩ := args_mem HG.out hz1 hp
                    have h := HA.out
                    unfold allD at h
                    have h := h.symm
                    rw [List.all_eq_true] at h
                    exact h j (List.mem_range.2 (by rw [← HDA.out]; exact hj))
                  have HM := mkHid (HI.out.mark HW.out hWi HDI.out hall (HAP.out _))
                  have HB4 := mkHid (HBz.out.set hWi)
                  have hbl4 := hblz.setCell (p := ⟨w.heap.size, W i, none⟩) (Nat.le_refl _) (.bool true)
                  have HN : Hid (many + 1 = was → ∀ j, j < i + 1 → setD D (W i) (W j) = false → Stuck l W (setD D (W i)) j) := fun h => by omega
                  clear hall HS HI HA
                  go_wp2
                  go_round
                  case rel => exact ⟨many + 1, i + 1, _, _, by go_num, by go_num, by omega, by omega, by omega, HM, HN, HB4, hbl4⟩
                  case measure => simp [intOf]; omega
                | false =>
                  have HN : Hid (many = was → ∀ j, j < i + 1 → D (W j) = false → Stuck l W D j) := fun h j hj hd => by
                    by_cases e : j = i
                    · subst e
                      have h := HA.out
                      unfold allD at h
                      have h := h.symm
                      rw [List.all_eq_false] at h
                      obtain ⟨x, hx, hxd⟩ := h
                      have hx := List.mem_range.1 hx
                      refine ⟨z, argP l z x, HDO.out, ?_, by simpa using hxd⟩
                      unfold argsL
                      rw [List.getElem?_eq_getElem hz1]
                      exact List.mem_map.2 ⟨x, List.mem_range.2 (by rw [HDA.out]; exact hx), rfl⟩
                    · exact HS.out h j (by omega) hd
                  clear HS HA
                  go_wp2
                  go_round
                  case rel => exact ⟨many, i + 1, D, rank, rfl, by go_num, by omega, hwm, hmn, HI, HN, HBz, hblz⟩
                  case measure => simp [intOf]; omega
      · by_cases hmw : many = was
        · have HALL : Hid (∀ j, j < l.length → D (W j) = false → Stuck l W D j) := fun j hj hd => HS.out hmw j (by omega) hd
          have t70 : (((many : Nat) : Int) == ((was : Nat) : Int)) = true := by simp [hmw]
          clear HS hmw
          go_wp2
          go_loopw [13] (fun jv wz => ∃ j : Nat, j ≤ l.length ∧ jv = .int .i64 j ∧ Hid (∀ z, z < j → D (W z) = true) ∧ Hid (RowB wz w.heap.size l.length D) ∧ Below w.heap.size w wz) (fun jv wz => l.length - (intOf jv).toNat)
          case atStart => exact ⟨0, Nat.zero_le _, rfl, fun z hz => by omega, HB, hbl⟩
          case round =>
            clear HB hbl
            obtain ⟨j, hj, rfl, HJ, HB, hbl⟩ := hrel
            by_cases hjl : j < l.length
            · have hWj := HW.out j hjl
              have q0 := cls_at HATC.out hbl hjl
              have q1 := HB.out.read hWj
              have hj0 : (0 : Int) ≤ (j : Int) := by omega
              have hj1 : (j : Int) < (l.length : Int) := by omega
              have hw0 : (0 : Int) ≤ ((W j : Nat) : Int) := by omega
              have hw1 : ((W j : Nat) : Int) < (l.length : Int) := by omega
              cases hDj : D (W j) with
              | true =>
                rw [hDj] at q1
                have HN : Hid (∀ z, z < j + 1 → D (W z) = true) := fun z hz => by
                  by_cases e : z = j
                  · rw [e]; exact hDj
                  · exact HJ.out z (by omega)
                clear hDj HJ
                go_wp2
                go_round
                case rel => exact ⟨j + 1, by omega, by go_num, HN, HB, hbl⟩
                case measure => simp [intOf]; omega
              | false =>
                rw [hDj] at q1
                have HE : Hid (WithinPost l W (.returned (.bool true))) := .inr ⟨rfl, D, ⟨j, hjl, hDj⟩, HALL.out⟩
                clear hDj HJ
                go_wp2
                go_ret
                exact ⟨HE.out, hbl⟩
            · have HE : Hid (WithinPost l W (.returned (.bool false))) := .inl ⟨rfl, rank, fun i' hi' z hz p hp => (HI.out.ok _ (HW.out i' hi') (HJ.out i' (by omega)) z hz p hp).2⟩
              clear HJ
              go_wp2
              go_ret
              exact ⟨HE.out, hbl⟩
        · have t70 : (((many : Nat) : Int) == ((was : Nat) : Int)) = false := by simp; omega
          clear HS
          go_wp2
          go_round
          case rel => exact ⟨many, D, rank, rfl, HI, hmn, HB, hbl⟩
          case measure => simp [intOf]; omega
end Go.Proofs.Ytlddglajdcednaa
