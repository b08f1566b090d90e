import Derived.Test.YtkbgdpgmnigcbaaC15
namespace Go.Proofs.Ytkbgdpgmnigcbaa
open Go.RowKit

set_option maxHeartbeats 1600000 in
theorem refnumber_any (a : Option Addr) (cap : Nat) (w : World) (xs : List Cel) (hr : Row w a cap xs) (hl : xs.length ≤ 1000000) (h0 : 0 < xs.length) :
    Calls Try.prog 31 #[.slice a xs.length cap] w fun e w' => ∃ a' cap', e = .returned (.slice a' (numL xs).length cap') ∧ Row w' a' cap' (numL xs) ∧ Below w.heap.size w w' := by
  have hm := hr.max
  have hle := hr.le
  have hfit := mkHid hr.fit
  have hvl := varsGo_length xs []
  rw [show varsGo [] xs = varsL xs from rfl, List.length_nil, Nat.zero_add] at hvl
  go_enter Try.func31, Try.ntmps31
  go_wp2_with (first
    | (go_at_call 22; refine (refvars_any a cap _ xs hr hl).mono ?_; rintro e w1 ⟨av, capv, rfl, hrv, hb1⟩)
    | (at_builtin; refine wpList_app rfl _ _ 22 rfl w1.heap.size 40 3 32 _ Try.underlying22 Try.infoCell rfl (by decide) (by decide) _ 0 [] rfl (World.ownsRow_made (base := w1.heap.size) (e := 40) (size := 3) w1 #[] 0 (Nat.le_refl _) (by unfold maxLen; omega) rfl) a xs.length cap (flat xs) rfl ((hr.below (hb1.new _)).src) (by omega) (by simp) ?_; intro v w2 hown _ hb2))
  rw [Nat.zero_add, List.nil_append] at hown
  have hb12 := ((Below.refl w1.heap.size w1).new (.cells #[] 40)).trans hb2
  have hbl2 := hb1.then hb12
  obtain ⟨g, cp, rfl, hg1, hg2, hg3, hg4⟩ := own_form hown h0
  have hrv2 := hrv.keeps (fresh_keeps (Keeps.of hb12) hg1)
  have hsz := hb1.size
  go_loopw [5] (fun i wr => ∃ k : Nat, k ≤ xs.length ∧ i = .int .i64 k ∧ wr.ownsRow w.heap.size 40 3 (.slice (some ⟨g, 0, none⟩) xs.length cp) xs.length (flat (upTo (numC (varsL xs)) xs k)) ∧ Below w.heap.size w wr ∧ Row (hide (some g) wr) av capv (varsL xs)) (fun i wr => xs.length - (intOf i).toNat)
  case atStart => exact ⟨0, Nat.zero_le _, rfl, by rw [upTo_zero]; exact own_mono hown hsz, hbl2, hrv2⟩
  case round =>
    clear hown hrv2
    obtain ⟨k, hk, rfl, hown, hbl, hrv⟩ := hrel
    have hgl := (hown.lt g rfl).2
    have hgb := (hown.lt g rfl).1
    by_cases hlt : k < xs.length
    · obtain ⟨o0, _, o2⟩ := own_cel hown (upTo_at _ _ hlt)
      have hf := hfit.out _ (List.getElem_mem hlt)
      by_cases h1 : xs[k].k = 1
      · have t1 : (xs[k].k == 1) = true := by simp [h1]
        go_wp2_with (go_at_call 43; refine (refplace_any av capv xs[k].n _ (varsL xs) (hrv.keeps (hide_keeps _ _))).mono ?_; rintro e w3 ⟨rfl, hb3⟩; have hown3 := own_below hown hb3; have o2' := keep o2 hb3; have hfz := own_free hown3 (k * 3 + 2); have HS := mkHid (own_store hown3 hlt (show numC (varsL xs) xs[k] = ⟨xs[k].k, xs[k].s, placeI (varsL xs) xs[k].n⟩ from if_pos h1)); clear h1 o0 o2)
        go_round
        case rel => exact ⟨k + 1, by omega, by go_num, HS.out, (hbl.then hb3).setCell (by show w.heap.size ≤ g; omega) _, (hrv.keeps (below_hide hb3 _)).keeps (grown_keeps (grown_set w3 g (k * 3 + 2) _))⟩
        case measure => simp [intOf]; omega
      · have t1 : (xs[k].k == 1) = false := by simp [h1]
        have HE := mkHid (upTo_same (numC (varsL xs)) xs hlt (if_neg h1))
        clear h1
        go_wp2
        go_round
        case rel => exact ⟨k + 1, by omega, by go_num, by rw [HE.out]; exact hown, hbl, hrv⟩
        case measure => simp [intOf]; omega
    · have hu := upTo_all (numC (varsL xs)) xs (k := k) (by omega)
      rw [hu] at hown
      have hml : (xs.map (numC (varsL xs))).length = xs.length := by simp
      have hfm : ∀ c ∈ xs.map (numC (varsL xs)), c.fit := fun c hc => by
        obtain ⟨c', hc', rfl⟩ := List.mem_map.1 hc
        exact numC_fit (by omega) (hfit.out c' hc')
      obtain ⟨a2, cap2, ev, hrow⟩ := own_row (xs := xs.map (numC (varsL xs))) (by rw [hml]; exact hown) hfm
      rw [hml] at ev
      injection ev with ev1 _ ev2
      subst ev1
      subst ev2
      have HM := mkHid (show (numL xs).length = xs.length from hml)
      clear hu hml
      go_wp2
      go_ret
      exact ⟨some ⟨g, 0, none⟩, cp, by rw [HM.out]; rfl, hrow, hbl⟩

/-- what a name and arguments make -/
def madeL (nm : ByteArray) (l : List (List Cel)) : List Cel := ⟨3, nm, l.length⟩ :: l.flatten
def makeL (nm : ByteArray) (l : List (List Cel)) : List Cel := if l.all rightB && rightB (madeL nm l) then madeL nm l else []
theorem right_len {xs : List Cel} (h : rightB xs = true) : xs.length ≤ 200 := by
  obtain ⟨_, _, _, _, _, h200⟩ := right_sk h
  exact h200
theorem make_bad {nm : ByteArray} {l : List (List Cel)} {k : Nat} (hk : k < l.length) (h : rightB l[k] = false) : makeL nm l = [] := by
  unfold makeL
  rw [if_neg]
  intro h2
  simp only [Bool.and_eq_true, List.all_eq_true] at h2
  have := h2.1 _ (List.getElem_mem hk)
  rw [h] at this; cases this
theorem make_head {nm : ByteArray} {l : List (List Cel)} (h : cellOk ⟨3, nm, l.length⟩ = false) : makeL nm l = [] := by
  unfold makeL
  rw [if_neg]
  intro h2
  simp only [Bool.and_eq_true] at h2
  obtain ⟨c, r, e, hc, _⟩ := right_sk h2.2
  unfold madeL at e
  rw [← (List.cons.inj e).1, h] at hc; cases hc
theorem all_take {l : List (List Cel)} {k : Nat} (hk : k < l.length) (h : (l.take k).all rightB = true) (h2 : rightB l[k] = true) : (l.take (k + 1)).all rightB = true := by
  rw [List.take_succ_eq_append_getElem hk, List.all_append, h]; simp [h2]
theorem flatten_take {l : List (List Cel)} {k : Nat} (hk : k < l.length) : (l.take (k + 1)).flatten = (l.take k).flatten ++ l[k] := by
  rw [List.take_succ_eq_append_getElem hk, List.flatten_append]; simp
theorem made_length {l : List (List Cel)} (h : l.all rightB = true) : l.flatten.length ≤ 200 * l.length := by
  induction l with
  | nil => simp
  | cons p l ih =>
    simp only [List.all_cons, Bool.and_eq_true] at h
    obtain ⟨_, _, _, _, _, h200⟩ := right_sk h.1
    have := ih h.2
    simp only [List.flatten_cons, List.length_append, List.length_cons]; omega

/-- what holds when k arguments stand behind the name -/
structure MakeInv (w : World) (nm : ByteArray) (l : List (List Cel)) (k : Nat) (v : Value) (wr : World) : Prop where
  all : (l.take k).all rightB = true
  own : wr.ownsRow w.heap.size 40 3 v (1 + (l.take k).flatten.length) (flat (⟨3, nm, l.length⟩ :: (l.take k).flatten))
  bel : Below w.heap.size w wr
  fit : Hid (∀ c ∈ (l.take k).flatten, c.fit)

set_option maxHeartbeats 1600000 in
theorem make_any (a : Option Addr) (cap : Nat) (nm : ByteArray) (w : World) (l : List (List Cel)) (hr : Row w a cap l) (hl : l.length ≤ 1000) (hn : nm.size ≤ 9223372036854775807) :
    Calls Try.prog 34 #[.string nm, .slice a l.length cap] w fun e w' => ∃ a' cap', e = .returned (.slice a' (makeL nm l).length cap') ∧ Row w' a' cap' (makeL nm l) ∧ Below w.heap.size w w' := by
  have hm := hr.max
  have hle := hr.le
  have hcf : (⟨3, nm, l.length⟩ : Cel).fit := ⟨by simp, by simp, by show (-9223372036854775808 : Int) ≤ l.length; omega, by show (l.length : Int) ≤ 9223372036854775807; omega, hn⟩
  have hb0 := (Below.refl w.heap.size w).new (.cells #[.int .i64 3, .string nm, .int .i64 l.length] 40)
  have hown0 : (w.alloc (.cells #[.int .i64 3, .string nm, .int .i64 l.length] 40)).ownsRow w.heap.size 40 3 (.slice (some ⟨w.heap.size, 0, none⟩) 1 1) 1 (flat (⟨3, nm, l.length⟩ :: (l.take 0).flatten)) := by
    have := World.ownsRow_lit (base := w.heap.size) (e := 40) (size := 3) w #[.int .i64 3, .string nm, .int .i64 l.length] 1 (Nat.le_refl _) (by unfold maxLen; omega) rfl
    simpa [flat] using this
  cases hcb : cellOk ⟨3, nm, l.length⟩ with
  | false =>
    have HE := mkHid (make_head hcb)
    have HC := mkHid hcb
    clear hcb
    go_enter Try.func34, Try.ntmps34
    go_wp2_with (go_at_call 46; refine (may_any ⟨3, nm, l.length⟩ _ hcf).mono ?_; rintro e w1 ⟨rfl, hb1⟩; rw [HC.out])
    go_ret
    rw [HE.out]
    exact ⟨none, 0, rfl, Row.empty _ _ _ (by omega) (fun _ => rfl), hb0.then hb1⟩
  | true =>
  have HC := mkHid hcb
  clear hcb
  go_enter Try.func34, Try.ntmps34
  go_wp2_with (go_at_call 46; refine (may_any ⟨3, nm, l.length⟩ _ hcf).mono ?_; rintro e w1 ⟨rfl, hb1⟩; rw [HC.out])
  have hown1 := own_below hown0 hb1
  have hb01 := hb0.then hb1
  go_loopw [5, 20] (fun v i wr => ∃ k : Nat, k ≤ l.length ∧ i = .int .i64 k ∧ MakeInv w nm l k v wr) (fun v i wr => l.length - (intOf i).toNat)
  case atStart => exact ⟨0, Nat.zero_le _, rfl, ⟨rfl, hown1, hb01, by simp [Hid]⟩⟩
  case round =>
    clear hown0 hown1
    obtain ⟨k, hk, rfl, ⟨HA, hown, hbl, HF⟩⟩ := hrel
    have hlen := made_length HA
    rw [List.length_take, Nat.min_eq_left hk] at hlen
    by_cases hlt : k < l.length
    · obtain ⟨b, off, rfl, hb, hat⟩ := hr.cases.resolve_left (fun e => by simp [e] at hlt)
      obtain ⟨a1, cap1, c0, hr1⟩ := list_at hat hbl hlt
      cases hR : rightB l[k] with
      | false =>
        have HE := mkHid (make_bad (nm := nm) hlt hR)
        have HR := mkHid hR
        clear hR HA
        go_wp2_with (go_at_call 14; refine (right_any a1 cap1 _ l[k] hr1).mono ?_; rintro e w2 ⟨rfl, hb2⟩; rw [HR.out])
        go_ret
        rw [HE.out]
        exact ⟨none, 0, rfl, Row.empty _ _ _ (by omega) (fun _ => rfl), hbl.then hb2⟩
      | true =>
        have h200 := right_len hR
        have HA' := mkHid (all_take hlt HA hR)
        have HT := mkHid (flatten_take hlt)
        have HF' : Hid (∀ c ∈ (l.take (k + 1)).flatten, c.fit) := by
          rw [Hid, HT.out]
          intro c hc
          rcases List.mem_append.1 hc with h | h
          · exact HF.out c h
          · exact hr1.fit c h
        have HR := mkHid hR
        clear hR HA
        go_wp2_with (first
          | (go_at_call 14; refine (right_any a1 cap1 _ l[k] hr1).mono ?_; rintro e w2 ⟨rfl, hb2⟩; rw [HR.out]; have hown2 := own_below hown hb2; have hbl2 := hbl.then hb2; have c0' := keep c0 hb2; clear c0)
          | (at_builtin; refine wpList_app rfl _ _ 22 rfl w.heap.size 40 3 32 _ Try.underlying22 Try.infoCell rfl (by decide) (by decide) _ _ _ rfl hown2 a1 l[k].length cap1 (flat l[k]) rfl ((hr1.below hb2).src) (by omega) hbl2.size ?_; intro v' w3 hown3 _ hb3))
        rw [← flat_append, List.cons_append] at hown3
        go_round
        case rel => exact ⟨k + 1, by omega, by go_num, ⟨HA'.out, by rw [HT.out, List.length_append, ← Nat.add_assoc]; exact hown3, hbl2.trans hb3, HF'⟩⟩
        case measure => simp [intOf]; omega
    · have hkl : l.take k = l := List.take_of_length_le (by omega)
      rw [hkl] at hown HA HF
      have hML : (madeL nm l).length = 1 + l.flatten.length := by simp [madeL]; omega
      have hfm : ∀ c ∈ madeL nm l, c.fit := fun c hc => by
        rcases List.mem_cons.1 hc with rfl | hc
        · exact hcf
        · exact HF.out c hc
      obtain ⟨a2, cap2, rfl, hrow⟩ := own_row (xs := madeL nm l) (by rw [hML]; exact hown) hfm
      have HA' := mkHid HA
      clear hkl hML HA
      cases hR : rightB (madeL nm l) with
      | true =>
        have HZ : Hid (makeL nm l = madeL nm l) := if_pos (by rw [HA'.out, hR]; rfl)
        have HR := mkHid hR
        clear hR
        go_wp2_with (go_at_call 14; refine (right_any a2 cap2 _ (madeL nm l) hrow).mono ?_; rintro e w2 ⟨rfl, hb2⟩; rw [HR.out])
        go_ret
        rw [HZ.out]
        exact ⟨a2, cap2, rfl, hrow.below hb2, hbl.then hb2⟩
      | false =>
        have HZ : Hid (makeL nm l = []) := if_neg (by rw [hR]; simp)
        have HR := mkHid hR
        clear hR
        go_wp2_with (go_at_call 14; refine (right_any a2 cap2 _ (madeL nm l) hrow).mono ?_; rintro e w2 ⟨rfl, hb2⟩; rw [HR.out])
        go_ret
        rw [HZ.out]
        exact ⟨none, 0, rfl, Row.empty _ _ _ (by omega) (fun _ => rfl), hbl.then hb2⟩

set_option maxHeartbeats 1600000 in
theorem refmake_any (a : Option Addr) (cap : Nat) (nm : ByteArray) (w : World) (l : List (List Cel)) (hr : Row w a cap l) (hl : l.length ≤ 1000) (hn : nm.size ≤ 9223372036854775807) :
    Calls Try.prog 35 #[.string nm, .slice a l.length cap] w fun e w' => ∃ a' cap', e = .returned (.slice a' (makeL nm l).length cap') ∧ Row w' a' cap' (makeL nm l) ∧ Below w.heap.size w w' := by
  have hm := hr.max
  have hle := hr.le
  have hcf : (⟨3, nm, l.length⟩ : Cel).fit := ⟨by simp, by simp, by show (-9223372036854775808 : Int) ≤ l.length; omega, by show (l.length : Int) ≤ 9223372036854775807; omega, hn⟩
  have hb0 := (Below.refl w.heap.size w).new (.cells #[.int .i64 3, .string nm, .int .i64 l.length] 40)
  have hown0 : (w.alloc (.cells #[.int .i64 3, .string nm, .int .i64 l.length] 40)).ownsRow w.heap.size 40 3 (.slice (some ⟨w.heap.size, 0, none⟩) 1 1) 1 (flat (⟨3, nm, l.length⟩ :: (l.take 0).flatten)) := by
    have := World.ownsRow_lit (base := w.heap.size) (e := 40) (size := 3) w #[.int .i64 3, .string nm, .int .i64 l.length] 1 (Nat.le_refl _) (by unfold maxLen; omega) rfl
    simpa [flat] using this
  go_enter Try.func35, Try.ntmps35
  go_wp2_with fail
  have hown1 := hown0
  have hb01 := hb0
  go_loopw [5, 6] (fun v i wr => ∃ k : Nat, k ≤ l.length ∧ i = .int .i64 k ∧ MakeInv w nm l k v wr) (fun v i wr => l.length - (intOf i).toNat)
  case atStart => exact ⟨0, Nat.zero_le _, rfl, ⟨rfl, hown1, hb01, by simp [Hid]⟩⟩
  case round =>
    clear hown0 hown1
    obtain ⟨k, hk, rfl, ⟨HA, hown, hbl, HF⟩⟩ := hrel
    have hlen := made_length HA
    rw [List.length_take, Nat.min_eq_left hk] at hlen
    by_cases hlt : k < l.length
    · obtain ⟨b, off, rfl, hb, hat⟩ := hr.cases.resolve_left (fun e => by simp [e] at hlt)
      obtain ⟨a1, cap1, c0, hr1⟩ := list_at hat hbl hlt
      cases hR : rightB l[k] with
      | false =>
        have HE := mkHid (make_bad (nm := nm) hlt hR)
        have HR := mkHid hR
        clear hR HA
        go_wp2_with (go_at_call 15; refine (refright_any a1 cap1 _ l[k] hr1).mono ?_; rintro e w2 ⟨rfl, hb2⟩; rw [HR.out])
        go_ret
        rw [HE.out]
        exact ⟨none, 0, rfl, Row.empty _ _ _ (by omega) (fun _ => rfl), hbl.then hb2⟩
      | true =>
        have h200 := right_len hR
        have HA' := mkHid (all_take hlt HA hR)
        have HT := mkHid (flatten_take hlt)
        have HF' : Hid (∀ c ∈ (l.take (k + 1)).flatten, c.fit) := by
          rw [Hid, HT.out]
          intro c hc
          rcases List.mem_append.1 hc with h | h
          · exact HF.out c h
          · exact hr1.fit c h
        have HR := mkHid hR
        clear hR HA
        go_wp2_with (first
          | (go_at_call 15; refine (refright_any a1 cap1 _ l[k] hr1).mono ?_; rintro e w2 ⟨rfl, hb2⟩; rw [HR.out]; have hown2 := own_below hown hb2; have hbl2 := hbl.then hb2; have c0' := keep c0 hb2; clear c0)
          | (at_builtin; refine wpList_app rfl _ _ 22 rfl w.heap.size 40 3 32 _ Try.underlying22 Try.infoCell rfl (by decide) (by decide) _ _ _ rfl hown2 a1 l[k].length cap1 (flat l[k]) rfl ((hr1.below hb2).src) (by omega) hbl2.size ?_; intro v' w3 hown3 _ hb3))
        rw [← flat_append, List.cons_append] at hown3
        go_round
        case rel => exact ⟨k + 1, by omega, by go_num, ⟨HA'.out, by rw [HT.out, List.length_append, ← Nat.add_assoc]; exact hown3, hbl2.trans hb3, HF'⟩⟩
        case measure => simp [intOf]; omega
    · have hkl : l.take k = l := List.take_of_length_le (by omega)
      rw [hkl] at hown HA HF
      have hML : (madeL nm l).length = 1 + l.flatten.length := by simp [madeL]; omega
      have hfm : ∀ c ∈ madeL nm l, c.fit := fun c hc => by
        rcases List.mem_cons.1 hc with rfl | hc
        · exact hcf
        · exact HF.out c hc
      obtain ⟨a2, cap2, rfl, hrow⟩ := own_row (xs := madeL nm l) (by rw [hML]; exact hown) hfm
      have HA' := mkHid HA
      clear hkl hML HA
      cases hR : rightB (madeL nm l) with
      | true =>
        have HZ : Hid (makeL nm l = madeL nm l) := if_pos (by rw [HA'.out, hR]; rfl)
        have HR := mkHid hR
        clear hR
        go_wp2_with (go_at_call 15; refine (refright_any a2 cap2 _ (madeL nm l) hrow).mono ?_; rintro e w2 ⟨rfl, hb2⟩; rw [HR.out])
        go_ret
        rw [HZ.out]
        exact ⟨a2, cap2, rfl, hrow.below hb2, hbl.then hb2⟩
      | false =>
        have HZ : Hid (makeL nm l = []) := if_neg (by rw [hR]; simp)
        have HR := mkHid hR
        clear hR
        go_wp2_with (go_at_call 15; refine (refright_any a2 cap2 _ (madeL nm l) hrow).mono ?_; rintro e w2 ⟨rfl, hb2⟩; rw [HR.out])
        go_ret
        rw [HZ.out]
        exact ⟨none, 0, rfl, Row.empty _ _ _ (by omega) (fun _ => rfl), hbl.then hb2⟩
end Go.Proofs.Ytkbgdpgmnigcbaa
