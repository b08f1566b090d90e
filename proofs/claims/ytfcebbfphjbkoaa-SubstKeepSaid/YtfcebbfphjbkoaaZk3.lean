import Derived.Test.YtfcebbfphjbkoaaZk2
import Derived.Maps.OwnOps
import Derived.Maps.OwnSet
import Derived.Maps.OwnIn
import Derived.Deep.RegionHeld3
namespace Go.Proofs.Ytfcebbfphjbkoaa
open Go.RowKit

/-- what a name and arguments make -/
def madeL (nm : ByteArray) (l : List (List Cel)) : List Cel := ⟨3, nm, l.length⟩ :: l.flatten
def makeL (nm : ByteArray) (l : List (List Cel)) : List Cel := if l.all rightB && rightB (madeL nm l) then madeL nm l else []
theorem right_len {xs : List Cel} (h : rightB xs = true) : xs.length ≤ 200 := by
  obtain ⟨_, _, _, _, _, h200⟩ := right_sk h
  exact h200
theorem make_bad {nm : ByteArray} {l : List (List Cel)} {k : Nat} (hk : k < l.length) (h : rightB l[k] = false) : makeL nm l = [] := by
  unfold makeL
  rw [if_neg]
  intro h2
  simp only [Bool.and_eq_true, List.all_eq_true] at h2
  have := h2.1 _ (List.getElem_mem hk)
  rw [h] at this; cases this
theorem make_head {nm : ByteArray} {l : List (List Cel)} (h : cellOk ⟨3, nm, l.length⟩ = false) : makeL nm l = [] := by
  unfold makeL
  rw [if_neg]
  intro h2
  simp only [Bool.and_eq_true] at h2
  obtain ⟨c, r, e, hc, _⟩ := right_sk h2.2
  unfold madeL at e
  rw [← (List.cons.inj e).1, h] at hc; cases hc
theorem all_take {l : List (List Cel)} {k : Nat} (hk : k < l.length) (h : (l.take k).all rightB = true) (h2 : rightB l[k] = true) : (l.take (k + 1)).all rightB = true := by
  rw [List.take_succ_eq_append_getElem hk, List.all_append, h]; simp [h2]
theorem flatten_take {l : List (List Cel)} {k : Nat} (hk : k < l.length) : (l.take (k + 1)).flatten = (l.take k).flatten ++ l[k] := by
  rw [List.take_succ_eq_append_getElem hk, List.flatten_append]; simp
theorem made_length {l : List (List Cel)} (h : l.all rightB = true) : l.flatten.length ≤ 200 * l.length := by
  induction l with
  | nil => simp
  | cons p l ih =>
    simp only [List.all_cons, Bool.and_eq_true] at h
    obtain ⟨_, _, _, _, _, h200⟩ := right_sk h.1
    have := ih h.2
    simp only [List.flatten_cons, List.length_append, List.length_cons]; omega

/-- what holds when k arguments stand behind the name -/
structure MakeInv (w : World) (nm : ByteArray) (l : List (List Cel)) (k : Nat) (v : Value) (wr : World) : Prop where
  all : (l.take k).all rightB = true
  own : wr.ownsRow w.heap.size 24 3 v (1 + (l.take k).flatten.length) (flat (⟨3, nm, l.length⟩ :: (l.take k).flatten))
  bel : Below w.heap.size w wr
  fit : Hid (∀ c ∈ (l.take k).flatten, c.fit)

set_option maxHeartbeats 1600000 in
theorem make_any (a : Option Addr) (cap : Nat) (nm : ByteArray) (w : World) (l : List (List Cel)) (hr : Row w a cap l) (hl : l.length ≤ 1000) (hn : nm.size ≤ 9223372036854775807) :
    Calls Try.prog 43 #[.string nm, .slice a l.length cap] w fun e w' => ∃ a' cap', e = .returned (.slice a' (makeL nm l).length cap') ∧ Row w' a' cap' (makeL nm l) ∧ Below w.heap.size w w' := by
  have hm := hr.max
  have hle := hr.le
  have hcf : (⟨3, nm, l.length⟩ : Cel).fit := ⟨by simp, by simp, by show (-9223372036854775808 : Int) ≤ l.length; omega, by show (l.length : Int) ≤ 9223372036854775807; omega, hn⟩
  have hb0 := (Below.refl w.heap.size w).new (.cells #[.int .i64 3, .string nm, .int .i64 l.length] 24)
  have hown0 : (w.alloc (.cells #[.int .i64 3, .string nm, .int .i64 l.length] 24)).ownsRow w.heap.size 24 3 (.slice (some ⟨w.heap.size, 0, none⟩) 1 1) 1 (flat (⟨3, nm, l.length⟩ :: (l.take 0).flatten)) := by
    have := World.ownsRow_lit (base := w.heap.size) (e := 24) (size := 3) w #[.int .i64 3, .string nm, .int .i64 l.length] 1 (Nat.le_refl _) (by unfold maxLen; omega) rfl
    simpa [flat] using this
  cases hcb : cellOk ⟨3, nm, l.length⟩ with
  | false =>
    have HE := mkHid (make_head hcb)
    have HC := mkHid hcb
    clear hcb
    go_enter Try.func43, Try.ntmps43
    go_wp2_with (go_at_call 66; refine (may_any ⟨3, nm, l.length⟩ _ hcf).mono ?_; rintro e w1 ⟨rfl, hb1⟩; rw [HC.out])
    go_ret
    rw [HE.out]
    exact ⟨none, 0, rfl, Row.empty _ _ _ (by omega) (fun _ => rfl), hb0.then hb1⟩
  | true =>
  have HC := mkHid hcb
  clear hcb
  go_enter Try.func43, Try.ntmps43
  go_wp2_with (go_at_call 66; refine (may_any ⟨3, nm, l.length⟩ _ hcf).mono ?_; rintro e w1 ⟨rfl, hb1⟩; rw [HC.out])
  have hown1 := own_below hown0 hb1
  have hb01 := hb0.then hb1
  go_loopw [5, 20] (fun v i wr => ∃ k : Nat, k ≤ l.length ∧ i = .int .i64 k ∧ MakeInv w nm l k v wr) (fun v i wr => l.length - (intOf i).toNat)
  case atStart => exact ⟨0, Nat.zero_le _, rfl, ⟨rfl, hown1, hb01, by simp [Hid]⟩⟩
  case round =>
    clear hown0 hown1
    obtain ⟨k, hk, rfl, ⟨HA, hown, hbl, HF⟩⟩ := hrel
    have hlen := made_length HA
    rw [List.length_take, Nat.min_eq_left hk] at hlen
    by_cases hlt : k < l.length
    · obtain ⟨b, off, rfl, hb, hat⟩ := hr.cases.resolve_left (fun e => by simp [e] at hlt)
      obtain ⟨a1, cap1, c0, hr1⟩ := list_at hat hbl hlt
      cases hR : rightB l[k] with
      | false =>
        have HE := mkHid (make_bad (nm := nm) hlt hR)
        have HR := mkHid hR
        clear hR HA
        go_wp2_with (go_at_call 15; refine (right_any a1 cap1 _ l[k] hr1).mono ?_; rintro e w2 ⟨rfl, hb2⟩; rw [HR.out])
        go_ret
        rw [HE.out]
        exact ⟨none, 0, rfl, Row.empty _ _ _ (by omega) (fun _ => rfl), hbl.then hb2⟩
      | true =>
        have h200 := right_len hR
        have HA' := mkHid (all_take hlt HA hR)
        have HT := mkHid (flatten_take hlt)
        have HF' : Hid (∀ c ∈ (l.take (k + 1)).flatten, c.fit) := by
          rw [Hid, HT.out]
          intro c hc
          rcases List.mem_append.1 hc with h | h
          · exact HF.out c h
          · exact hr1.fit c h
        have HR := mkHid hR
        clear hR HA
        go_wp2_with (first
          | (go_at_call 15; refine (right_any a1 cap1 _ l[k] hr1).mono ?_; rintro e w2 ⟨rfl, hb2⟩; rw [HR.out]; have hown2 := own_below hown hb2; have hbl2 := hbl.then hb2; have c0' := keep c0 hb2; clear c0)
          | (at_builtin; refine wpList_app rfl _ _ 22 rfl w.heap.size 24 3 32 _ Try.underlying22 Try.infoCell rfl (by decide) (by decide) _ _ _ rfl hown2 a1 l[k].length cap1 (flat l[k]) rfl ((hr1.below hb2).src) (by omega) hbl2.size ?_; intro v' w3 hown3 _ hb3))
        rw [← flat_append, List.cons_append] at hown3
        go_round
        case rel => exact ⟨k + 1, by omega, by go_num, ⟨HA'.out, by rw [HT.out, List.length_append, ← Nat.add_assoc]; exact hown3, hbl2.trans hb3, HF'⟩⟩
        case measure => simp [intOf]; omega
    · have hkl : l.take k = l := List.take_of_length_le (by omega)
      rw [hkl] at hown HA HF
      have hML : (madeL nm l).length = 1 + l.flatten.length := by simp [madeL]; omega
      have hfm : ∀ c ∈ madeL nm l, c.fit := fun c hc => by
        rcases List.mem_cons.1 hc with rfl | hc
        · exact hcf
        · exact HF.out c hc
      obtain ⟨a2, cap2, rfl, hrow⟩ := own_row (xs := madeL nm l) (by rw [hML]; exact hown) hfm
      have HA' := mkHid HA
      clear hkl hML HA
      cases hR : rightB (madeL nm l) with
      | true =>
        have HZ : Hid (makeL nm l = madeL nm l) := if_pos (by rw [HA'.out, hR]; rfl)
        have HR := mkHid hR
        clear hR
        go_wp2_with (go_at_call 15; refine (right_any a2 cap2 _ (madeL nm l) hrow).mono ?_; rintro e w2 ⟨rfl, hb2⟩; rw [HR.out])
        go_ret
        rw [HZ.out]
        exact ⟨a2, cap2, rfl, hrow.below hb2, hbl.then hb2⟩
      | false =>
        have HZ : Hid (makeL nm l = []) := if_neg (by rw [hR]; simp)
        have HR := mkHid hR
        clear hR
        go_wp2_with (go_at_call 15; refine (right_any a2 cap2 _ (madeL nm l) hrow).mono ?_; rintro e w2 ⟨rfl, hb2⟩; rw [HR.out])
        go_ret
        rw [HZ.out]
        exact ⟨none, 0, rfl, Row.empty _ _ _ (by omega) (fun _ => rfl), hbl.then hb2⟩

end Go.Proofs.Ytfcebbfphjbkoaa
namespace Go.Proofs.Ytfcebbfphjbkoaa
open Go.RowKit

def oneL : List Cel := [⟨3, ⟨#[102]⟩, 3⟩, ⟨1, ⟨#[]⟩, 3⟩, ⟨3, ⟨#[103]⟩, 1⟩, ⟨1, ⟨#[]⟩, 1⟩, ⟨1, ⟨#[]⟩, 3⟩]
def oneT : Tm := .mk ⟨3, ⟨#[102]⟩, 3⟩ [.mk ⟨1, ⟨#[]⟩, 3⟩ [], .mk ⟨3, ⟨#[103]⟩, 1⟩ [.mk ⟨1, ⟨#[]⟩, 1⟩ []], .mk ⟨1, ⟨#[]⟩, 3⟩ []]
theorem one_right : rightB oneL = true := by decide +kernel
theorem one_flat : oneT.flat = oneL := by simp [oneT, Tm.flat, flats, oneL]
theorem one_ok : oneT.ok := by simp [oneT, Tm.ok, oks]; decide +kernel
theorem one_depth : oneT.depth = 3 := by simp [oneT, Tm.depth, depths]
theorem one_parts : partsL oneL = [[⟨1, ⟨#[]⟩, 3⟩], [⟨3, ⟨#[103]⟩, 1⟩, ⟨1, ⟨#[]⟩, 1⟩], [⟨1, ⟨#[]⟩, 3⟩]] := by decide +kernel
theorem one_vars : varsL oneL = [3, 1] := by decide +kernel
theorem one_num : numL oneL = [⟨3, ⟨#[102]⟩, 3⟩, ⟨1, ⟨#[]⟩, 0⟩, ⟨3, ⟨#[103]⟩, 1⟩, ⟨1, ⟨#[]⟩, 1⟩, ⟨1, ⟨#[]⟩, 0⟩] := by decide +kernel
theorem one_shift : shiftL oneL 2 = [⟨3, ⟨#[102]⟩, 3⟩, ⟨1, ⟨#[]⟩, 5⟩, ⟨3, ⟨#[103]⟩, 1⟩, ⟨1, ⟨#[]⟩, 3⟩, ⟨1, ⟨#[]⟩, 5⟩] := by decide +kernel
theorem one_shift997 : shiftL oneL 997 = [] := by decide +kernel
theorem one_cut : rightB [⟨3, ⟨#[102]⟩, 3⟩, ⟨1, ⟨#[]⟩, 3⟩, ⟨3, ⟨#[103]⟩, 1⟩, ⟨1, ⟨#[]⟩, 1⟩] = false := by decide +kernel
theorem nil_right : rightB [] = false := by decide +kernel
theorem one_ground : groundB oneL = false := by decide +kernel
theorem make_a : makeL ⟨#[97]⟩ [] = [⟨3, ⟨#[97]⟩, 0⟩] := by decide +kernel
theorem make_none : makeL ⟨#[]⟩ [] = [] := by decide +kernel
theorem comp_a7 : compP [⟨3, ⟨#[97]⟩, 0⟩] [⟨2, ⟨#[]⟩, 7⟩] = 1 := by decide +kernel
theorem comp_77 : compP [⟨2, ⟨#[]⟩, 7⟩] [⟨2, ⟨#[]⟩, 7⟩] = 0 := by decide +kernel
theorem ground_a : groundB [⟨3, ⟨#[97]⟩, 0⟩] = true := by decide +kernel

set_option maxHeartbeats 400000 in
theorem one_any (w : World) :
    Calls Try.prog 38 #[] w fun e w' => ∃ a cap, e = .returned (.slice a 5 cap) ∧ Row w' a cap oneL ∧ Below w.heap.size w w' := by
  have hown := World.ownsRow_lit (base := w.heap.size) (e := 24) (size := 3) w #[.int .i64 3, .string ⟨#[102]⟩, .int .i64 3, .int .i64 1, .string ⟨#[]⟩, .int .i64 3, .int .i64 3, .string ⟨#[103]⟩, .int .i64 1, .int .i64 1, .string ⟨#[]⟩, .int .i64 1, .int .i64 1, .string ⟨#[]⟩, .int .i64 3] 5 (Nat.le_refl _) (by unfold maxLen; omega) rfl
  have hfit : ∀ c ∈ oneL, c.fit := by
    intro c hc
    simp only [oneL, List.mem_cons, List.not_mem_nil, or_false] at hc
    rcases hc with rfl | rfl | rfl | rfl | rfl <;> exact ⟨by decide, by decide, by decide, by decide, by decide⟩
  obtain ⟨a, cap, e, hr⟩ := own_row (xs := oneL) hown hfit
  injection e with e1 e2 e3
  subst e1
  subst e3
  have hb := (Below.refl w.heap.size w).new (.cells #[.int .i64 3, .string ⟨#[102]⟩, .int .i64 3, .int .i64 1, .string ⟨#[]⟩, .int .i64 3, .int .i64 3, .string ⟨#[103]⟩, .int .i64 1, .int .i64 1, .string ⟨#[]⟩, .int .i64 1, .int .i64 1, .string ⟨#[]⟩, .int .i64 3] 24)
  clear e2 hown hfit
  go_enter Try.func38, Try.ntmps38
  go_wp2
  go_ret
  exact ⟨_, _, rfl, hr, hb⟩
end Go.Proofs.Ytfcebbfphjbkoaa
namespace Go.Proofs.Ytfcebbfphjbkoaa
open Go.RowKit

theorem later_of {w0 : World} {x : Later w0} {w' : World} (h : Below x.w'.heap.size x.w' w') : ∃ y : Later w0, w' = y.w' := ⟨⟨w', x.ok.then h⟩, rfl⟩
theorem later_first {w0 w' : World} (h : Below w0.heap.size w0 w') : ∃ y : Later w0, w' = y.w' := ⟨⟨w', h⟩, rfl⟩
theorem nilRow {α : Type} [Rep α] (w : World) : Row w none 0 ([] : List α) := Row.empty _ _ _ (by omega) (fun _ => rfl)

section lit
variable {n : Nat} {xs : List Cel} {a : Option Addr} {cap : Nat} {w : World}
theorem right_lit (hn : n = xs.length) (hr : Row w a cap xs) {b : Bool} (hb : rightB xs = b) :
    Calls Try.prog 15 #[.slice a n cap] w fun e w' => e = .returned (.bool b) ∧ Below w.heap.size w w' := by
  subst hn; subst hb; exact right_any a cap w xs hr
theorem parts_lit (hn : n = xs.length) (hr : Row w a cap xs) (hb : rightB xs = true) {m : Nat} {ps : List (List Cel)} (hp : partsL xs = ps) (hm : m = ps.length) :
    Calls Try.prog 39 #[.slice a n cap] w fun e w' => ∃ a' cap', e = .returned (.slice a' m cap') ∧ Row w' a' cap' ps ∧ Below w.heap.size w w' := by
  subst hn; subst hm; subst hp; exact parts_any a cap w xs hr hb
theorem number_lit (hn : n = xs.length) (hr : Row w a cap xs) (hl : xs.length ≤ 1000000) (h0 : 0 < xs.length) {m : Nat} {ps : List Cel} (hp : numL xs = ps) (hm : m = ps.length) :
    Calls Try.prog 40 #[.slice a n cap] w fun e w' => ∃ a' cap', e = .returned (.slice a' m cap') ∧ Row w' a' cap' ps ∧ Below w.heap.size w w' := by
  subst hn; subst hm; subst hp; exact number_any a cap w xs hr hl h0
theorem vars_lit (hn : n = xs.length) (hr : Row w a cap xs) (hl : xs.length ≤ 1000000) {m : Nat} {ps : List Int} (hp : varsL xs = ps) (hm : m = ps.length) :
    Calls Try.prog 41 #[.slice a n cap] w fun e w' => ∃ a' cap', e = .returned (.slice a' m cap') ∧ Row w' a' cap' ps ∧ Below w.heap.size w w' := by
  subst hn; subst hm; subst hp; exact vars_any a cap w xs hr hl
theorem shift_lit (d : Int) (hn : n = xs.length) (hr : Row w a cap xs) (hl : xs.length ≤ 1000000) (h0 : 0 < xs.length) {m : Nat} {ps : List Cel} (hp : shiftL xs d = ps) (hm : m = ps.length) :
    Calls Try.prog 42 #[.slice a n cap, .int .i64 d] w fun e w' => ∃ a' cap', e = .returned (.slice a' m cap') ∧ Row w' a' cap' ps ∧ Below w.heap.size w w' := by
  subst hn; subst hm; subst hp; exact shift_any a cap d w xs hr hl h0
theorem make_lit (nm : ByteArray) {l : List (List Cel)} (hn : n = l.length) (hr : Row w a cap l) (hl : l.length ≤ 1000) (hs : nm.size ≤ 9223372036854775807) {m : Nat} {ps : List Cel} (hp : makeL nm l = ps) (hm : m = ps.length) :
    Calls Try.prog 43 #[.string nm, .slice a n cap] w fun e w' => ∃ a' cap', e = .returned (.slice a' m cap') ∧ Row w' a' cap' ps ∧ Below w.heap.size w w' := by
  subst hn; subst hm; subst hp; exact make_any a cap nm w l hr hl hs
theorem ground_lit (hn : n = xs.length) (hr : Row w a cap xs) {b : Bool} (hb : groundB xs = b) :
    Calls Try.prog 45 #[.slice a n cap] w fun e w' => e = .returned (.bool b) ∧ Below w.heap.size w w' := by
  subst hn; subst hb; exact ground_any a cap w xs hr
theorem compare_lit {m : Nat} {ys : List Cel} {a' : Option Addr} {cap' : Nat} (hn : n = xs.length) (hr : Row w a cap xs) (hm : m = ys.length) (hr' : Row w a' cap' ys) {d : Int} (hd : compP xs ys = d) :
    Calls Try.prog 46 #[.slice a n cap, .slice a' m cap'] w fun e w' => e = .returned (.int .i64 d) ∧ Below w.heap.size w w' := by
  subst hn; subst hm; subst hd; exact compare_any a cap a' cap' w xs ys hr hr'
theorem same_lit {m : Nat} {ys : List Cel} {a' : Option Addr} {cap' : Nat} (hn : n = xs.length) (hr : Row w a cap xs) (hm : m = ys.length) (hr' : Row w a' cap' ys) {d : Bool} (hd : decide (xs = ys) = d) :
    Calls Try.prog 47 #[.slice a n cap, .slice a' m cap'] w fun e w' => e = .returned (.bool d) ∧ Below w.heap.size w w' := by
  subst hn; subst hm; subst hd; exact same_any a cap a' cap' w xs ys hr hr'
theorem depth_lit {t : Tm} (hx : t.flat = xs) (ht : t.ok) (hn : n = xs.length) (hl : xs.length ≤ 200) (hr : Row w a cap xs) {d : Nat} (hd : t.depth = d) :
    Calls Try.prog 44 #[.slice a n cap] w fun e w' => e = .returned (.int .i64 d) ∧ Below w.heap.size w w' := by
  subst hn; subst hx; subst hd; exact depth_any t ht hl a cap w hr
end lit

set_option maxHeartbeats 4000000 in
set_option maxRecDepth 100000 in
theorem head_any (w : World) :
    Calls Try.prog 13 #[] w fun e w' => e = .returned (.bool true) ∧ Below w.heap.size w w' := by
  go_enter Try.func13, Try.ntmps13
  go_wp2_with fail
  refine (one_any _).mono ?_
  rintro e w1 ⟨a1, cap1, rfl, r1, hb1⟩
  go_wp2_with fail
  refine (parts_lit rfl r1 one_right one_parts (m := 3) rfl).mono ?_
  rintro e w2 ⟨a2, cap2, rfl, r2, hb2⟩
  have r1' := r1.below hb2
  go_wp2_with fail
  refine (number_lit rfl r1' (by decide) (by decide) one_num (m := 5) rfl).mono ?_
  rintro e w3 ⟨a3, cap3, rfl, r3, hb3⟩
  have r1'' := r1'.below hb3
  go_wp2_with fail
  refine (vars_lit rfl r1'' (by decide) one_vars (m := 2) rfl).mono ?_
  rintro e w4 ⟨a4, cap4, rfl, r4, hb4⟩
  go_wp2_with fail
  refine (shift_lit 2 rfl (r1''.below hb4) (by decide) (by decide) one_shift (m := 5) rfl).mono ?_
  rintro e w5 ⟨a5, cap5, rfl, r5, hb5⟩
  go_wp2_with fail
  refine (make_lit ⟨#[97]⟩ (l := []) rfl (nilRow _) (by decide) (by decide) make_a (m := 1) rfl).mono ?_
  rintro e w6 ⟨a6, cap6, rfl, r6, hb6⟩
  have hb06 := ((((hb1.then hb2).then hb3).then hb4).then hb5).then hb6
  have ho := World.ownsRow_lit (base := w6.heap.size) (e := 24) (size := 3) w6 #[.int .i64 2, .string ⟨#[]⟩, .int .i64 7] 1 (Nat.le_refl _) (by unfold maxLen; omega) rfl
  obtain ⟨a7, cap7, e7, r7⟩ := own_row (xs := [⟨2, ⟨#[]⟩, 7⟩]) ho (by intro c hc; simp only [List.mem_cons, List.not_mem_nil, or_false] at hc; subst hc; exact ⟨by decide, by decide, by decide, by decide, by decide⟩)
  injection e7 with e7 e9 e8
  clear e9
  subst e7
  subst e8
  have hb67 := (Below.refl w6.heap.size w6).new (.cells #[.int .i64 2, .string ⟨#[]⟩, .int .i64 7] 24)
  have r6' := r6.below hb67
  have r5' := (r5.below hb6).below hb67
  have r4' := ((r4.below hb5).below hb6).below hb67
  have r3' := (((r3.below hb4).below hb5).below hb6).below hb67
  have r2' := ((((r2.below hb3).below hb4).below hb5).below hb6).below hb67
  have r1w := ((((r1''.below hb4).below hb5).below hb6)).below hb67
  have hbw := hb06.then hb67
  obtain ⟨b1, o1, rfl, _, at1⟩ := r1w.cases.resolve_left (by simp [oneL])
  obtain ⟨b2, o2, rfl, _, at2⟩ := r2'.cases.resolve_left (by simp)
  obtain ⟨b3, o3, rfl, _, at3⟩ := r3'.cases.resolve_left (by simp)
  obtain ⟨b4, o4, rfl, _, at4⟩ := r4'.cases.resolve_left (by simp)
  obtain ⟨b5, o5, rfl, _, at5⟩ := r5'.cases.resolve_left (by simp)
  have k40 : ∀ z : Later (w6.alloc (.cells #[.int .i64 2, .string ⟨#[]⟩, .int .i64 7] 24)), z.w'.cell? ⟨b4, o4, none⟩ = some (.int .i64 3) := keepL (int_at at4 (Below.refl _ _) (k := 0) (by simp)).c
  have k41 : ∀ z : Later (w6.alloc (.cells #[.int .i64 2, .string ⟨#[]⟩, .int .i64 7] 24)), z.w'.cell? ⟨b4, o4 + 1, none⟩ = some (.int .i64 1) := keepL (int_at at4 (Below.refl _ _) (k := 1) (by simp)).c
  have k31 : ∀ z : Later (w6.alloc (.cells #[.int .i64 2, .string ⟨#[]⟩, .int .i64 7] 24)), z.w'.cell? ⟨b3, o3 + 5, none⟩ = some (.int .i64 0) := keepL (cel_at at3 (Below.refl _ _) (k := 1) (by simp)).c2
  have k33 : ∀ z : Later (w6.alloc (.cells #[.int .i64 2, .string ⟨#[]⟩, .int .i64 7] 24)), z.w'.cell? ⟨b3, o3 + 11, none⟩ = some (.int .i64 1) := keepL (cel_at at3 (Below.refl _ _) (k := 3) (by simp)).c2
  have k34 : ∀ z : Later (w6.alloc (.cells #[.int .i64 2, .string ⟨#[]⟩, .int .i64 7] 24)), z.w'.cell? ⟨b3, o3 + 14, none⟩ = some (.int .i64 0) := keepL (cel_at at3 (Below.refl _ _) (k := 4) (by simp)).c2
  have k51 : ∀ z : Later (w6.alloc (.cells #[.int .i64 2, .string ⟨#[]⟩, .int .i64 7] 24)), z.w'.cell? ⟨b5, o5 + 5, none⟩ = some (.int .i64 5) := keepL (cel_at at5 (Below.refl _ _) (k := 1) (by simp)).c2
  obtain ⟨p1, cp1, kp, _⟩ := list_at at2 (Below.refl _ _) (k := 1) (by simp)
  have k21 : ∀ z : Later (w6.alloc (.cells #[.int .i64 2, .string ⟨#[]⟩, .int .i64 7] 24)), z.w'.cell? ⟨b2, o2 + 1, none⟩ = some (.slice p1 2 cp1) := keepL kp
  have rcut := r1w.slice (i := 0) (j := 4) (by omega) (by decide)
  rw [Nat.zero_mul, Nat.add_zero, Nat.sub_zero, Nat.sub_zero, List.drop_zero, show oneL.take 4 = [⟨3, ⟨#[102]⟩, 3⟩, ⟨1, ⟨#[]⟩, 3⟩, ⟨3, ⟨#[103]⟩, 1⟩, ⟨1, ⟨#[]⟩, 1⟩] from rfl] at rcut
  have hcap1 := r1w.le
  have hcap1' := r1w.max
  rw [show oneL.length = 5 from rfl] at hcap1
  clear kp at1 at2 at3 at4 at5 r2 r3 r4 r5 r6 r1 r1' r1'' r2' r3' r4' r5'
  go_wp2_with fail
  refine (right_lit rfl r1w one_right).mono ?_
  rintro e w8 ⟨rfl, hb8⟩
  obtain ⟨y1, rfl⟩ := later_first hb8
  clear hb8
  go_wp2_with fail
  refine (right_lit rfl (rcut.below y1.ok) one_cut).mono ?_
  rintro e w8 ⟨rfl, hb8⟩
  obtain ⟨y2, rfl⟩ := later_of hb8
  clear hb8
  go_wp2_with fail
  refine (right_lit (xs := []) rfl (nilRow _) nil_right).mono ?_
  rintro e w8 ⟨rfl, hb8⟩
  obtain ⟨y3, rfl⟩ := later_of hb8
  clear hb8
  go_wp2_with fail
  refine (depth_lit one_flat one_ok rfl (by decide) (r1w.below y3.ok) one_depth).mono ?_
  rintro e w8 ⟨rfl, hb8⟩
  obtain ⟨y4, rfl⟩ := later_of hb8
  clear hb8
  go_wp2_with fail
  refine (ground_lit rfl (r1w.below y4.ok) one_ground).mono ?_
  rintro e w8 ⟨rfl, hb8⟩
  obtain ⟨y5, rfl⟩ := later_of hb8
  clear hb8
  go_wp2_with fail
  refine (compare_lit rfl (r6'.below y5.ok) rfl (r7.below y5.ok) comp_a7).mono ?_
  rintro e w8 ⟨rfl, hb8⟩
  obtain ⟨y6, rfl⟩ := later_of hb8
  clear hb8
  go_wp2_with fail
  refine (compare_lit rfl (r7.below y6.ok) rfl (r7.below y6.ok) comp_77).mono ?_
  rintro e w8 ⟨rfl, hb8⟩
  obtain ⟨y7, rfl⟩ := later_of hb8
  clear hb8
  go_wp2_with fail
  refine (one_any _).mono ?_
  rintro e w8 ⟨a8, cap8, rfl, r8, hb8⟩
  obtain ⟨y8, rfl⟩ := later_of hb8
  clear hb8
  go_wp2_with fail
  refine (same_lit rfl (r1w.below y8.ok) rfl r8 (decide_eq_true rfl)).mono ?_
  rintro e w8 ⟨rfl, hb8⟩
  obtain ⟨y9, rfl⟩ := later_of hb8
  clear hb8
  go_wp2_with fail
  refine (ground_lit rfl (r6'.below y9.ok) ground_a).mono ?_
  rintro e w8 ⟨rfl, hb8⟩
  obtain ⟨y10, rfl⟩ := later_of hb8
  clear hb8
  go_wp2_with fail
  refine (shift_lit 997 rfl (r1w.below y10.ok) (by decide) (by decide) one_shift997 (m := 0) rfl).mono ?_
  rintro e w8 ⟨a9, cap9, rfl, r9, hb8⟩
  obtain ⟨y11, rfl⟩ := later_of hb8
  clear hb8
  go_wp2_with fail
  refine (make_lit ⟨#[]⟩ (l := []) rfl (nilRow _) (by decide) (by decide) make_none (m := 0) rfl).mono ?_
  rintro e w8 ⟨a10, cap10, rfl, r10, hb8⟩
  obtain ⟨y12, rfl⟩ := later_of hb8
  clear hb8
  go_wp2_with fail
  go_ret
  exact ⟨rfl, hbw.then y12.ok⟩
end Go.Proofs.Ytfcebbfphjbkoaa
namespace Go.Proofs.Ytfcebbfphjbkoaa
open Go.RowKit

set_option maxHeartbeats 400000 in
theorem place2_any (a : Option Addr) (cap : Nat) (n : Int) (w : World) (xs : List Bnd) (hx : Row w a cap xs) :
    Calls Try.prog 36 #[.slice a xs.length cap, .int .i64 n] w fun e w' => e = .returned (.int .i64 (placeB xs n)) ∧ Below w.heap.size w w' := by
  have hm := hx.max
  have hm2 := hx.le
  go_enter Try.func36, Try.ntmps36
  go_wp2
  go_loopw [5] (fun i wr => ∃ k : Nat, k ≤ xs.length ∧ i = .int .i64 k ∧ Below w.heap.size w wr ∧ Hid ((xs.take k).all (fun b => !decide (b.v = n)) = true)) (fun i wr => xs.length - (intOf i).toNat)
  case atStart => exact ⟨0, Nat.zero_le _, rfl, Below.refl _ _, by simp [Hid]⟩
  case round =>
    obtain ⟨k, hk, rfl, hbl, HS⟩ := hrel
    by_cases hlt : k < xs.length
    · obtain ⟨b, off, rfl, hb, hat⟩ := hx.cases.resolve_left (fun e => by simp [e] at hlt)
      obtain ⟨a1, cap1, c0, c1, hr1, hv1, hv2⟩ := bnd_at hat hbl hlt
      by_cases he : xs[k].v = n
      · have HE : Hid ((k : Int) = (placeB xs n)) := (find_at HS.out hlt he).symm
        have ht : (xs[k].v == n) = true := by simp [he]
        clear he HS
        go_wp2
        go_ret
        exact ⟨ret_int HE.out, hbl⟩
      · have ht : (xs[k].v == n) = false := by simp [he]
        have HT := mkHid (scan_next HS.out hlt (by simp [he]))
        clear he HS
        go_wp2
        go_round
        case rel => exact ⟨k + 1, by omega, by go_num, hbl, HT⟩
        case measure => simp [intOf]; omega
    · have HE : Hid (-1 = (placeB xs n)) := (find_none HS.out (by omega)).symm
      clear HS
      go_wp2
      go_ret
      exact ⟨ret_int HE.out, hbl⟩

set_option maxHeartbeats 400000 in
theorem in2_any (a : Option Addr) (cap : Nat) (n : Int) (w : World) (xs : List Int) (hx : Row w a cap xs) :
    Calls Try.prog 33 #[.slice a xs.length cap, .int .i64 n] w fun e w' => e = .returned (.bool (decide (n ∈ xs))) ∧ Below w.heap.size w w' := by
  have hm := hx.max
  have hm2 := hx.le
  go_enter Try.func33, Try.ntmps33
  go_wp2
  go_loopw [5] (fun i wr => ∃ k : Nat, k ≤ xs.length ∧ i = .int .i64 k ∧ Below w.heap.size w wr ∧ Hid (n ∉ xs.take k)) (fun i wr => xs.length - (intOf i).toNat)
  case atStart => exact ⟨0, Nat.zero_le _, rfl, Below.refl _ _, by simp [Hid]⟩
  case round =>
    obtain ⟨k, hk, rfl, hbl, HS⟩ := hrel
    by_cases hlt : k < xs.length
    · obtain ⟨b, off, rfl, hb, hat⟩ := hx.cases.resolve_left (fun e => by simp [e] at hlt)
      obtain ⟨c0, _, _⟩ := int_at hat hbl hlt
      by_cases he : xs[k] = n
      · have HE : Hid (true = (decide (n ∈ xs))) := by rw [← he]; simp [Hid]
        have ht : (xs[k] == n) = true := by simp [he]
        clear he HS
        go_wp2
        go_ret
        exact ⟨ret_bool HE.out, hbl⟩
      · have ht : (xs[k] == n) = false := by simp [he]
        have HT : Hid (n ∉ xs.take (k + 1)) := not_mem_snoc hlt HS.out he
        clear he HS
        go_wp2
        go_round
        case rel => exact ⟨k + 1, by omega, by go_num, hbl, HT⟩
        case measure => simp [intOf]; omega
    · have HE : Hid (false = (decide (n ∈ xs))) := by
        have := HS.out
        rw [List.take_of_length_le (by omega)] at this
        simp [Hid, this]
      clear HS
      go_wp2
      go_ret
      exact ⟨ret_bool HE.out, hbl⟩

set_option maxHeartbeats 400000 in
theorem few_any (a : Option Addr) (cap : Nat) (w : World) (xs : List Bnd) (hx : Row w a cap xs) :
    Calls Try.prog 17 #[.slice a xs.length cap] w fun e w' => e = .returned (.bool (fewB xs)) ∧ Below w.heap.size w w' := by
  have hm := hx.max
  have hm2 := hx.le
  go_enter Try.func17, Try.ntmps17
  go_wp2
  go_loopw [3] (fun i wr => ∃ k : Nat, k ≤ xs.length ∧ i = .int .i64 k ∧ Below w.heap.size w wr ∧ Hid ((xs.take k).all (fun b => decide (b.t.length ≤ 300)) = true)) (fun i wr => xs.length - (intOf i).toNat)
  case atStart => exact ⟨0, Nat.zero_le _, rfl, Below.refl _ _, by simp [Hid]⟩
  case round =>
    obtain ⟨k, hk, rfl, hbl, HS⟩ := hrel
    by_cases hlt : k < xs.length
    · obtain ⟨b, off, rfl, hb, hat⟩ := hx.cases.resolve_left (fun e => by simp [e] at hlt)
      obtain ⟨a1, cap1, c0, c1, hr1, hv1, hv2⟩ := bnd_at hat hbl hlt
      by_cases he : xs[k].t.length ≤ 300
      · have HT := mkHid (scan_next (p := fun b => decide (b.t.length ≤ 300)) HS.out hlt (by simp [he]))
        clear HS
        go_wp2
        go_round
        case rel => exact ⟨k + 1, by omega, by go_num, hbl, HT⟩
        case measure => simp [intOf]; omega
      · have HE : Hid (false = fewB xs) := by
          rw [Hid]; unfold fewB; rw [scan_bad hlt (p := fun b => decide (b.t.length ≤ 300)) (by simp; omega)]; rfl
        clear HS
        go_wp2
        go_ret
        exact ⟨ret_bool HE.out, hbl⟩
    · have HE : Hid (decide ((xs.length : Int) ≤ 30) = fewB xs) := by
        rw [Hid]; unfold fewB; rw [scan_end HS.out (by omega)]; simp; omega
      clear HS
      go_wp2
      go_ret
      exact ⟨ret_bool HE.out, hbl⟩

set_option maxHeartbeats 400000 in
theorem own2_any (a : Option Addr) (cap : Nat) (n : Int) (w : World) (xs : List Cel) (hx : Row w a cap xs) :
    Calls Try.prog 51 #[.int .i64 n, .slice a xs.length cap] w fun e w' => e = .returned (.bool (ownR n xs)) ∧ Below w.heap.size w w' := by
  have hm := hx.max
  have hm2 := hx.le
  match xs, hx with
  | [], hx =>
    go_enter Try.func51, Try.ntmps51
    go_wp2
    go_ret
    exact ⟨rfl, Below.refl _ _⟩
  | [c], hx =>
    obtain ⟨b, off, rfl, hb, hat⟩ := hx.cases.resolve_left (fun e => by cases e)
    obtain ⟨c0, c1, c2, hf⟩ := cel_at hat (Below.refl _ _) (k := 0) (by simp)
    simp only [List.getElem_cons_zero, Nat.zero_mul, Nat.add_zero] at c0 c1 c2
    go_enter Try.func51, Try.ntmps51
    go_wp2
    all_goals
      go_ret
      refine ⟨ret_bool ?_, Below.refl _ _⟩
      simp_all [ownR]
  | c :: d :: l, hx =>
    have hne : (((c :: d :: l).length : Int) == 1) = false := by simp; omega
    go_enter Try.func51, Try.ntmps51
    go_wp2
    go_ret
    exact ⟨rfl, Below.refl _ _⟩
end Go.Proofs.Ytfcebbfphjbkoaa
namespace Go.Proofs.Ytfcebbfphjbkoaa
open Go.RowKit

theorem fit_int {n : Int} {s : ByteArray} {k : Int} (h0 : -9223372036854775808 ≤ k) (h1 : k ≤ 9223372036854775807) (h2 : -9223372036854775808 ≤ n) (h3 : n ≤ 9223372036854775807) (hs : s.size ≤ 9223372036854775807) : (⟨k, s, n⟩ : Cel).fit := ⟨h0, h1, h2, h3, hs⟩
theorem varC_fit {n : Int} (h2 : -9223372036854775808 ≤ n) (h3 : n ≤ 9223372036854775807) : (varC n).fit := ⟨by show _ ≤ (1 : Int); omega, by show (1 : Int) ≤ _; omega, h2, h3, by show 0 ≤ _; omega⟩

set_option maxHeartbeats 400000 in
theorem itself_any (v : Int) (a : Option Addr) (cap : Nat) (w : World) (xs : List Cel) (hx : Row w a cap xs) (h1 : -9223372036854775808 ≤ v) (h2 : v ≤ 9223372036854775807) :
    Calls Try.prog 50 #[.agg #[.int .i64 v, .slice a xs.length cap]] w fun e w' => e = .returned (.bool (ownB ⟨v, xs⟩)) ∧ Below w.heap.size w w' := by
  have hb0 := (Below.refl w.heap.size w).new (.cells #[.int .i64 v, .slice a xs.length cap] 46)
  have hb1 := hb0.new (.cells #[.int .i64 1, .string ⟨#[]⟩, .int .i64 v] 24)
  have hrow := row_new (w.alloc (.cells #[.int .i64 v, .slice a xs.length cap] 46)) #[.int .i64 1, .string ⟨#[]⟩, .int .i64 v] (24, 0) (xs := [varC v]) (CRows.single ⟨rfl, varC_fit h1 h2⟩) (by simp)
  rw [World.size_alloc] at hrow
  go_enter Try.func50, Try.ntmps50
  go_wp2_with (go_at_call 47; refine (same_lit rfl (hx.below hb1) rfl hrow rfl).mono ?_; rintro e w' ⟨rfl, hb2⟩)
  go_ret
  exact ⟨rfl, hb1.then hb2⟩
end Go.Proofs.Ytfcebbfphjbkoaa
namespace Go.Proofs.Ytfcebbfphjbkoaa
open Go.RowKit

set_option maxHeartbeats 800000 in
theorem rightsub_any (a : Option Addr) (cap : Nat) (w : World) (xs : List Bnd) (hx : Row w a cap xs) :
    Calls Try.prog 18 #[.slice a xs.length cap] w fun e w' => e = .returned (.bool (rightS xs)) ∧ Below w.heap.size w w' := by
  have hm := hx.max
  have hm2 := hx.le
  go_enter Try.func18, Try.ntmps18
  go_wp2
  go_loopw [3, 8] (fun m i wr => ∃ (k : Nat) (d : Int), k ≤ xs.length ∧ i = .int .i64 k ∧ m = .int .i64 d ∧ Hid (d = mOf xs k) ∧ 0 ≤ d ∧ d ≤ 1000 ∧ Below w.heap.size w wr ∧ Hid (rightS xs = rightG (mOf xs k) (xs.drop k))) (fun m i wr => xs.length - (intOf i).toNat)
  case atStart => exact ⟨0, 0, Nat.zero_le _, rfl, rfl, rfl, by omega, by omega, Below.refl _ _, rfl⟩
  case round =>
    obtain ⟨k, d, hk, rfl, rfl, HM, hd0, hd1, hbl, HS⟩ := hrel
    by_cases hlt : k < xs.length
    · obtain ⟨b, off, rfl, hb, hat⟩ := hx.cases.resolve_left (fun e => by simp [e] at hlt)
      obtain ⟨a1, cap1, c0, c1, hr1, hv1, hv2⟩ := bnd_at hat hbl hlt
      by_cases h1 : xs[k].v < d
      · have HE : Hid (false = rightS xs) := (right_l1 hlt HS.out (.inl (by rw [← HM.out]; omega))).symm
        clear HS
        go_wp2_with fail
        go_ret
        exact ⟨ret_bool HE.out, hbl.new _⟩
      · by_cases h2 : 999 < xs[k].v
        · have HE : Hid (false = rightS xs) := (right_l1 hlt HS.out (.inr (.inl (by omega)))).symm
          clear HS
          go_wp2_with fail
          go_ret
          exact ⟨ret_bool HE.out, hbl.new _⟩
        · have hb1 := hbl.new (.cells #[.int .i64 xs[k].v, .slice a1 xs[k].t.length cap1] 46)
          cases h3 : rightB xs[k].t with
          | false =>
            have HE : Hid (false = rightS xs) := (right_l1 hlt HS.out (.inr (.inr (.inl h3)))).symm
            have H3 := mkHid h3
            clear HS h3
            go_wp2_with (go_at_call 15; refine (right_lit rfl (hr1.below ((Below.refl _ _).new _)) H3.out).mono ?_; rintro e w3 ⟨rfl, hb3⟩)
            go_ret
            exact ⟨ret_bool HE.out, hb1.then hb3⟩
          | true =>
            cases h4 : ownB xs[k] with
            | true =>
              have HE : Hid (false = rightS xs) := (right_l1 hlt HS.out (.inr (.inr (.inr h4)))).symm
              have H3 := mkHid h3
              have H4 := mkHid h4
              clear HS h3 h4
              go_wp2_with (first
                | (go_at_call 15; refine (right_lit rfl (hr1.below ((Below.refl _ _).new _)) H3.out).mono ?_; rintro e w3 ⟨rfl, hb3⟩; have e0 := keep (w := wr.alloc (.cells #[.int .i64 xs[k].v, .slice a1 xs[k].t.length cap1] 46)) (World.cell?_alloc_at _ _ wr.heap.size 0 rfl) hb3; have e1 := keep (w := wr.alloc (.cells #[.int .i64 xs[k].v, .slice a1 xs[k].t.length cap1] 46)) (World.cell?_alloc_at _ _ wr.heap.size 1 rfl) hb3)
                | (go_at_call 50; refine (itself_any _ _ _ _ _ ((hr1.below ((Below.refl _ _).new _)).below hb3) hv1 hv2).mono ?_; rintro e w4 ⟨rfl, hb4⟩; rw [show ownB ⟨xs[k].v, xs[k].t⟩ = true from H4.out]))
              go_ret
              exact ⟨ret_bool HE.out, (hb1.then hb3).then hb4⟩
            | false =>
              have HT := mkHid (right_l2 hlt HS.out (by rw [← HM.out]; omega) (by omega) h3 h4)
              have H3 := mkHid h3
              have H4 := mkHid h4
              clear HS h3 h4
              go_wp2_with (first
                | (go_at_call 15; refine (right_lit rfl (hr1.below ((Below.refl _ _).new _)) H3.out).mono ?_; rintro e w3 ⟨rfl, hb3⟩; have e0 := keep (w := wr.alloc (.cells #[.int .i64 xs[k].v, .slice a1 xs[k].t.length cap1] 46)) (World.cell?_alloc_at _ _ wr.heap.size 0 rfl) hb3; have e1 := keep (w := wr.alloc (.cells #[.int .i64 xs[k].v, .slice a1 xs[k].t.length cap1] 46)) (World.cell?_alloc_at _ _ wr.heap.size 1 rfl) hb3)
                | (go_at_call 50; refine (itself_any _ _ _ _ _ ((hr1.below ((Below.refl _ _).new _)).below hb3) hv1 hv2).mono ?_; rintro e w4 ⟨rfl, hb4⟩; rw [show ownB ⟨xs[k].v, xs[k].t⟩ = false from H4.out]; have e2 := keep e0 hb4; clear e0 e1))
              go_round
              case rel => exact ⟨k + 1, xs[k].v + 1, by omega, by go_num, rfl, (mOf_succ hlt).symm, by omega, by omega, (hb1.then hb3).then hb4, HT⟩
              case measure => simp [intOf]; omega
    · have HE : Hid (true = rightS xs) := (right_l3 (by omega) HS.out).symm
      clear HS
      go_wp2
      go_ret
      exact ⟨ret_bool HE.out, hbl⟩
end Go.Proofs.Ytfcebbfphjbkoaa
namespace Go.Proofs.Ytfcebbfphjbkoaa
open Go.RowKit

theorem bnd_ne {xs ys : List Bnd} {k : Nat} (hx : k < xs.length) (hy : k < ys.length) (h : ¬ xs[k] = ys[k]) : ¬ xs = ys := fun e => by subst e; exact h rfl
theorem Bnd.eq_iff (x y : Bnd) : x = y ↔ x.v = y.v ∧ x.t = y.t := by cases x; cases y; simp

set_option maxHeartbeats 800000 in
theorem same2_any (a : Option Addr) (cap : Nat) (a' : Option Addr) (cap' : Nat) (w : World) (xs ys : List Bnd) (hx : Row w a cap xs) (hy : Row w a' cap' ys) :
    Calls Try.prog 26 #[.slice a xs.length cap, .slice a' ys.length cap'] w fun e w' => e = .returned (.bool (decide (xs = ys))) ∧ Below w.heap.size w w' := by
  have hm := hx.max
  have hm2 := hx.le
  have hm3 := hy.max
  have hm4 := hy.le
  by_cases hlen : xs.length = ys.length
  · have hlt2 : ys.length ≤ xs.length := by omega
    have hlt3 : xs.length ≤ ys.length := by omega
    have hne : ((xs.length : Int) != (ys.length : Int)) = false := by simp [hlen]
    clear hlen
    go_enter Try.func26, Try.ntmps26
    go_wp2
    go_loopw [5] (fun i wr => ∃ k : Nat, k ≤ xs.length ∧ i = .int .i64 k ∧ Below w.heap.size w wr ∧ Hid (xs.take k = ys.take k)) (fun i wr => xs.length - (intOf i).toNat)
    case atStart => exact ⟨0, Nat.zero_le _, rfl, Below.refl _ _, rfl⟩
    case round =>
      obtain ⟨k, hk, rfl, hbl, HS⟩ := hrel
      by_cases hlt : k < xs.length
      · have hlt' : k < ys.length := by omega
        obtain ⟨b, off, rfl, hb, hat⟩ := hx.cases.resolve_left (fun e => by simp [e] at hlt)
        obtain ⟨b', off', rfl, hb', hat'⟩ := hy.cases.resolve_left (fun e => by simp [e] at hlt')
        obtain ⟨a1, cap1, c0, c1, hr1, _, _⟩ := bnd_at hat hbl hlt
        obtain ⟨a2, cap2, d0, d1, hr2, _, _⟩ := bnd_at hat' hbl hlt'
        have e0 : ∀ x : Later wr, x.w'.cell? ⟨b, off + k * 2, none⟩ = some (.int .i64 xs[k].v) := keepL c0
        have f0 : ∀ x : Later wr, x.w'.cell? ⟨b', off' + k * 2, none⟩ = some (.int .i64 ys[k].v) := keepL d0
        have e1 : ∀ x : Later wr, x.w'.cell? ⟨b, off + k * 2 + 1, none⟩ = some (.slice a1 xs[k].t.length cap1) := keepL c1
        have f1 : ∀ x : Later wr, x.w'.cell? ⟨b', off' + k * 2 + 1, none⟩ = some (.slice a2 ys[k].t.length cap2) := keepL d1
        by_cases hv : xs[k].v = ys[k].v
        · have tv : (xs[k].v != ys[k].v) = false := by simp [hv]
          have tv' : ((xs[k].v != ys[k].v) = true) = False := by simp [hv]
          by_cases he : xs[k].t = ys[k].t
          · have HT : Hid (xs.take (k + 1) = ys.take (k + 1)) := take_eq_snoc HS.out hlt hlt' ((Bnd.eq_iff _ _).2 ⟨hv, he⟩)
            have HD := mkHid (decide_eq_true he)
            have hcall : ∀ x : Later wr, Calls Try.prog 25 #[.slice a1 xs[k].t.length cap1, .slice a2 ys[k].t.length cap2] x.w' fun e w'' => e = .returned (.bool true) ∧ Below x.w'.heap.size x.w' w'' := fun x =>
              (refsame_any a1 cap1 a2 cap2 _ xs[k].t ys[k].t (hr1.below x.ok) (hr2.below x.ok)).mono fun e w' ⟨he, hb⟩ => ⟨by rw [he, HD.out], hb⟩
            clear he HS hv tv'
            go_wp2
            refine wp_region_calm (by kernel_rfl) (by kernel_rfl) ?_
            repeat (go_big_quiet_step (exact Calls.calm_of (hcall _)))
            refine wpQuiet_nil ?_
            rintro _ ⟨x, rfl⟩
            go_wp2
            go_round
            case rel => exact ⟨k + 1, by omega, by go_num, hbl.then x.ok, HT⟩
            case measure => simp [intOf]; omega
          · have HE : Hid (false = decide (xs = ys)) := by
              rw [Hid, decide_eq_false (bnd_ne hlt hlt' (fun e => he ((Bnd.eq_iff _ _).1 e).2))]
            have HD := mkHid (decide_eq_false he)
            have hcall : ∀ x : Later wr, Calls Try.prog 25 #[.slice a1 xs[k].t.length cap1, .slice a2 ys[k].t.length cap2] x.w' fun e w'' => e = .returned (.bool false) ∧ Below x.w'.heap.size x.w' w'' := fun x =>
              (refsame_any a1 cap1 a2 cap2 _ xs[k].t ys[k].t (hr1.below x.ok) (hr2.below x.ok)).mono fun e w' ⟨he, hb⟩ => ⟨by rw [he, HD.out], hb⟩
            clear he HS hv tv'
            go_wp2
            refine wp_region_calm (by kernel_rfl) (by kernel_rfl) ?_
            repeat (go_big_quiet_step (exact Calls.calm_of (hcall _)))
            refine wpQuiet_nil ?_
            rintro _ ⟨x, rfl⟩
            go_wp2
            go_ret
            exact ⟨ret_bool HE.out, hbl.then x.ok⟩
        · have HE : Hid (false = decide (xs = ys)) := by
            rw [Hid, decide_eq_false (bnd_ne hlt hlt' (fun e => hv ((Bnd.eq_iff _ _).1 e).1))]
          have tv : (xs[k].v != ys[k].v) = true := by simp [hv]
          clear HS hv
          go_wp2
          refine wp_region_calm (by kernel_rfl) (by kernel_rfl) ?_
          repeat (go_big_quiet_step (fail))
          refine wpQuiet_nil ?_
          rintro _ ⟨x, rfl⟩
          go_wp2
          go_ret
          exact ⟨ret_bool HE.out, hbl.then x.ok⟩
      · have HE : Hid (true = decide (xs = ys)) := by
          rw [Hid, decide_eq_true (take_all HS.out (by omega) (by omega))]
        clear HS
        go_wp2
        go_ret
        exact ⟨ret_bool HE.out, hbl⟩
  · have HE : Hid (false = decide (xs = ys)) := by
      rw [Hid, decide_eq_false]; intro e; rw [e] at hlen; exact hlen rfl
    have hne : ((xs.length : Int) != (ys.length : Int)) = true := by simp; omega
    clear hlen
    go_enter Try.func26, Try.ntmps26
    go_wp2
    go_ret
    exact ⟨ret_bool HE.out, Below.refl _ _⟩
end Go.Proofs.Ytfcebbfphjbkoaa
namespace Go.Proofs.Ytfcebbfphjbkoaa
open Go.RowKit

set_option maxHeartbeats 1600000 in
theorem refright2_any (a : Option Addr) (cap : Nat) (w : World) (xs : List Bnd) (hx : Row w a cap xs) :
    Calls Try.prog 19 #[.slice a xs.length cap] w fun e w' => e = .returned (.bool (rightS xs)) ∧ Below w.heap.size w w' := by
  have hm := hx.max
  have hm2 := hx.le
  go_enter Try.func19, Try.ntmps19
  go_wp2
  go_loopw [3] (fun i wr => ∃ (k : Nat), k ≤ xs.length ∧ i = .int .i64 k ∧ 0 ≤ mOf xs k ∧ mOf xs k ≤ 1000 ∧ Below w.heap.size w wr ∧ Hid (rightS xs = rightG (mOf xs k) (xs.drop k))) (fun i wr => xs.length - (intOf i).toNat)
  case atStart => exact ⟨0, Nat.zero_le _, rfl, by simp [mOf], by simp [mOf], Below.refl _ _, rfl⟩
  case round =>
    obtain ⟨k, hk, rfl, hd0, hd1, hbl, HS⟩ := hrel
    by_cases hlt : k < xs.length
    · obtain ⟨b, off, rfl, hb, hat⟩ := hx.cases.resolve_left (fun e => by simp [e] at hlt)
      obtain ⟨a1, cap1, c0, c1, hr1, hv1, hv2⟩ := bnd_at hat hbl hlt
      have e0 : ∀ x : Later wr, x.w'.cell? ⟨b, off + k * 2, none⟩ = some (.int .i64 xs[k].v) := keepL c0
      have e1 : ∀ x : Later wr, x.w'.cell? ⟨b, off + k * 2 + 1, none⟩ = some (.slice a1 xs[k].t.length cap1) := keepL c1
      have hown : ∀ x : Later wr, Calls Try.prog 51 #[.int .i64 xs[k].v, .slice a1 xs[k].t.length cap1] x.w' fun e w'' => e = .returned (.bool (ownR xs[k].v xs[k].t)) ∧ Below x.w'.heap.size x.w' w'' := fun x =>
        own2_any a1 cap1 _ _ xs[k].t (hr1.below x.ok)
      have hright : ∀ x : Later wr, Calls Try.prog 37 #[.slice a1 xs[k].t.length cap1] x.w' fun e w'' => e = .returned (.bool (rightB xs[k].t)) ∧ Below x.w'.heap.size x.w' w'' := fun x =>
        refright_any a1 cap1 _ xs[k].t (hr1.below x.ok)
      by_cases h1 : xs[k].v < 0
      · have HE : Hid (false = rightS xs) := (right_l1 hlt HS.out (.inl (by omega))).symm
        have t1 : decide (xs[k].v < 0) = true := by simp [h1]
        clear HS
        go_wp2
        refine wp_region_calm (by kernel_rfl) (by kernel_rfl) ?_
        repeat (go_big_quiet_step (fail))
        refine wpQuiet_nil ?_
        rintro _ ⟨x, rfl⟩
        go_wp2
        go_ret
        exact ⟨ret_bool HE.out, hbl.then x.ok⟩
      · have t1 : decide (xs[k].v < 0) = false := by simp; omega
        by_cases h2 : 999 < xs[k].v
        · have HE : Hid (false = rightS xs) := (right_l1 hlt HS.out (.inr (.inl (by omega)))).symm
          have t2 : decide (999 < xs[k].v) = true := by simp [h2]
          clear HS
          go_wp2
          refine wp_region_calm (by kernel_rfl) (by kernel_rfl) ?_
          repeat (go_big_quiet_step (fail))
          refine wpQuiet_nil ?_
          rintro _ ⟨x, rfl⟩
          go_wp2
          go_ret
          exact ⟨ret_bool HE.out, hbl.then x.ok⟩
        · have t2 : decide (999 < xs[k].v) = false := by simp; omega
          cases k with
          | zero =>
            simp only [Nat.zero_mul, Nat.add_zero] at e0 e1
            cases h3 : rightB xs[0].t with
            | false =>
              have HE : Hid (false = rightS xs) := (right_l1 hlt HS.out (.inr (.inr (.inl h3)))).symm
              have H3 := mkHid h3
              clear HS h3
              go_wp2
              refine wp_region_calm (by kernel_rfl) (by kernel_rfl) ?_
              repeat (go_big_quiet_step (exact Calls.calm_of ((hright _).mono fun e w' ⟨he, hb⟩ => ⟨by rw [he, H3.out], hb⟩)))
              refine wpQuiet_nil ?_
              rintro _ ⟨x, rfl⟩
              go_wp2
              go_ret
              exact ⟨ret_bool HE.out, hbl.then x.ok⟩
            | true =>
              cases h4 : ownB xs[0] with
              | true =>
                have HE : Hid (false = rightS xs) := (right_l1 hlt HS.out (.inr (.inr (.inr h4)))).symm
                have H3 := mkHid h3
                have H4 := mkHid ((ownR_own h3).trans h4)
                clear HS h3 h4
                go_wp2
                refine wp_region_calm (by kernel_rfl) (by kernel_rfl) ?_
                repeat (go_big_quiet_step (first | exact Calls.calm_of ((hright _).mono fun e w' ⟨he, hb⟩ => ⟨by rw [he, H3.out], hb⟩) | exact Calls.calm_of ((hown _).mono fun e w' ⟨he, hb⟩ => ⟨by rw [he, H4.out], hb⟩)))
                refine wpQuiet_nil ?_
                rintro _ ⟨x, rfl⟩
                go_wp2
                go_ret
                exact ⟨ret_bool HE.out, hbl.then x.ok⟩
              | false =>
                have HT := mkHid (right_l2 hlt HS.out (by first | exact hord | (simp [mOf]; omega)) (by omega) h3 h4)
                have HM := mOf_succ hlt
                have H3 := mkHid h3
                have H4 := mkHid ((ownR_own h3).trans h4)
                have HMv : 0 ≤ mOf xs (0 + 1) ∧ mOf xs (0 + 1) ≤ 1000 := by rw [HM]; omega
                clear HS h3 h4 HM
                go_wp2
                refine wp_region_calm (by kernel_rfl) (by kernel_rfl) ?_
                repeat (go_big_quiet_step (first | exact Calls.calm_of ((hright _).mono fun e w' ⟨he, hb⟩ => ⟨by rw [he, H3.out], hb⟩) | exact Calls.calm_of ((hown _).mono fun e w' ⟨he, hb⟩ => ⟨by rw [he, H4.out], hb⟩)))
                refine wpQuiet_nil ?_
                rintro _ ⟨x, rfl⟩
                go_wp2
                go_round
                case rel => exact ⟨0 + 1, by omega, by go_num, HMv.1, HMv.2, hbl.then x.ok, HT⟩
                case measure => simp [intOf]; omega
          | succ j =>
            have hj : j < xs.length := by omega
            obtain ⟨a2, cap2, d0, d1, hr2, _, _⟩ := bnd_at hat hbl hj
            have f0 : ∀ x : Later wr, x.w'.cell? ⟨b, off + j * 2, none⟩ = some (.int .i64 xs[j].v) := keepL d0
            have hM := mOf_succ hj
            have hs1 : IntKind.i64.wrap ((j : Int) + 1 - 1) = j := by rw [IntWalk.i64_in _ (by omega)]; omega
            have hs2 : ((j : Int) + 1 - 1).toNat = j := by omega
            by_cases h5 : xs[j].v < xs[j + 1].v
            · have hord : mOf xs (j + 1) ≤ xs[j + 1].v := by rw [hM]; omega
              have t5 : decide (xs[j + 1].v ≤ xs[j].v) = false := by simp; omega
              clear hM
              cases h3 : rightB xs[j + 1].t with
              | false =>
                have HE : Hid (false = rightS xs) := (right_l1 hlt HS.out (.inr (.inr (.inl h3)))).symm
                have H3 := mkHid h3
                clear HS h3
                go_wp2
                refine wp_region_calm (by kernel_rfl) (by kernel_rfl) ?_
                repeat (go_big_quiet_step (exact Calls.calm_of ((hright _).mono fun e w' ⟨he, hb⟩ => ⟨by rw [he, H3.out], hb⟩)))
                refine wpQuiet_nil ?_
                rintro _ ⟨x, rfl⟩
                go_wp2
                go_ret
                exact ⟨ret_bool HE.out, hbl.then x.ok⟩
              | true =>
                cases h4 : ownB xs[j + 1] with
                | true =>
                  have HE : Hid (false = rightS xs) := (right_l1 hlt HS.out (.inr (.inr (.inr h4)))).symm
                  have H3 := mkHid h3
                  have H4 := mkHid ((ownR_own h3).trans h4)
                  clear HS h3 h4
                  go_wp2
                  refine wp_region_calm (by kernel_rfl) (by kernel_rfl) ?_
                  repeat (go_big_quiet_step (first | exact Calls.calm_of ((hright _).mono fun e w' ⟨he, hb⟩ => ⟨by rw [he, H3.out], hb⟩) | exact Calls.calm_of ((hown _).mono fun e w' ⟨he, hb⟩ => ⟨by rw [he, H4.out], hb⟩)))
                  refine wpQuiet_nil ?_
                  rintro _ ⟨x, rfl⟩
                  go_wp2
                  go_ret
                  exact ⟨ret_bool HE.out, hbl.then x.ok⟩
                | false =>
                  have HT := mkHid (right_l2 hlt HS.out (by first | exact hord | (simp [mOf]; omega)) (by omega) h3 h4)
                  have HM := mOf_succ hlt
                  have H3 := mkHid h3
                  have H4 := mkHid ((ownR_own h3).trans h4)
                  have HMv : 0 ≤ mOf xs (j + 1 + 1) ∧ mOf xs (j + 1 + 1) ≤ 1000 := by rw [HM]; omega
                  clear HS h3 h4 HM
                  go_wp2
                  refine wp_region_calm (by kernel_rfl) (by kernel_rfl) ?_
                  repeat (go_big_quiet_step (first | exact Calls.calm_of ((hright _).mono fun e w' ⟨he, hb⟩ => ⟨by rw [he, H3.out], hb⟩) | exact Calls.calm_of ((hown _).mono fun e w' ⟨he, hb⟩ => ⟨by rw [he, H4.out], hb⟩)))
                  refine wpQuiet_nil ?_
                  rintro _ ⟨x, rfl⟩
                  go_wp2
                  go_round
                  case rel => exact ⟨j + 1 + 1, by omega, by go_num, HMv.1, HMv.2, hbl.then x.ok, HT⟩
                  case measure => simp [intOf]; omega
            · have HE : Hid (false = rightS xs) := (right_l1 hlt HS.out (.inl (by rw [hM]; omega))).symm
              have t5 : decide (xs[j + 1].v ≤ xs[j].v) = true := by simp; omega
              clear HS hM
              go_wp2
              refine wp_region_calm (by kernel_rfl) (by kernel_rfl) ?_
              repeat (go_big_quiet_step (fail))
              refine wpQuiet_nil ?_
              rintro _ ⟨x, rfl⟩
              go_wp2
              go_ret
              exact ⟨ret_bool HE.out, hbl.then x.ok⟩
    · have HE : Hid (true = rightS xs) := (right_l3 (by omega) HS.out).symm
      clear HS
      go_wp2
      go_ret
      exact ⟨ret_bool HE.out, hbl⟩
end Go.Proofs.Ytfcebbfphjbkoaa
namespace Go.Proofs.Ytfcebbfphjbkoaa
open Go.RowKit

def mayB (s : List Bnd) (t : List Cel) : Bool := decide (t.length ≤ 300) && fewB s && rightS s && rightB t

set_option maxHeartbeats 800000 in
theorem may2_any (a : Option Addr) (cap : Nat) (a' : Option Addr) (cap' : Nat) (w : World) (xs : List Bnd) (ys : List Cel) (hx : Row w a cap xs) (hy : Row w a' cap' ys) :
    Calls Try.prog 20 #[.slice a xs.length cap, .slice a' ys.length cap'] w fun e w' => e = .returned (.bool (mayB xs ys)) ∧ Below w.heap.size w w' := by
  by_cases h1 : ys.length ≤ 300
  · cases h2 : fewB xs with
    | false =>
      have HE : Hid (false = mayB xs ys) := by rw [Hid]; unfold mayB; simp [h2]
      have H2 := mkHid h2
      clear h2
      go_enter Try.func20, Try.ntmps20
      go_wp2_with (go_at_call 17; refine (few_any _ _ _ xs hx).mono ?_; rintro e w2 ⟨rfl, hb2⟩; rw [H2.out])
      go_ret
      exact ⟨ret_bool HE.out, hb2⟩
    | true =>
      cases h3 : rightS xs with
      | false =>
        have HE : Hid (false = mayB xs ys) := by rw [Hid]; unfold mayB; simp [h3]
        have H2 := mkHid h2
        have H3 := mkHid h3
        clear h2 h3
        go_enter Try.func20, Try.ntmps20
        go_wp2_with (first
          | (go_at_call 17; refine (few_any _ _ _ xs hx).mono ?_; rintro e w2 ⟨rfl, hb2⟩; rw [H2.out])
          | (go_at_call 19; refine (refright2_any _ _ _ xs (hx.below hb2)).mono ?_; rintro e w3 ⟨rfl, hb3⟩; rw [H3.out]))
        go_ret
        exact ⟨ret_bool HE.out, hb2.then hb3⟩
      | true =>
        have HE : Hid (rightB ys = mayB xs ys) := by rw [Hid]; unfold mayB; simp [h1, h2, h3]
        have H2 := mkHid h2
        have H3 := mkHid h3
        clear h2 h3
        go_enter Try.func20, Try.ntmps20
        go_wp2_with (first
          | (go_at_call 17; refine (few_any _ _ _ xs hx).mono ?_; rintro e w2 ⟨rfl, hb2⟩; rw [H2.out])
          | (go_at_call 19; refine (refright2_any _ _ _ xs (hx.below hb2)).mono ?_; rintro e w3 ⟨rfl, hb3⟩; rw [H3.out])
          | (go_at_call 37; refine (refright_any _ _ _ ys ((hy.below hb2).below hb3)).mono ?_; rintro e w4 ⟨rfl, hb4⟩))
        go_ret
        exact ⟨ret_bool HE.out, (hb2.then hb3).then hb4⟩
  · have HE : Hid (false = mayB xs ys) := by rw [Hid]; unfold mayB; simp [h1]
    go_enter Try.func20, Try.ntmps20
    go_wp2_with fail
    go_ret
    exact ⟨ret_bool HE.out, Below.refl _ _⟩

/-- of one term: no variable of it is bound -/
def freeB (s : List Bnd) (t : List Cel) : Bool := t.all fun c => !(c.k == 1 && (look s c.n).isSome)
theorem idem_eq (s : List Bnd) : idemB s = s.all fun b => freeB s b.t := rfl
theorem place_nonneg {s : List Bnd} {n : Int} : (0 ≤ placeB s n) ↔ (look s n).isSome = true := by
  rcases place_look s n with ⟨h1, h2, _⟩ | ⟨i, h, h1, _, h2⟩
  · rw [h1, h2]; simp
  · rw [h1, h2]; simp

set_option maxHeartbeats 1600000 in
theorem refidem_any (a : Option Addr) (cap : Nat) (w : World) (xs : List Bnd) (hx : Row w a cap xs) :
    Calls Try.prog 30 #[.slice a xs.length cap] w fun e w' => e = .returned (.bool (idemB xs)) ∧ Below w.heap.size w w' := by
  have hm := hx.max
  have hm2 := hx.le
  go_enter Try.func30, Try.ntmps30
  go_wp2
  go_loopw [3, 4] (fun i j wr => ∃ k : Nat, k ≤ xs.length ∧ i = .int .i64 k ∧ Below w.heap.size w wr ∧ Hid ((xs.take k).all (fun b => freeB xs b.t) = true)) (fun i j wr => xs.length - (intOf i).toNat)
  case atStart => exact ⟨0, Nat.zero_le _, rfl, Below.refl _ _, by simp [Hid]⟩
  case round =>
    obtain ⟨k, hk, rfl, hbl, HS⟩ := hrel
    obtain ⟨wo, rfl⟩ : ∃ wo : World, wo = wr := ⟨_, rfl⟩
    by_cases hlt : k < xs.length
    · obtain ⟨b, off, rfl, hb, hat⟩ := hx.cases.resolve_left (fun e => by simp [e] at hlt)
      go_wp2
      go_loopw [4] (fun j wr => ∃ m : Nat, m ≤ xs[k].t.length ∧ j = .int .i64 m ∧ Below w.heap.size w wr ∧ Hid ((xs[k].t.take m).all (fun c => !(c.k == 1 && (look xs c.n).isSome)) = true)) (fun j wr => xs[k].t.length - (intOf j).toNat)
      case atStart => exact ⟨0, Nat.zero_le _, rfl, hbl, by simp [Hid]⟩
      case round =>
        obtain ⟨m, hm', rfl, hbr, HC⟩ := hrel
        obtain ⟨a1, cap1, c0, c1, hr1, _, _⟩ := bnd_at hat hbr hlt
        have hle1 := hr1.le
        have hmax1 := hr1.max
        by_cases hlm : m < xs[k].t.length
        · obtain ⟨b2, off2, rfl, hb2, hat2⟩ := hr1.cases.resolve_left (fun e => by rw [e] at hlm; simp at hlm)
          obtain ⟨d0, d1, d2, hf⟩ := cel_at hat2 (Below.refl _ _) hlm
          have hba := hbr.new (.cells #[.int .i64 xs[k].t[m].k, .string xs[k].t[m].s, .int .i64 xs[k].t[m].n] 24)
          by_cases h1 : xs[k].t[m].k = 1
          · have t1 : (xs[k].t[m].k == 1) = true := by simp [h1]
            by_cases hp : 0 ≤ placeB xs xs[k].t[m].n
            · have HP := mkHid hp
              have HE : Hid (false = idemB xs) := by
                rw [Hid, idem_eq]; symm
                refine scan_bad hlt ?_
                exact scan_bad hlm (by simp [t1, place_nonneg.1 hp])
              clear h1 HS HC
              go_wp2_with (go_at_call 36; refine (place2_any _ cap _ _ xs (hx.below hba)).mono ?_; rintro e w2 ⟨rfl, hb2⟩)
              go_ret
              exact ⟨ret_bool HE.out, hba.then hb2⟩
            · have HP := mkHid hp
              have hns : (look xs xs[k].t[m].n).isSome = false := by
                cases hh : (look xs xs[k].t[m].n).isSome with
                | false => rfl
                | true => exact absurd (place_nonneg.2 hh) hp
              have HT := mkHid (scan_next HC.out hlm (by show (!(xs[k].t[m].k == 1 && (look xs xs[k].t[m].n).isSome)) = true; rw [t1, hns]; rfl))
              clear h1 HC hns
              go_wp2_with (go_at_call 36; refine (place2_any _ cap _ _ xs (hx.below hba)).mono ?_; rintro e w2 ⟨rfl, hb2⟩)
              go_round
              case rel => exact ⟨m + 1, by omega, by go_num, hba.then hb2, HT⟩
              case measure => simp [intOf]; omega
          · have t1 : (xs[k].t[m].k == 1) = false := by simp [h1]
            have HT := mkHid (scan_next HC.out hlm (by rw [t1]; simp))
            clear h1 HC
            go_wp2
            go_round
            case rel => exact ⟨m + 1, by omega, by go_num, hba, HT⟩
            case measure => simp [intOf]; omega
        · have HT := mkHid (scan_next (p := fun b => freeB xs b.t) HS.out hlt (scan_end HC.out (by omega)))
          clear HS HC
          go_wp2
          go_round
          case rel => exact ⟨k + 1, by omega, by go_num, hbr, HT⟩
          case measure => simp [intOf]; omega
    · have HE : Hid (true = idemB xs) := by rw [Hid, idem_eq, scan_end HS.out (by omega)]
      clear HS
      go_wp2
      go_ret
      exact ⟨ret_bool HE.out, hbl⟩
end Go.Proofs.Ytfcebbfphjbkoaa
namespace Go.Proofs.Ytfcebbfphjbkoaa
open Go.RowKit

def putC (f : Int → Option (List Cel)) (c : Cel) : List Cel := if c.k = 1 then (f c.n).getD [c] else [c]
def putL (f : Int → Option (List Cel)) (t : List Cel) : List Cel := t.flatMap (putC f)
theorem putL_snoc (f : Int → Option (List Cel)) (t : List Cel) (k : Nat) (hk : k < t.length) : putL f (t.take (k + 1)) = putL f (t.take k) ++ putC f t[k] := by
  unfold putL; rw [List.take_succ_eq_append_getElem hk, List.flatMap_append]; simp
theorem putL_append (f : Int → Option (List Cel)) (t u : List Cel) : putL f (t ++ u) = putL f t ++ putL f u := by
  unfold putL; rw [List.flatMap_append]
theorem look_mem {s : List Bnd} {n : Int} {t : List Cel} (h : look s n = some t) : ∃ b ∈ s, b.v = n ∧ b.t = t := by
  unfold look at h
  cases hf : s.find? (fun b => decide (b.v = n)) with
  | none => rw [hf] at h; simp at h
  | some b =>
    rw [hf] at h
    simp at h
    exact ⟨b, List.mem_of_find?_eq_some hf, by simpa using List.find?_some hf, h⟩
theorem putC_le {s : List Bnd} (h : ∀ b ∈ s, b.t.length ≤ 1000) (c : Cel) : (putC (look s) c).length ≤ 1000 := by
  unfold putC
  split
  · cases hl : look s c.n with
    | none => simp
    | some t =>
      obtain ⟨b, hb, _, rfl⟩ := look_mem hl
      simpa using h b hb
  · simp
theorem putL_le {s : List Bnd} (h : ∀ b ∈ s, b.t.length ≤ 1000) (t : List Cel) : (putL (look s) t).length ≤ 1000 * t.length := by
  induction t with
  | nil => simp [putL]
  | cons c t ih =>
    have := putC_le h c
    unfold putL at ih ⊢
    simp only [List.flatMap_cons, List.length_append, List.length_cons]; omega

set_option maxHeartbeats 1600000 in
theorem refput_any (a : Option Addr) (cap : Nat) (a' : Option Addr) (cap' : Nat) (w : World) (xs : List Bnd) (ys : List Cel) (hx : Row w a cap xs) (hy : Row w a' cap' ys) (hT : ∀ b ∈ xs, b.t.length ≤ 1000) (hl : ys.length ≤ 10000) :
    Calls Try.prog 54 #[.slice a xs.length cap, .slice a' ys.length cap'] w fun e w' => ∃ a2 cap2, e = .returned (.slice a2 (putL (look xs) ys).length cap2) ∧ NewRow w.heap.size w' a2 cap2 (putL (look xs) ys) ∧ Below w.heap.size w w' := by
  have hm := hy.max
  have hm2 := hy.le
  have hm0 := World.ownsRow_made (base := w.heap.size) (e := 24) (size := 3) w #[] 0 (Nat.le_refl _) (by unfold maxLen; omega) rfl
  have hb0 := (Below.refl w.heap.size w).new (.cells #[] 24)
  have HT := mkHid hT
  clear hT
  go_enter Try.func54, Try.ntmps54
  go_wp2_with fail
  go_loopw [5, 6, 7] (fun v i at_ wr => ∃ k : Nat, k ≤ ys.length ∧ i = .int .i64 k ∧ wr.ownsRow w.heap.size 24 3 v (putL (look xs) (ys.take k)).length (flat (putL (look xs) (ys.take k))) ∧ (∀ c ∈ putL (look xs) (ys.take k), c.fit) ∧ Below w.heap.size w wr) (fun v i at_ wr => ys.length - (intOf i).toNat)
  case atStart => exact ⟨0, Nat.zero_le _, rfl, by simpa [putL, flat] using hm0, by simp [putL], hb0⟩
  case round =>
    obtain ⟨k, hk, rfl, hown, hfit, hbl⟩ := hrel
    have HF := mkHid hfit
    clear hfit
    by_cases hlt : k < ys.length
    · obtain ⟨b, off, rfl, hb, hat⟩ := hy.cases.resolve_left (fun e => by simp [e] at hlt)
      obtain ⟨c0, c1, c2, hf⟩ := cel_at hat hbl hlt
      have HS := mkHid (putL_snoc (look xs) ys k hlt)
      have hle := putL_le HT.out (ys.take k)
      have hlk : (ys.take k).length ≤ k := List.length_take_le _ _
      by_cases h1 : ys[k].k = 1
      · have t1 : (ys[k].k == 1) = true := by simp [h1]
        rcases place_look xs ys[k].n with ⟨hp, hlk2, _⟩ | ⟨i, hi, hp, _, hlk2⟩
        · have HP := mkHid hp
          have HC : Hid (putC (look xs) ys[k] = [ys[k]]) := by rw [Hid]; unfold putC; rw [if_pos h1, hlk2]; rfl
          clear h1 hp hlk2
          go_wp2_with (first
            | (go_at_call 36; refine (place2_any _ cap _ _ xs (hx.below hbl)).mono ?_; rintro e w2 ⟨rfl, hb2⟩; rw [HP.out]; have d0 := keep c0 hb2; have d1 := keep c1 hb2; have d2 := keep c2 hb2; have hown1 := own_below hown hb2; have hbl1 := hbl.then hb2; clear c0 c1 c2)
            | (at_builtin; refine wpList_app rfl _ _ 22 rfl w.heap.size 24 3 32 _ Try.underlying22 Try.infoCell rfl (by decide) (by decide) _ (putL (look xs) (ys.take k)).length _ rfl (hown1.alloc _) (some ⟨_, 0, none⟩) 1 1 [.int .i64 ys[k].k, .string ys[k].s, .int .i64 ys[k].n] rfl (src_new _ #[.int .i64 ys[k].k, .string ys[k].s, .int .i64 ys[k].n] _ 3 rfl (by simp [Value.oneCell'])) (by omega) (Nat.le_trans hbl1.size (by simp)) ?_; intro v' w3 hown3 _ hb3))
          go_round
          case rel => exact ⟨k + 1, by omega, by go_num, by rw [HS.out, HC.out, flat_append, List.length_append]; exact hown3, by rw [HS.out, HC.out]; intro c hc; rcases List.mem_append.1 hc with hc | hc; exact HF.out c hc; (simp at hc; subst hc; exact hf), (hbl1.new _).trans hb3⟩
          case measure => simp [intOf]; omega
        · have HP := mkHid hp
          have HC : Hid (putC (look xs) ys[k] = xs[i].t) := by rw [Hid]; unfold putC; rw [if_pos h1, hlk2]; rfl
          obtain ⟨b', off', rfl, hb', hat'⟩ := hx.cases.resolve_left (fun e => by simp [e] at hi)
          have hTi := HT.out xs[i] (List.getElem_mem hi)
          clear h1 hp hlk2
          go_wp2_with (first
            | (go_at_call 36; refine (place2_any _ cap _ _ xs (hx.below hbl)).mono ?_; rintro e w2 ⟨rfl, hb2⟩; rw [HP.out]; obtain ⟨a1, cap1, d0, d1, hr1, _, _⟩ := bnd_at hat' (hbl.then hb2) hi; have hown1 := own_below hown hb2; have hbl1 := hbl.then hb2; clear c0 c1 c2)
            | (at_builtin; refine wpList_app rfl _ _ 22 rfl w.heap.size 24 3 32 _ Try.underlying22 Try.infoCell rfl (by decide) (by decide) _ (putL (look xs) (ys.take k)).length _ rfl hown1 a1 xs[i].t.length cap1 (flat xs[i].t) rfl hr1.src (by omega) hbl1.size ?_; intro v' w3 hown3 _ hb3))
          go_round
          case rel => exact ⟨k + 1, by omega, by go_num, by rw [HS.out, HC.out, flat_append, List.length_append]; exact hown3, by rw [HS.out, HC.out]; intro c hc; rcases List.mem_append.1 hc with hc | hc; exact HF.out c hc; exact hr1.fit c hc, hbl1.trans hb3⟩
          case measure => simp [intOf]; omega
      · have t1 : (ys[k].k == 1) = false := by simp [h1]
        have HC : Hid (putC (look xs) ys[k] = [ys[k]]) := by rw [Hid]; unfold putC; rw [if_neg h1]
        clear h1
        go_wp2_with (at_builtin; refine wpList_app rfl _ _ 22 rfl w.heap.size 24 3 32 _ Try.underlying22 Try.infoCell rfl (by decide) (by decide) _ (putL (look xs) (ys.take k)).length _ rfl (hown.alloc _) (some ⟨_, 0, none⟩) 1 1 [.int .i64 ys[k].k, .string ys[k].s, .int .i64 ys[k].n] rfl (src_new _ #[.int .i64 ys[k].k, .string ys[k].s, .int .i64 ys[k].n] _ 3 rfl (by simp [Value.oneCell'])) (by omega) (Nat.le_trans hbl.size (by simp)) ?_; intro v' w3 hown3 _ hb3)
        go_round
        case rel => exact ⟨k + 1, by omega, by go_num, by rw [HS.out, HC.out, flat_append, List.length_append]; exact hown3, by rw [HS.out, HC.out]; intro c hc; rcases List.mem_append.1 hc with hc | hc; exact HF.out c hc; (simp at hc; subst hc; exact hf), (hbl.new _).trans hb3⟩
        case measure => simp [intOf]; omega
    · have HL : Hid (ys.take k = ys) := List.take_of_length_le (by omega)
      obtain ⟨a2, cap2, rfl, hrow⟩ := own_new hown HF.out
      rw [HL.out] at hrow ⊢
      clear hown HF
      go_wp2
      go_ret
      exact ⟨a2, cap2, rfl, hrow, hbl⟩
end Go.Proofs.Ytfcebbfphjbkoaa
namespace Go.Proofs.Ytfcebbfphjbkoaa
open Go.RowKit

def apB (s : List Bnd) (t : List Cel) : Bool := decide (((putL (look s) t).length : Int) ≤ 200)
def apL (s : List Bnd) (t : List Cel) : List Cel := if apB s t then putL (look s) t else []
theorem apL_yes {s : List Bnd} {t : List Cel} (h : apB s t = true) : apL s t = putL (look s) t := by unfold apL; rw [if_pos h]
theorem apL_no {s : List Bnd} {t : List Cel} (h : apB s t = false) : apL s t = [] := by unfold apL; rw [if_neg (by simp [h])]

set_option maxHeartbeats 800000 in
theorem refapply_any (a : Option Addr) (cap : Nat) (a' : Option Addr) (cap' : Nat) (w : World) (xs : List Bnd) (ys : List Cel) (hx : Row w a cap xs) (hy : Row w a' cap' ys) (hT : ∀ b ∈ xs, b.t.length ≤ 1000) (hl : ys.length ≤ 10000) :
    Calls Try.prog 22 #[.slice a xs.length cap, .slice a' ys.length cap'] w fun e w' => ∃ a2 cap2, e = .returned (.tuple #[.slice a2 (apL xs ys).length cap2, .bool (apB xs ys)]) ∧ NewRow w.heap.size w' a2 cap2 (apL xs ys) ∧ Below w.heap.size w w' := by
  have HT := mkHid hT
  clear hT
  cases h : apB xs ys with
  | true =>
    have H1 := mkHid (apL_yes h)
    have h2 : ((putL (look xs) ys).length : Int) ≤ 200 := by simpa [apB] using h
    clear h
    rw [H1.out]
    go_enter Try.func22, Try.ntmps22
    go_wp2_with (go_at_call 54; refine (refput_any _ cap _ cap' _ xs ys hx hy HT.out hl).mono ?_; rintro e w2 ⟨a2, cap2, rfl, hr2, hb2⟩)
    go_ret2
    exact ⟨_, _, rfl, hr2, hb2⟩
  | false =>
    have H1 := mkHid (apL_no h)
    have h2 : 200 < ((putL (look xs) ys).length : Int) := by simpa [apB] using h
    clear h
    rw [H1.out]
    go_enter Try.func22, Try.ntmps22
    go_wp2_with (go_at_call 54; refine (refput_any _ cap _ cap' _ xs ys hx hy HT.out hl).mono ?_; rintro e w2 ⟨a2, cap2, rfl, hr2, hb2⟩)
    go_ret2
    exact ⟨_, _, rfl, NewRow.empty _ _ _ _ (by omega) (fun _ => rfl), hb2⟩
end Go.Proofs.Ytfcebbfphjbkoaa
namespace Go.Proofs.Ytfcebbfphjbkoaa
open Go.RowKit

theorem Try.infoBind : (Try.prog.info? 46).map (fun i => (i.zero, i.size, i.bytes)) = some (some (.agg #[.int .i64 0, .slice none 0 0]), 2, 32) := by kernel_rfl

def compAt (a b : List Bnd) (v : Int) : Option (List Cel) := match look a v with
  | some t => some (putL (look b) t)
  | none => look b v
def compOut (a b : List Bnd) (v : Int) : List Bnd := match compAt a b v with
  | some t => if ownR v t then [] else [⟨v, t⟩]
  | none => []
def compUp (a b : List Bnd) (k : Nat) : List Bnd := (List.range k).flatMap fun (v : Nat) => compOut a b (v : Int)
def fitAt (a b : List Bnd) (v : Int) : Bool := match look a v with
  | some t => apB b t
  | none => true
def compB (a b : List Bnd) : Bool := (List.range 1000).all fun (v : Nat) => fitAt a b (v : Int)
def compL (a b : List Bnd) : List Bnd := if compB a b then compUp a b 1000 else []
theorem compUp_succ (a b : List Bnd) (k : Nat) : compUp a b (k + 1) = compUp a b k ++ compOut a b (k : Int) := by
  unfold compUp; rw [List.range_succ, List.flatMap_append]; simp
theorem compUp_le (a b : List Bnd) (k : Nat) : (compUp a b k).length ≤ k := by
  induction k with
  | zero => simp [compUp]
  | succ k ih =>
    rw [compUp_succ, List.length_append]
    have : (compOut a b (k : Int)).length ≤ 1 := by
      unfold compOut
      split
      · split <;> simp
      · simp
    omega
theorem fit_next {a b : List Bnd} {k : Nat} (h : (List.range k).all (fun (v : Nat) => fitAt a b (v : Int)) = true) (hk : fitAt a b (k : Int) = true) : (List.range (k + 1)).all (fun (v : Nat) => fitAt a b (v : Int)) = true := by
  rw [List.range_succ, List.all_append, h]; simp [hk]
theorem fit_bad {a b : List Bnd} {k : Nat} (hk : k < 1000) (h : fitAt a b (k : Int) = false) : compB a b = false := by
  unfold compB; rw [List.all_eq_false]; exact ⟨k, List.mem_range.2 hk, by simp [h]⟩

theorem comp_stay {a b : List Bnd} {k : Nat} (h : compOut a b (k : Int) = []) : compUp a b (k + 1) = compUp a b k := by rw [compUp_succ, h, List.append_nil]

structure CompInv (w : World) (xs ys : List Bnd) (k : Nat) (v : Value) (wr : World) : Prop where
  ex : ∃ vs, wr.ownsRow w.heap.size 46 2 v (compUp xs ys k).length vs ∧ CRows (hide v.ownBlock wr) vs (compUp xs ys k)
  fit : (List.range k).all (fun (v : Nat) => fitAt xs ys (v : Int)) = true
theorem CompInv.below {w : World} {xs ys : List Bnd} {k : Nat} {v : Value} {wr w2 : World} (h : CompInv w xs ys k v wr) (hb : Below wr.heap.size wr w2) : CompInv w xs ys k v w2 :=
  let ⟨vs, ho, hc⟩ := h.ex
  ⟨⟨vs, own_below ho hb, hc.keeps (below_hide hb _)⟩, h.fit⟩
theorem CompInv.lt {w : World} {xs ys : List Bnd} {k : Nat} {v : Value} {wr : World} (h : CompInv w xs ys k v wr) : ∀ g, v.ownBlock = some g → g < wr.heap.size :=
  let ⟨_, ho, _⟩ := h.ex; fun g hg => (ho.lt g hg).2
theorem CompInv.stay {w : World} {xs ys : List Bnd} {k : Nat} {v : Value} {wr : World} (h : CompInv w xs ys k v wr) (he : compOut xs ys (k : Int) = []) (hf : fitAt xs ys (k : Int) = true) : CompInv w xs ys (k + 1) v wr :=
  let ⟨vs, ho, hc⟩ := h.ex
  ⟨⟨vs, by rw [comp_stay he]; exact ho, by rw [comp_stay he]; exact hc⟩, fit_next h.fit hf⟩

set_option maxRecDepth 100000 in
set_option maxHeartbeats 3200000 in
theorem refcompose_any (a : Option Addr) (cap : Nat) (a' : Option Addr) (cap' : Nat) (w : World) (xs ys : List Bnd) (hx : Row w a cap xs) (hy : Row w a' cap' ys) (hT : ∀ b ∈ xs, b.t.length ≤ 1000) (hT2 : ∀ b ∈ ys, b.t.length ≤ 1000) :
    Calls Try.prog 24 #[.slice a xs.length cap, .slice a' ys.length cap'] w fun e w' => ∃ a2 cap2, e = .returned (.tuple #[.slice a2 (compL xs ys).length cap2, .bool (compB xs ys)]) ∧ Row w' a2 cap2 (compL xs ys) ∧ Below w.heap.size w w' := by
  have hm0 := World.ownsRow_made (base := w.heap.size) (e := 46) (size := 2) w #[] 0 (Nat.le_refl _) (by unfold maxLen; omega) rfl
  have hb0 := (Below.refl w.heap.size w).new (.cells #[] 46)
  have HT := mkHid hT
  have HT2 := mkHid hT2
  clear hT hT2
  go_enter Try.func24, Try.ntmps24
  go_wp2_with fail
  go_loopw [6, 7, 8, 9, 10, 11, 12] (fun v i _ _ _ _ _ wr => ∃ k : Nat, k ≤ 1000 ∧ i = .int .i64 k ∧ CompInv w xs ys k v wr ∧ Below w.heap.size w wr) (fun v i _ _ _ _ _ wr => 1000 - (intOf i).toNat)
  case atStart => exact ⟨0, Nat.zero_le _, rfl, ⟨⟨[], by simpa [compUp] using hm0, .nil⟩, by simp⟩, hb0⟩
  case round =>
    obtain ⟨k, hk, rfl, HI, hbl⟩ := hrel
    by_cases hlt : k < 1000
    · have hul := compUp_le xs ys k
      have hkr : Hid (-9223372036854775808 ≤ (k : Int) ∧ (k : Int) ≤ 9223372036854775807) := ⟨by omega, by omega⟩
      rcases place_look xs (k : Int) with ⟨hp, hlx, _⟩ | ⟨i, hi, hp, _, hlx⟩
      · rcases place_look ys (k : Int) with ⟨hq, hly, _⟩ | ⟨j, hj, hq, _, hly⟩
        · have HP := mkHid hp
          have HQ := mkHid hq
          have HF : Hid (fitAt xs ys (k : Int) = true) := by rw [Hid]; unfold fitAt; rw [hlx]
          have HO : Hid (compOut xs ys (k : Int) = []) := by rw [Hid]; unfold compOut compAt; rw [hlx]; simp only [hly]
          clear hp hq hlx hly
          go_wp2_with (first
            | (go_at_call 36; (with_reducible refine (place2_any _ cap _ _ xs (hx.below hbl)).mono ?_); rintro e w2 ⟨rfl, hb2⟩; rw [HP.out])
            | (go_at_call 36; (with_reducible refine (place2_any _ cap' _ _ ys ((hy.below hbl).below hb2)).mono ?_); rintro e w3 ⟨rfl, hb3⟩; rw [HQ.out]))
          go_round
          case rel => exact ⟨k + 1, by omega, by go_num, ((HI.below hb2).below hb3).stay HO.out HF.out, (hbl.then hb2).then hb3⟩
          case measure => simp [intOf]; omega
        · obtain ⟨b, off, rfl, hb, hat⟩ := hy.cases.resolve_left (fun e => by simp [e] at hj)
          obtain ⟨a1, cap1, _, z1, hr0, _, _⟩ := bnd_at hat (Below.refl _ _) hj
          have Z1 := mkHid z1
          clear z1
          have hca : compAt xs ys (k : Int) = some ys[j].t := by unfold compAt; rw [hlx]; exact hly
          have HF : Hid (fitAt xs ys (k : Int) = true) := by rw [Hid]; unfold fitAt; rw [hlx]
          have HP := mkHid hp
          have HQ := mkHid hq
          cases hw : ownR (k : Int) ys[j].t with
          | true =>
            have HW := mkHid hw
            have HO : Hid (compOut xs ys (k : Int) = []) := by rw [Hid]; unfold compOut; rw [hca]; simp only [hw, if_true]
            clear hp hlx hq hly hca hw
            go_wp2_with (first
              | (go_at_call 36; (with_reducible refine (place2_any _ cap _ _ xs (hx.below hbl)).mono ?_); rintro e w2 ⟨rfl, hb2⟩; rw [HP.out])
              | (go_at_call 36; (with_reducible refine (place2_any _ cap' _ _ ys ((hy.below hbl).below hb2)).mono ?_); rintro e w3 ⟨rfl, hb3⟩; rw [HQ.out]; have hb3' := hb3.new (.cells #[] 24); have c1 := keep Z1.out ((hbl.then hb2).then hb3); have hr3 := hr0.below ((hbl.then hb2).then hb3); have c1' := keep c1 ((Below.refl _ _).new (.cells #[] 24)))
              | (go_at_call 51; refine (own2_any _ _ _ _ _ (hr3.below ((Below.refl _ _).new _))).mono ?_; rintro e w5 ⟨rfl, hb5⟩; rw [HW.out]))
            go_round
            case rel => exact ⟨k + 1, by omega, by go_num, (((HI.below hb2).below hb3').below hb5).stay HO.out HF.out, ((hbl.then hb2).then hb3').then hb5⟩
            case measure => simp [intOf]; omega
          | false =>
            have HW := mkHid hw
            have HO : Hid (compOut xs ys (k : Int) = [⟨k, ys[j].t⟩]) := by rw [Hid]; unfold compOut; rw [hca]; simp only [hw]; rfl
            clear hp hlx hq hly hca hw
            go_wp2_with (first
              | (go_at_call 36; (with_reducible refine (place2_any _ cap _ _ xs (hx.below hbl)).mono ?_); rintro e w2 ⟨rfl, hb2⟩; rw [HP.out])
              | (go_at_call 36; (with_reducible refine (place2_any _ cap' _ _ ys ((hy.below hbl).below hb2)).mono ?_); rintro e w3 ⟨rfl, hb3⟩; rw [HQ.out]; have hb3' := hb3.new (.cells #[] 24); have c1 := keep Z1.out ((hbl.then hb2).then hb3); have hr3 := hr0.below ((hbl.then hb2).then hb3); have c1' := keep c1 ((Below.refl _ _).new (.cells #[] 24)))
              | (go_at_call 51; refine (own2_any _ _ _ _ _ (hr3.below ((Below.refl _ _).new _))).mono ?_; rintro e w5 ⟨rfl, hb5⟩; rw [HW.out]; have HI5 := ((HI.below hb2).below hb3').below hb5; have hbl5 := ((hbl.then hb2).then hb3').then hb5; obtain ⟨vs, hown5, hc5⟩ := HI5.ex)
              | (at_builtin; refine wpList_app2 rfl _ _ 28 rfl w.heap.size 46 2 32 _ Try.underlying28 Try.infoBind rfl (by decide) (by decide) _ (compUp xs ys k).length _ rfl (hown5.alloc _) ⟨_, 0, none⟩ 1 1 [.int .i64 k, .slice a1 ys[j].t.length cap1] rfl (src_new _ #[.int .i64 k, .slice a1 ys[j].t.length cap1] _ 2 rfl (by simp [Value.oneCell'])) (by omega) (Nat.le_trans hbl5.size (by simp)) ?_; intro v' w6 hown6 _ hb6 hk6))
            go_round
            case rel =>
              refine ⟨k + 1, by omega, by go_num, ⟨⟨_, by rw [compUp_succ, HO.out, List.length_append]; exact hown6, ?_⟩, fit_next HI5.fit HF.out⟩, (hbl5.new _).trans hb6⟩
              rw [compUp_succ, HO.out]
              refine ((hc5.keeps (alloc_hide _ _ _)).keeps hk6).append (CRows.single ⟨⟨a1, cap1, rfl, ?_⟩, hkr.out.1, hkr.out.2⟩)
              exact ((hr0.keeps (fresh_own hbl5 hown5)).keeps (alloc_hide _ _ _)).keeps hk6
            case measure => simp [intOf]; omega
      · have hTi : xs[i].t.length ≤ 10000 := Nat.le_trans (HT.out _ (List.getElem_mem hi)) (by omega)
        obtain ⟨b, off, rfl, hb, hat⟩ := hx.cases.resolve_left (fun e => by simp [e] at hi)
        cases ha : apB ys xs[i].t with
        | false =>
          have HP := mkHid hp
          have HA := mkHid ha
          have hcB : compB xs ys = false := fit_bad hlt (by unfold fitAt; rw [hlx]; exact ha)
          have HE : Hid (compB xs ys = false) := hcB
          have HE2 : Hid (compL xs ys = []) := by rw [Hid]; unfold compL; rw [if_neg (by simp [hcB])]
          clear hp hlx ha hcB
          go_wp2_with (first
            | (go_at_call 36; (with_reducible refine (place2_any _ cap _ _ xs (hx.below hbl)).mono ?_); rintro e w2 ⟨rfl, hb2⟩; rw [HP.out])
            | (go_at_call 36; (with_reducible refine (place2_any _ cap' _ _ ys ((hy.below hbl).below hb2)).mono ?_); rintro e w3 ⟨rfl, hb3⟩; have hb3' := hb3.new (.cells #[] 24); obtain ⟨a1, cap1, c0, c1, hr3, _, _⟩ := bnd_at hat ((hbl.then hb2).then hb3) hi; have c1' := keep c1 ((Below.refl _ _).new (.cells #[] 24)))
            | (go_at_call 22; refine (refapply_any _ cap' _ cap1 _ ys xs[i].t ((((hy.below hbl).below hb2).below hb3).below ((Below.refl _ _).new _)) (hr3.below ((Below.refl _ _).new _)) HT2.out hTi).mono ?_; rintro e w4 ⟨a4, cap4, rfl, hr4, hb4⟩; rw [HA.out]))
          go_ret2
          refine ⟨none, 0, ?_, ?_, ((hbl.then hb2).then hb3').then hb4⟩
          · rw [HE.out, HE2.out]; rfl
          · rw [HE2.out]; exact Row.empty _ _ _ (by omega) (fun _ => rfl)
        | true =>
          have HP := mkHid hp
          have HA := mkHid ha
          have hL := apL_yes ha
          have HF : Hid (fitAt xs ys (k : Int) = true) := by rw [Hid]; unfold fitAt; rw [hlx]; exact ha
          have hca : compAt xs ys (k : Int) = some (apL ys xs[i].t) := by unfold compAt; rw [hlx, hL]
          cases hw : ownR (k : Int) (apL ys xs[i].t) with
          | true =>
            have HW := mkHid hw
            have HO : Hid (compOut xs ys (k : Int) = []) := by rw [Hid]; unfold compOut; rw [hca]; simp only [hw, if_true]
            clear hp hlx ha hL hca hw
            go_wp2_with (first
              | (go_at_call 36; (with_reducible refine (place2_any _ cap _ _ xs (hx.below hbl)).mono ?_); rintro e w2 ⟨rfl, hb2⟩; rw [HP.out])
              | (go_at_call 36; (with_reducible refine (place2_any _ cap' _ _ ys ((hy.below hbl).below hb2)).mono ?_); rintro e w3 ⟨rfl, hb3⟩; have hb3' := hb3.new (.cells #[] 24); obtain ⟨a1, cap1, c0, c1, hr3, _, _⟩ := bnd_at hat ((hbl.then hb2).then hb3) hi; have c1' := keep c1 ((Below.refl _ _).new (.cells #[] 24)))
              | (go_at_call 22; refine (refapply_any _ cap' _ cap1 _ ys xs[i].t ((((hy.below hbl).below hb2).below hb3).below ((Below.refl _ _).new _)) (hr3.below ((Below.refl _ _).new _)) HT2.out hTi).mono ?_; rintro e w4 ⟨a4, cap4, rfl, hr4, hb4⟩; rw [HA.out])
              | (go_at_call 51; refine (own2_any _ _ _ _ _ hr4.row).mono ?_; rintro e w5 ⟨rfl, hb5⟩; rw [HW.out]))
            go_round
            case rel => exact ⟨k + 1, by omega, by go_num, ((((HI.below hb2).below hb3').below hb4).below hb5).stay HO.out HF.out, (((hbl.then hb2).then hb3').then hb4).then hb5⟩
            case measure => simp [intOf]; omega
          | false =>
            have HW := mkHid hw
            have HO : Hid (compOut xs ys (k : Int) = [⟨k, apL ys xs[i].t⟩]) := by rw [Hid]; unfold compOut; rw [hca]; simp only [hw]; rfl
            clear hp hlx ha hL hca hw
            go_wp2_with (first
              | (go_at_call 36; (with_reducible refine (place2_any _ cap _ _ xs (hx.below hbl)).mono ?_); rintro e w2 ⟨rfl, hb2⟩; rw [HP.out])
              | (go_at_call 36; (with_reducible refine (place2_any _ cap' _ _ ys ((hy.below hbl).below hb2)).mono ?_); rintro e w3 ⟨rfl, hb3⟩; have hb3' := hb3.new (.cells #[] 24); obtain ⟨a1, cap1, c0, c1, hr3, _, _⟩ := bnd_at hat ((hbl.then hb2).then hb3) hi; have c1' := keep c1 ((Below.refl _ _).new (.cells #[] 24)))
              | (go_at_call 22; refine (refapply_any _ cap' _ cap1 _ ys xs[i].t ((((hy.below hbl).below hb2).below hb3).below ((Below.refl _ _).new _)) (hr3.below ((Below.refl _ _).new _)) HT2.out hTi).mono ?_; rintro e w4 ⟨a4, cap4, rfl, hr4, hb4⟩; rw [HA.out])
              | (go_at_call 51; refine (own2_any _ _ _ _ _ hr4.row).mono ?_; rintro e w5 ⟨rfl, hb5⟩; rw [HW.out]; have HI5 := (((HI.below hb2).below hb3').below hb4).below hb5; have hbl5 := (((hbl.then hb2).then hb3').then hb4).then hb5; obtain ⟨vs, hown5, hc5⟩ := HI5.ex)
              | (at_builtin; refine wpList_app2 rfl _ _ 28 rfl w.heap.size 46 2 32 _ Try.underlying28 Try.infoBind rfl (by decide) (by decide) _ (compUp xs ys k).length _ rfl (hown5.alloc _) ⟨_, 0, none⟩ 1 1 [.int .i64 k, .slice a4 (apL ys xs[i].t).length cap4] rfl (src_new _ #[.int .i64 k, .slice a4 (apL ys xs[i].t).length cap4] _ 2 rfl (by simp [Value.oneCell'])) (by omega) (Nat.le_trans hbl5.size (by simp)) ?_; intro v' w6 hown6 _ hb6 hk6))
            go_round
            case rel =>
              refine ⟨k + 1, by omega, by go_num, ⟨⟨_, by rw [compUp_succ, HO.out, List.length_append]; exact hown6, ?_⟩, fit_next HI5.fit HF.out⟩, (hbl5.new _).trans hb6⟩
              rw [compUp_succ, HO.out]
              refine ((hc5.keeps (alloc_hide _ _ _)).keeps hk6).append (CRows.single ⟨⟨a4, cap4, rfl, ?_⟩, hkr.out.1, hkr.out.2⟩)
              exact ((((hr4.below hb5).hide (fun g e => by have h1 := HI.lt g e; have h2 := hb2.size; have h3 := hb3'.size; omega))).keeps (alloc_hide _ _ _)).keeps hk6
            case measure => simp [intOf]; omega
    · obtain rfl : k = 1000 := by omega
      have hcB : compB xs ys = true := HI.fit
      have HE : Hid (compB xs ys = true) := hcB
      have HE2 : Hid (compL xs ys = compUp xs ys 1000) := by rw [Hid]; unfold compL; rw [if_pos hcB]
      obtain ⟨vs, hown, hc⟩ := HI.ex
      obtain ⟨a2, cap2, rfl, hrow⟩ := own_rowG (α := Bnd) hown (hc.keeps (hide_keeps _ _))
      clear hcB hown hc HI
      go_wp2_with fail
      go_ret2
      refine ⟨a2, cap2, ?_, ?_, hbl⟩
      · rw [HE.out, HE2.out]; rfl
      · rw [HE2.out]; exact hrow
end Go.Proofs.Ytfcebbfphjbkoaa
namespace Go.Proofs.Ytfcebbfphjbkoaa
open Go.RowKit

/-- how a value reads that is held as it stands -/
def heldElem (v : Value) : Option (DataW Value × List MemPlace) := some (.held v, [])
/-- block b of w is a map from int to values of at most n entries -/
structure MapV (P : Program) (k : TypeId) (w : World) (b n : Nat) (f : Int → Option Value) : Prop where
  ex : ∃ D : DataW Value, w.ownsMap P k heldElem b n D ∧ ∀ i, (Lit.int .i64 i).wf = true → Go.Maps.has D (.int .i64 i) = (f i).isSome ∧ ∀ z, D.atKey (.int .i64 i) (.held z) = .held ((f i).getD z)
section
variable {P : Program} {k e t : TypeId} {w w' : World} {b n : Nat} {f : Int → Option Value}
theorem MapV.made (P : Program) (k : TypeId) (w : World) : MapV P k (w.alloc (.map #[] 0)) w.heap.size 0 (fun _ => none) :=
  ⟨.map [], World.ownsMap_made w P k _, fun _ _ => ⟨rfl, fun _ => rfl⟩⟩
theorem MapV.lt (h : MapV P k w b n f) : b < w.heap.size := let ⟨_, h, _⟩ := h.ex; h.lt
theorem MapV.kept {row : Option Nat} (h : MapV P k w b n f) (hg : w.grownBy w' row) (hne : some b ≠ row) : MapV P k w' b n f :=
  let ⟨D, h, hf⟩ := h.ex; ⟨D, h.kept hg hne, hf⟩
theorem MapV.below (h : MapV P k w b n f) (hb : Below w.heap.size w w') : MapV P k w' b n f :=
  h.kept (row := none) ⟨hb.os, hb.tape, hb.output, hb.size, fun k hk _ => hb.block k hk⟩ (by simp)
theorem MapV.alloc (h : MapV P k w b n f) (o : Obj) : MapV P k (w.alloc o) b n f := let ⟨D, h, hf⟩ := h.ex; ⟨D, h.alloc o, hf⟩
theorem MapV.mono {m : Nat} (h : MapV P k w b n f) (hm : n ≤ m) : MapV P k w b m f := let ⟨D, h, hf⟩ := h.ex; ⟨D, h.mono hm, hf⟩
theorem MapV.put_at {D : DataW Value} (hD : Go.Maps.IsMap D) (hf : ∀ i, (Lit.int .i64 i).wf = true → Go.Maps.has D (.int .i64 i) = (f i).isSome ∧ ∀ z, D.atKey (.int .i64 i) (.held z) = .held ((f i).getD z)) (i : Int) (x : Value) :
    ∀ j, (Lit.int .i64 j).wf = true → Go.Maps.has (D.put (.int .i64 i) (.held x)) (.int .i64 j) = (if j = i then some x else f j).isSome ∧ ∀ z, (D.put (.int .i64 i) (.held x)).atKey (.int .i64 j) (.held z) = .held ((if j = i then some x else f j).getD z) := by
  intro j hj
  by_cases e : j = i
  · subst e
    rw [if_pos rfl]
    exact ⟨Go.Maps.has_put_same hD (by simp [WideAt.IsKeyLit]) _, fun z => Go.Maps.atKey_put_same hD (by simp [WideAt.IsKeyLit]) _ _⟩
  · rw [if_neg e]
    obtain ⟨h1, h2⟩ := hf j hj
    exact ⟨by rw [← h1]; exact Go.Maps.has_put_other (by simp; exact e) _, fun z => by rw [← h2 z]; exact Go.Maps.atKey_put_other (by simp; exact e) _ _⟩
theorem MapV.run_ok (h : MapV P k w b n f) (hk : P.underlying k = some (.int .i64)) (ht : P.underlying t = some (.map k e)) {z : Value} (hz : (zeroValue e).run P w = .ok z w)
    {i : Int} (hi : (Lit.int .i64 i).wf = true) : (Instr.lookup t (.map (some b)) (.int .i64 i) true).run P w = .ok (.tuple #[(f i).getD z, .bool (f i).isSome]) w := by
  obtain ⟨D, h, hf⟩ := h.ex
  obtain ⟨v, ps, hrun, hv⟩ := h.look_ok (Go.Maps.int_keyed hk) ht hz (zd := .held z) (zp := []) rfl (Go.Maps.keyOf_int_mk hk hi)
  rw [(hf i hi).1] at hrun
  rw [(hf i hi).2 z] at hv
  unfold heldElem at hv
  simp at hv
  rw [hrun, hv.1]
theorem MapV.run_look (h : MapV P k w b n f) (hk : P.underlying k = some (.int .i64)) (ht : P.underlying t = some (.map k e)) {z : Value} (hz : (zeroValue e).run P w = .ok z w)
    {i : Int} (hi : (Lit.int .i64 i).wf = true) : (Instr.lookup t (.map (some b)) (.int .i64 i) false).run P w = .ok ((f i).getD z) w := by
  obtain ⟨D, h, hf⟩ := h.ex
  obtain ⟨v, ps, hrun, hv⟩ := h.lookup (Go.Maps.int_keyed hk) ht hz (zd := .held z) (zp := []) rfl (Go.Maps.keyOf_int_mk hk hi)
  rw [(hf i hi).2 z] at hv
  unfold heldElem at hv
  simp at hv
  rw [hrun, hv.1]
theorem MapV.wpl_ok {ops : Array Oper} {rest : List Oper} {o : Oper} {a : Act} {Q : Exit → Act → World → Prop}
    (hg : o.guard = none) (m x : Operand) (hop : o.op = Op.lookup t m x true)
    (hk : P.underlying k = some (.int .i64)) (ht : P.underlying t = some (.map k e)) {z : Value} (hz : (zeroValue e).run P w = .ok z w)
    (hm : a.eval m = .map (some b)) (h : MapV P k w b n f) (i : Int) (hx : a.eval x = .int .i64 i) (hi : (Lit.int .i64 i).wf = true)
    (hK : wpList P ops Q rest (a.put o.dst (.tuple #[(f i).getD z, .bool (f i).isSome])) w) :
    wpList P ops Q (o :: rest) a w := by
  refine wpList_plain hg fun K' hK' => ?_
  unfold Oper.wp
  simp only [execOp, hop, hm, hx, Sem.run_bind, h.run_ok hk ht hz hi, Result.andThen_ok, Sem.run_pure]
  exact hK' _ _ hK
theorem MapV.wpl_look {ops : Array Oper} {rest : List Oper} {o : Oper} {a : Act} {Q : Exit → Act → World → Prop}
    (hg : o.guard = none) (m x : Operand) (hop : o.op = Op.lookup t m x false)
    (hk : P.underlying k = some (.int .i64)) (ht : P.underlying t = some (.map k e)) {z : Value} (hz : (zeroValue e).run P w = .ok z w)
    (hm : a.eval m = .map (some b)) (h : MapV P k w b n f) (i : Int) (hx : a.eval x = .int .i64 i) (hi : (Lit.int .i64 i).wf = true)
    (hK : wpList P ops Q rest (a.put o.dst ((f i).getD z)) w) :
    wpList P ops Q (o :: rest) a w := by
  refine wpList_plain hg fun K' hK' => ?_
  unfold Oper.wp
  simp only [execOp, hop, hm, hx, Sem.run_bind, h.run_look hk ht hz hi, Result.andThen_ok, Sem.run_pure]
  exact hK' _ _ hK
theorem MapV.wpl_update {ops : Array Oper} {rest : List Oper} {o : Oper} {a : Act} {Q : Exit → Act → World → Prop}
    (hg : o.guard = none) (m x y : Operand) (hop : o.op = Op.mapUpdate t m x y)
    (hk : P.underlying k = some (.int .i64)) (ht : P.underlying t = some (.map k e))
    (hm : a.eval m = .map (some b)) (h : MapV P k w b n f) (hn : n < 9223372036854775807) (i : Int) (hx : a.eval x = .int .i64 i) (hi : (Lit.int .i64 i).wf = true) (z : Value) (hy : a.eval y = z)
    (hK : ∀ w', MapV P k w' b (n + 1) (fun j => if j = i then some z else f j) → w.grownBy w' (some b) → wpList P ops Q rest (a.put o.dst undef) w') :
    wpList P ops Q (o :: rest) a w := by
  obtain ⟨D, h, hf⟩ := h.ex
  refine wpList_mapUpdate_own w hg m x y t hop k e (Go.Maps.int_keyed hk) ht _ b n D hm h (by unfold maxLen; omega) _ _ _ hx hy (Go.Maps.keyOf_int_mk hk hi) (.held z) [] rfl ?_
  intro w' h' hg'
  exact hK w' ⟨_, h', MapV.put_at h.isMap hf i z⟩ hg'
end
end Go.Proofs.Ytfcebbfphjbkoaa
namespace Go.Proofs.Ytfcebbfphjbkoaa
open Go.RowKit

def keptL (s : List Bnd) (vars : List Int) : List Bnd := s.filter fun b => decide (b.v ∈ vars)
theorem keep_yes {xs : List Bnd} {vars : List Int} {k : Nat} (hk : k < xs.length) (h : xs[k].v ∈ vars) : keptL (xs.take (k + 1)) vars = keptL (xs.take k) vars ++ [xs[k]] := by
  unfold keptL; rw [List.take_succ_eq_append_getElem hk, List.filter_append]; simp [h]
theorem keep_no {xs : List Bnd} {vars : List Int} {k : Nat} (hk : k < xs.length) (h : xs[k].v ∉ vars) : keptL (xs.take (k + 1)) vars = keptL (xs.take k) vars := by
  unfold keptL; rw [List.take_succ_eq_append_getElem hk, List.filter_append]; simp [h]
theorem keep_le (xs : List Bnd) (vars : List Int) : (keptL xs vars).length ≤ xs.length := List.length_filter_le _ _

set_option maxHeartbeats 1600000 in
theorem refkeep_any (a : Option Addr) (cap : Nat) (a' : Option Addr) (cap' : Nat) (w : World) (xs : List Bnd) (ys : List Int) (hx : Row w a cap xs) (hy : Row w a' cap' ys) (hl : xs.length ≤ 1000000) :
    Calls Try.prog 28 #[.slice a xs.length cap, .slice a' ys.length cap'] w fun e w' => ∃ a2 cap2, e = .returned (.slice a2 (keptL xs ys).length cap2) ∧ Row w' a2 cap2 (keptL xs ys) ∧ Below w.heap.size w w' := by
  have hm := hx.max
  have hm2 := hx.le
  have hm0 := AccInv.made (α := Bnd) (B := w.heap.size) (e := 46) w (Nat.le_refl _) rfl
  have hb0 := (Below.refl w.heap.size w).new (.cells #[] 46)
  go_enter Try.func28, Try.ntmps28
  go_wp2_with fail
  go_loopw [5, 6] (fun v i wr => ∃ k : Nat, k ≤ xs.length ∧ i = .int .i64 k ∧ AccInv w.heap.size 46 (keptL (xs.take k) ys) v wr ∧ Below w.heap.size w wr) (fun v i wr => xs.length - (intOf i).toNat)
  case atStart => exact ⟨0, Nat.zero_le _, rfl, by simpa [keptL] using hm0, hb0⟩
  case round =>
    obtain ⟨k, hk, rfl, hacc, hbl⟩ := hrel
    by_cases hlt : k < xs.length
    · obtain ⟨b, off, rfl, hb, hat⟩ := hx.cases.resolve_left (fun e => by simp [e] at hlt)
      obtain ⟨a1, cap1, z0, z1, hr0, hv1, hv2⟩ := bnd_at hat (Below.refl _ _) hlt
      have c0 := keep z0 hbl
      have Z0 := mkHid z0
      have Z1 := mkHid z1
      have hle : (keptL (xs.take k) ys).length ≤ k := by have := keep_le (xs.take k) ys; simp at this; omega
      clear z0 z1
      by_cases hin : xs[k].v ∈ ys
      · have HD := mkHid (decide_eq_true hin)
        have HS := mkHid (keep_yes hlt hin)
        clear hin
        go_wp2_with (first
          | (go_at_call 33; refine (in2_any _ _ _ _ ys (hy.below hbl)).mono ?_; rintro e w2 ⟨rfl, hb2⟩; rw [HD.out]; have hbl2 := hbl.then hb2; have hacc2 := hacc.below hb2; have d0 := keep Z0.out hbl2; have d1 := keep Z1.out hbl2; have hr2 := hr0.keeps (hacc2.fresh hbl2); clear c0)
          | (at_builtin; refine wpList_acc (α := Bnd) rfl _ _ 28 rfl w.heap.size 46 32 _ Try.underlying28 Try.infoBind rfl (by decide) _ (keptL (xs.take k) ys) hacc2 (by rfl) _ #[.int .i64 xs[k].v, .slice a1 xs[k].t.length cap1] xs[k] ⟨⟨a1, cap1, rfl, hr2⟩, hv1, hv2⟩ (by rfl) (by omega) hbl2.size ?_; intro v' w3 hacc3 hb3))
        go_round
        case rel => exact ⟨k + 1, by omega, by go_num, hacc3.lit HS.out.symm, hbl2.trans hb3⟩
        case measure => simp [intOf]; omega
      · have HD := mkHid (decide_eq_false hin)
        have HS := mkHid (keep_no hlt hin)
        clear hin
        go_wp2_with (go_at_call 33; refine (in2_any _ _ _ _ ys (hy.below hbl)).mono ?_; rintro e w2 ⟨rfl, hb2⟩; rw [HD.out]; have hbl2 := hbl.then hb2; have hacc2 := hacc.below hb2)
        go_round
        case rel => exact ⟨k + 1, by omega, by go_num, hacc2.lit HS.out.symm, hbl2⟩
        case measure => simp [intOf]; omega
    · have HL : Hid (xs.take k = xs) := List.take_of_length_le (by omega)
      obtain ⟨a2, cap2, rfl, hrow⟩ := hacc.row
      rw [HL.out] at hrow ⊢
      clear hacc
      go_wp2
      go_ret
      exact ⟨a2, cap2, rfl, hrow, hbl⟩
end Go.Proofs.Ytfcebbfphjbkoaa
namespace Go.Proofs.Ytfcebbfphjbkoaa
open Go.RowKit

theorem clone_new (n : Nat) (a : Option Addr) (cap : Nat) (w : World) (xs : List Cel) (hn : n = xs.length) (hx : Row w a cap xs) (hl : xs.length ≤ 1000000) :
    Calls Try.prog 65 #[.slice a n cap] w fun e w' => ∃ a2 cap2, e = .returned (.slice a2 xs.length cap2) ∧ NewRow w.heap.size w' a2 cap2 xs ∧ Below w.heap.size w w' :=
  (clone_any' n a cap w xs hn hx hl).mono fun e w' ⟨v, he, ho, hb⟩ => by
    obtain ⟨a2, cap2, rfl, hr⟩ := own_new ho hx.fit
    exact ⟨a2, cap2, he, hr, hb⟩

theorem set2_grown (B : Nat) (w : World) (x y : Value) : w.grownBy ((w.setCell ⟨B, 0, none⟩ x).setCell ⟨B, 1, none⟩ y) (some B) :=
  (grown_set w B 0 x).trans (grown_set _ B 1 y)
theorem set2 (B : Nat) (w : World) (x y : Value) : Below B w ((w.setCell ⟨B, 0, none⟩ x).setCell ⟨B, 1, none⟩ y) := ((Below.refl B w).setCell (Nat.le_refl _) _).setCell (Nat.le_refl _) _

set_option maxHeartbeats 800000 in
theorem copied_any (v : Int) (a : Option Addr) (cap : Nat) (w : World) (xs : List Cel) (hx : Row w a cap xs) (hl : xs.length ≤ 1000000) :
    Calls Try.prog 55 #[.agg #[.int .i64 v, .slice a xs.length cap]] w fun e w' => ∃ a2 cap2, e = .returned (.agg #[.int .i64 v, .slice a2 xs.length cap2]) ∧ NewRow w.heap.size w' a2 cap2 xs ∧ Below w.heap.size w w' := by
  have hb1 := ((Below.refl w.heap.size w).new (.cells #[.int .i64 v, .slice a xs.length cap] 46)).new (.cells #[.int .i64 0, .slice none 0 0] 46)
  have e0 : ((w.alloc (.cells #[.int .i64 v, .slice a xs.length cap] 46)).alloc (.cells #[.int .i64 0, .slice none 0 0] 46)).cell? ⟨w.heap.size, 0, none⟩ = some (.int .i64 v) := keep (World.cell?_alloc_at _ _ w.heap.size 0 rfl) ((Below.refl _ _).new _)
  have e1 : ((w.alloc (.cells #[.int .i64 v, .slice a xs.length cap] 46)).alloc (.cells #[.int .i64 0, .slice none 0 0] 46)).cell? ⟨w.heap.size, 1, none⟩ = some (.slice a xs.length cap) := keep (World.cell?_alloc_at _ _ w.heap.size 1 rfl) ((Below.refl _ _).new _)
  have f2 : ((w.alloc (.cells #[.int .i64 v, .slice a xs.length cap] 46)).alloc (.cells #[.int .i64 0, .slice none 0 0] 46)).cell? ⟨w.heap.size + 1, 0, none⟩ = some (.int .i64 0) := World.cell?_alloc_at _ _ _ 0 (by simp)
  have f3 : ((w.alloc (.cells #[.int .i64 v, .slice a xs.length cap] 46)).alloc (.cells #[.int .i64 0, .slice none 0 0] 46)).cell? ⟨w.heap.size + 1, 1, none⟩ = some (.slice none 0 0) := World.cell?_alloc_at _ _ _ 1 (by simp)
  have z2 : ((w.alloc (.cells #[.int .i64 v, .slice a xs.length cap] 46)).alloc (.cells #[.int .i64 0, .slice none 0 0] 46)).frozen? ⟨w.heap.size + 1, 0, none⟩ = false := by simp [go_sem]
  have z3 : ((w.alloc (.cells #[.int .i64 v, .slice a xs.length cap] 46)).alloc (.cells #[.int .i64 0, .slice none 0 0] 46)).frozen? ⟨w.heap.size + 1, 1, none⟩ = false := by simp [go_sem]
  go_enter Try.func55, Try.ntmps55
  go_wp2
  obtain ⟨W, hW⟩ : ∃ W, (w.alloc (.cells #[.int .i64 v, .slice a xs.length cap] 46)).alloc (.cells #[.int .i64 0, .slice none 0 0] 46) = W := ⟨_, rfl⟩
  have hsz : W.heap.size = w.heap.size + 2 := by rw [← hW]; simp
  rw [hW] at e0 e1 f2 f3 z2 z3 hb1 ⊢
  have HSZ := mkHid hsz
  clear hW hsz
  have hxW : Row W.drew a cap xs := (hx.below hb1).below (Below.refl _ _).drew
  have hdr : Below w.heap.size w W.drew := hb1.trans (Below.refl _ _).drew
  go_region_held3 (fun w' => Below w.heap.size w w' ∧ w'.cell? ⟨w.heap.size, 0, none⟩ = some (.int .i64 v) ∧ w'.cell? ⟨w.heap.size, 1, none⟩ = some (.slice a xs.length cap))
    (first
      | exact ⟨hdr, e0, e1⟩
      | exact ⟨hdr.then hb2, keep (w := W.drew) e0 hb2, keep (w := W.drew) e1 hb2⟩
      | exact ⟨(hdr.then hb2).trans ((set2 (w.heap.size + 1) _ _ _).mono (Nat.le_succ _)), ((set2 (w.heap.size + 1) _ _ _).cell (p := ⟨w.heap.size, 0, none⟩) (Nat.lt_succ_self _)).trans (keep (w := W.drew) e0 hb2), ((set2 (w.heap.size + 1) _ _ _).cell (p := ⟨w.heap.size, 1, none⟩) (Nat.lt_succ_self _)).trans (keep (w := W.drew) e1 hb2)⟩)
    (first | (go_at_call 65; refine (clone_new _ a cap _ xs rfl hxW hl).mono ?_; rintro e w2 ⟨a2, cap2, rfl, hn2, hb2⟩; have g2 := keep (w := W.drew) f2 hb2; have g3 := keep (w := W.drew) f3 hb2; have y2 : w2.frozen? ⟨w.heap.size + 1, 0, none⟩ = false := (hb2.frozen (p := ⟨w.heap.size + 1, 0, none⟩) (by have := HSZ.out; simp; omega)).trans z2; have y3 : w2.frozen? ⟨w.heap.size + 1, 1, none⟩ = false := (hb2.frozen (p := ⟨w.heap.size + 1, 1, none⟩) (by have := HSZ.out; simp; omega)).trans z3))
  go_wp2
  exact bodyPost_ret (v := .agg #[.int .i64 v, .slice a2 xs.length cap2]) (by simp [results, Try.results55, go_sem, g2, g3]) rfl ⟨a2, cap2, rfl, (hn2.grown (set2_grown (w.heap.size + 1) _ _ _) (fun g e => by cases e; have := HSZ.out; simp; omega)).mono (by have := HSZ.out; simp; omega), by rename_i hh; exact hh.1⟩
end Go.Proofs.Ytfcebbfphjbkoaa
namespace Go.Proofs.Ytfcebbfphjbkoaa
open Go.RowKit

theorem Try.zeroCells (w : World) : (zeroValue 22).run Try.prog w = .ok (.slice none 0 0) w := by kernel_rfl
/-- the last one counts: the program's own map -/
def lookL (s : List Bnd) (n : Int) : Option (List Cel) := (s.reverse.find? fun b => decide (b.v = n)).map Bnd.t

/-- what stands in a map reads as terms -/
structure MapT (w : World) (m : Nat) (f : Int → Option (List Cel)) : Prop where
  ex : ∃ (n : Nat) (g : Int → Option Value), MapV Try.prog 3 w m n g ∧ ∀ i, match f i with
    | none => g i = none
    | some t => ∃ a cap, g i = some (.slice a t.length cap) ∧ Row w a cap t
theorem MapT.below {w w' : World} {m : Nat} {f : Int → Option (List Cel)} (h : MapT w m f) (hb : Below w.heap.size w w') : MapT w' m f := by
  obtain ⟨n, g, h1, h2⟩ := h.ex
  refine ⟨n, g, h1.below hb, fun i => ?_⟩
  have := h2 i
  cases hf : f i with
  | none => rw [hf] at this; exact this
  | some t =>
    rw [hf] at this
    obtain ⟨a, cap, e, hr⟩ := this
    exact ⟨a, cap, e, hr.below hb⟩
theorem MapT.lt {w : World} {m : Nat} {f : Int → Option (List Cel)} (h : MapT w m f) : m < w.heap.size := let ⟨_, _, h1, _⟩ := h.ex; h1.lt
theorem MapT.no {w : World} {m : Nat} {f : Int → Option (List Cel)} (h : MapT w m f) {i : Int} (hf : f i = none) (hi : (Lit.int .i64 i).wf = true) :
    (Instr.lookup 65 (.map (some m)) (.int .i64 i) true).run Try.prog w = .ok (.tuple #[.slice none 0 0, .bool false]) w := by
  obtain ⟨n, g, h1, h2⟩ := h.ex
  have := h2 i
  rw [hf] at this
  have hr := h1.run_ok (t := 65) (e := 22) Try.underlying3 Try.underlying65 (Try.zeroCells w) hi
  rw [this] at hr
  exact hr
theorem MapT.yes {w : World} {m : Nat} {f : Int → Option (List Cel)} (h : MapT w m f) {i : Int} {t : List Cel} (hf : f i = some t) (hi : (Lit.int .i64 i).wf = true) :
    ∃ a cap, (Instr.lookup 65 (.map (some m)) (.int .i64 i) true).run Try.prog w = .ok (.tuple #[.slice a t.length cap, .bool true]) w ∧ Row w a cap t := by
  obtain ⟨n, g, h1, h2⟩ := h.ex
  have := h2 i
  rw [hf] at this
  obtain ⟨a, cap, e, hr⟩ := this
  have hrun := h1.run_ok (t := 65) (e := 22) Try.underlying3 Try.underlying65 (Try.zeroCells w) hi
  rw [e] at hrun
  exact ⟨a, cap, hrun, hr⟩

theorem lookL_snoc {xs : List Bnd} {k : Nat} (hk : k < xs.length) (i : Int) : lookL (xs.take (k + 1)) i = if i = xs[k].v then some xs[k].t else lookL (xs.take k) i := by
  unfold lookL
  rw [List.take_succ_eq_append_getElem hk, List.reverse_append]
  simp only [List.reverse_cons, List.reverse_nil, List.nil_append, List.singleton_append, List.find?_cons]
  by_cases h : i = xs[k].v
  · rw [if_pos h]; simp [h]
  · rw [if_neg h]; simp [show ¬ xs[k].v = i from fun e => h e.symm]

set_option maxHeartbeats 1600000 in
theorem byvar_any (a : Option Addr) (cap : Nat) (w : World) (xs : List Bnd) (hx : Row w a cap xs) (hl : xs.length ≤ 1000000) :
    Calls Try.prog 53 #[.slice a xs.length cap] w fun e w' => ∃ m, e = .returned (.map (some m)) ∧ MapT w' m (lookL xs) ∧ Below w.heap.size w w' := by
  have hm := hx.max
  have hm2 := hx.le
  have hmm := @run_makeMap Try.prog
  have hmade := MapV.made Try.prog 3 w
  have hb0 := (Below.refl w.heap.size w).new (.map #[] 0)
  go_enter Try.func53, Try.ntmps53
  go_wp2
  clear hmm
  go_loopw [5, 9] (fun _ i wr => ∃ (k : Nat) (g : Int → Option Value), k ≤ xs.length ∧ i = .int .i64 k ∧ MapV Try.prog 3 wr w.heap.size k g ∧ Below w.heap.size w wr ∧ Hid (∀ i, match lookL (xs.take k) i with
    | none => g i = none
    | some t => ∃ a cap, g i = some (.slice a t.length cap) ∧ Row w a cap t)) (fun _ i wr => xs.length - (intOf i).toNat)
  case atStart => exact ⟨0, _, Nat.zero_le _, rfl, hmade, hb0, fun i => by simp [lookL]⟩
  case round =>
    obtain ⟨k, g, hk, rfl, hmv, hbl, HS⟩ := hrel
    by_cases hlt : k < xs.length
    · obtain ⟨b, off, rfl, hb, hat⟩ := hx.cases.resolve_left (fun e => by simp [e] at hlt)
      obtain ⟨a1, cap1, z0, z1, hr0, hv1, hv2⟩ := bnd_at hat (Below.refl _ _) hlt
      have c0 := keep z0 hbl
      have c1 := keep z1 hbl
      have hwf : Hid ((Lit.int .i64 xs[k].v).wf = true) := WalkArith.wf_i64 ⟨by omega, by omega⟩
      have HN : Hid (∀ i, match lookL (xs.take (k + 1)) i with
        | none => (if i = xs[k].v then some (Value.slice a1 xs[k].t.length cap1) else g i) = none
        | some t => ∃ a cap, (if i = xs[k].v then some (Value.slice a1 xs[k].t.length cap1) else g i) = some (.slice a t.length cap) ∧ Row w a cap t) := by
        intro i
        rw [lookL_snoc hlt]
        have := HS.out i
        by_cases h : i = xs[k].v
        · rw [if_pos h, if_pos h]; exact ⟨a1, cap1, rfl, hr0⟩
        · rw [if_neg h, if_neg h]; exact this
      clear z0 z1 HS
      go_wp2_with (at_mapUpdate; refine (MapV.alloc hmv _).wpl_update rfl _ _ _ rfl Try.underlying3 Try.underlying65 (by rfl) (by omega) _ (by rfl) hwf.out _ (by rfl) ?_; intro w2 hmv2 hg2)
      go_round
      case rel => exact ⟨k + 1, _, by omega, by go_num, hmv2, (hbl.new _).grown hg2 (by have := hbl.size; simp; omega) (fun k e => by cases e; exact Nat.le_refl _), HN⟩
      case measure => simp [intOf]; omega
    · have HL : Hid (xs.take k = xs) := List.take_of_length_le (by omega)
      have HT : Hid (MapT wr w.heap.size (lookL xs)) := by
        refine ⟨k, g, hmv, fun i => ?_⟩
        have := HS.out i
        rw [HL.out] at this
        cases hf : lookL xs i with
        | none => rw [hf] at this; exact this
        | some t =>
          rw [hf] at this
          obtain ⟨a, cap, e, hr⟩ := this
          exact ⟨a, cap, e, hr.below hbl⟩
      clear HS hmv
      go_wp2
      go_ret
      exact ⟨_, rfl, HT.out, hbl⟩
end Go.Proofs.Ytfcebbfphjbkoaa
namespace Go.Proofs.Ytfcebbfphjbkoaa
open Go.RowKit

theorem mem_take_succ {ys : List Int} {k : Nat} (hk : k < ys.length) : (fun j => if j = ys[k] then true else decide (j ∈ ys.take k)) = fun j => decide (j ∈ ys.take (k + 1)) := by
  funext j
  rw [List.take_succ_eq_append_getElem hk]
  by_cases h : j = ys[k]
  · rw [if_pos h]
    exact (decide_eq_true (List.mem_append.2 (.inr (List.mem_singleton.2 h)))).symm
  · rw [if_neg h]
    congr 1
    exact propext ⟨fun m => List.mem_append.2 (.inl m), fun m => (List.mem_append.1 m).resolve_right (fun x => h (List.mem_singleton.1 x))⟩

theorem MapIB.lowB {P : Program} {k e : TypeId} {w w' : World} {b n B : Nat} {f : Int → Bool} (h : MapIB P k e w b n f) (hb : Below B w w') (hB : b < B) (_hs : B ≤ w.heap.size) : MapIB P k e w' b n f := by
  obtain ⟨D, ⟨es, clock, h1, h2⟩, hf⟩ := h
  exact ⟨D, ⟨es, clock, (hb.block b hB).trans h1, h2⟩, hf⟩
theorem below_then' {a b c : World} {B : Nat} (h : Below a.heap.size a b) (k : Below B b c) (hB : a.heap.size ≤ B) : Below a.heap.size a c := h.trans (k.mono hB)

set_option maxHeartbeats 3200000 in
theorem keepsub_any (a : Option Addr) (cap : Nat) (a' : Option Addr) (cap' : Nat) (w : World) (xs : List Bnd) (ys : List Int) (hx : Row w a cap xs) (hy : Row w a' cap' ys) (hl : xs.length ≤ 1000000) (hT : ∀ b ∈ xs, b.t.length ≤ 1000) :
    Calls Try.prog 27 #[.slice a xs.length cap, .slice a' ys.length cap'] w fun e w' => ∃ a2 cap2, e = .returned (.slice a2 (keptL xs ys).length cap2) ∧ Row w' a2 cap2 (keptL xs ys) ∧ Below w.heap.size w w' := by
  have hm := hx.max
  have hm2 := hx.le
  have hm3 := hy.max
  have hm4 := hy.le
  have HT := mkHid hT
  clear hT
  have hmm := @run_makeMap Try.prog
  have hmade := MapIB.made Try.prog 3 4 w
  have hb0 := (Below.refl w.heap.size w).new (.map #[] 0)
  go_enter Try.func27, Try.ntmps27
  go_wp2
  clear hmm
  go_loopw [7, 14] (fun _ i wr => ∃ k : Nat, k ≤ ys.length ∧ i = .int .i64 k ∧ MapIB Try.prog 3 4 wr w.heap.size k (fun j => decide (j ∈ ys.take k)) ∧ Below w.heap.size w wr) (fun _ i wr => ys.length - (intOf i).toNat)
  case atStart => exact ⟨0, Nat.zero_le _, rfl, by simpa using hmade, hb0⟩
  case round =>
    obtain ⟨k, hk, rfl, hmv, hbl⟩ := hrel
    by_cases hlt : k < ys.length
    · obtain ⟨b, off, rfl, hb, hat⟩ := hy.cases.resolve_left (fun e => by simp [e] at hlt)
      obtain ⟨c0, hlo, hhi⟩ := int_at hat hbl hlt
      have hwf : Hid ((Lit.int .i64 ys[k]).wf = true) := WalkArith.wf_i64 ⟨by omega, by omega⟩
      have HM := mkHid (mem_take_succ hlt)
      go_wp2_with (at_mapUpdate; refine MapIB.wpl_update rfl _ _ _ rfl Try.underlying3 Try.underlying73 Try.underlying4 (by rfl) hmv (by omega) _ (by rfl) hwf.out _ (by rfl) ?_; intro w2 hmv2 hg2)
      go_round
      case rel => exact ⟨k + 1, by omega, by go_num, by rw [← HM.out]; exact hmv2, hbl.grown hg2 hbl.size (fun k e => by cases e; exact Nat.le_refl _)⟩
      case measure => simp [intOf]; omega
    · have hml : MapIB Try.prog 3 4 wr w.heap.size k (fun j => decide (j ∈ ys)) := by
        have e : ys.take k = ys := List.take_of_length_le (by omega)
        rw [e] at hmv; exact hmv
      clear hmv
      obtain ⟨wm, rfl⟩ : ∃ wm : World, wm = wr := ⟨_, rfl⟩
      go_wp2
      go_loopw [8, 10, 23] (fun v _ i wr => ∃ n : Nat, n ≤ xs.length ∧ i = .int .i64 n ∧ MapIB Try.prog 3 4 wr w.heap.size k (fun j => decide (j ∈ ys)) ∧ AccInv wm.heap.size 46 (keptL (xs.take n) ys) v wr ∧ Below w.heap.size w wr ∧ Below wm.heap.size wm wr) (fun v _ i wr => xs.length - (intOf i).toNat)
      case atStart => exact ⟨0, Nat.zero_le _, rfl, hml, AccInv.nil _ _ _, hbl, Below.refl _ _⟩
      case round =>
        obtain ⟨n, hn, rfl, hmv, hacc, hbr, hbm⟩ := hrel
        by_cases hlt : n < xs.length
        · obtain ⟨b, off, rfl, hb, hat⟩ := hx.cases.resolve_left (fun e => by simp [e] at hlt)
          obtain ⟨a1, cap1, c0, c1, hr1, hv1, hv2⟩ := bnd_at hat hbr hlt
          have hwf : Hid ((Lit.int .i64 xs[n].v).wf = true) := WalkArith.wf_i64 ⟨by omega, by omega⟩
          have hle : (keptL (xs.take n) ys).length ≤ n := by have := keep_le (xs.take n) ys; simp at this; omega
          have hbx : Below wr.heap.size wr (wr.alloc (.cells #[.int .i64 xs[n].v, .slice a1 xs[n].t.length cap1] 46)) := (Below.refl _ _).new _
          have hTn := HT.out xs[n] (List.getElem_mem hlt)
          by_cases hin : xs[n].v ∈ ys
          · have HD := mkHid (decide_eq_true hin)
            have HS := mkHid (keep_yes hlt hin)
            clear hin
            go_wp2_with (first
              | (at_lookup; refine (hmv.alloc _).wpl_lookup rfl _ _ rfl Try.underlying3 Try.underlying73 Try.underlying4 (Try.zeroBool _) (by rfl) _ (by rfl) hwf.out ?_; rw [HD.out])
              | (go_at_call 55; refine (copied_any _ _ _ _ xs[n].t (hr1.below hbx) (by omega)).mono ?_; rintro e w2 ⟨a2, cap2, rfl, hr2, hb2⟩; have hacc2 := (hacc.below hbx).below hb2; have hC := (hacc.below hbx).newer (Nat.le_refl _) hr2; have hmv2 := (hmv.alloc _).below hb2; have hbr2 := (hbr.new _).then hb2; have hbm2 := (hbm.new _).then hb2)
              | (at_builtin; refine wpList_acc (α := Bnd) rfl _ _ 28 rfl wm.heap.size 46 32 _ Try.underlying28 Try.infoBind rfl (by decide) _ (keptL (xs.take n) ys) hacc2 (by rfl) _ #[.int .i64 xs[n].v, .slice a2 xs[n].t.length cap2] xs[n] ⟨⟨a2, cap2, rfl, hC⟩, hv1, hv2⟩ (by rfl) (by omega) hbm2.size ?_; intro v' w3 hacc3 hb3))
            go_round
            case rel => exact ⟨n + 1, by omega, by go_num, hmv2.lowB hb3 (Nat.lt_of_lt_of_le hml.lt (Nat.le_refl _)) hbm2.size, hacc3.lit HS.out.symm, below_then' hbr2 hb3 hbl.size, below_then' hbm2 hb3 (Nat.le_refl _)⟩
            case measure => simp [intOf]; omega
          · have HD := mkHid (decide_eq_false hin)
            have HS := mkHid (keep_no hlt hin)
            clear hin
            go_wp2_with (at_lookup; refine (hmv.alloc _).wpl_lookup rfl _ _ rfl Try.underlying3 Try.underlying73 Try.underlying4 (Try.zeroBool _) (by rfl) _ (by rfl) hwf.out ?_; rw [HD.out])
            go_round
            case rel => exact ⟨n + 1, by omega, by go_num, hmv.alloc _, (hacc.below hbx).lit HS.out.symm, hbr.new _, hbm.new _⟩
            case measure => simp [intOf]; omega
        · have HL : Hid (xs.take n = xs) := List.take_of_length_le (by omega)
          obtain ⟨a2, cap2, rfl, hrow⟩ := hacc.row
          rw [HL.out] at hrow ⊢
          clear hacc
          go_wp2
          go_ret
          exact ⟨a2, cap2, rfl, hrow, hbr⟩
end Go.Proofs.Ytfcebbfphjbkoaa
