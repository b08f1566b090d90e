import Derived.Test.YtnpffificfghpaaZr1
import Derived.Laws.OwnMore
import Derived.Laws.IdiomCopy
namespace Go.Proofs.Ytnpffificfghpaa
open Go.RowKit

theorem varsGo_nodup (xs : List Cel) : ∀ acc : List Int, acc.Nodup → (varsGo acc xs).Nodup := by
  induction xs with
  | nil => intro acc h; exact h
  | cons c l ih =>
    intro acc h
    refine ih _ ?_
    split
    · rename_i hc
      rw [List.nodup_append]
      refine ⟨h, by simp, ?_⟩
      intro a ha b hb
      simp at hb
      subst hb
      intro e; subst e
      exact hc.2 ha
    · exact h
theorem varsGo_sub (xs : List Cel) : ∀ (acc : List Int) (n : Int), n ∈ acc → n ∈ varsGo acc xs := by
  induction xs with
  | nil => intro acc n h; exact h
  | cons c l ih =>
    intro acc n h
    refine ih _ _ ?_
    split
    · exact List.mem_append_left _ h
    · exact h
theorem mem_varsGo (xs : List Cel) : ∀ (acc : List Int), ∀ c ∈ xs, c.k = 1 → c.n ∈ varsGo acc xs := by
  induction xs with
  | nil => intro acc c h; simp at h
  | cons d l ih =>
    intro acc c h hc
    rcases List.mem_cons.1 h with rfl | h
    · simp only [varsGo]
      refine varsGo_sub _ _ _ ?_
      split
      · simp
      · rename_i h1
        by_cases h2 : c.n ∈ acc
        · exact h2
        · exact absurd ⟨hc, h2⟩ h1
    · exact ih _ c h hc
/-- one variable numbered -/
def numC (vs : List Int) (c : Cel) : Cel := if c.k = 1 then ⟨c.k, c.s, placeI vs c.n⟩ else c
def numL (xs : List Cel) : List Cel := xs.map (numC (varsL xs))
theorem placeI_range (vs : List Int) (n : Int) (h : vs.length ≤ 1000000) : -1 ≤ placeI vs n ∧ placeI vs n ≤ 1000000 := by
  unfold placeI
  split
  · have := List.idxOf_le_length (a := n) (l := vs); omega
  · omega
theorem numC_fit {vs : List Int} {c : Cel} (hv : vs.length ≤ 1000000) (h : c.fit) : (numC vs c).fit := by
  unfold numC
  have := placeI_range vs c.n hv
  split
  · exact ⟨h.k1, h.k2, by show -9223372036854775808 ≤ placeI vs c.n; omega, by show placeI vs c.n ≤ 9223372036854775807; omega, h.s⟩
  · exact h
/-- what a map of the first k places says -/
def placeF (vs : List Int) (k : Nat) : Int → Int := fun i => if i ∈ vs.take k then (vs.idxOf i : Int) else 0
theorem placeF_succ {vs : List Int} (hn : vs.Nodup) {k : Nat} (hk : k < vs.length) : (fun j => if j = vs[k] then ((k : Nat) : Int) else placeF vs k j) = placeF vs (k + 1) := by
  funext j
  have hiff : j ∈ vs.take (k + 1) ↔ j ∈ vs.take k ∨ j = vs[k] := by
    rw [List.take_succ_eq_append_getElem hk, List.mem_append, List.mem_singleton]
  unfold placeF
  by_cases e : j = vs[k]
  · have h1 : vs.idxOf vs[k] = k := hn.idxOf_getElem k hk
    rw [if_pos e, if_pos (hiff.2 (.inr e)), e, h1]
  · rw [if_neg e]
    by_cases h2 : j ∈ vs.take k
    · rw [if_pos h2, if_pos (hiff.2 (.inl h2))]
    · rw [if_neg h2, if_neg (fun h => (hiff.1 h).elim h2 e)]
theorem placeF_all {vs : List Int} {k : Nat} (hk : vs.length ≤ k) {i : Int} (hi : i ∈ vs) : placeF vs k i = placeI vs i := by
  unfold placeF placeI
  rw [List.take_of_length_le hk, if_pos hi, if_pos hi]
theorem Try.zeroInt (w : World) : (zeroValue 3).run Try.prog w = .ok (.int .i64 0) w := by kernel_rfl

theorem map_hide {w : World} {P : Program} {k e : TypeId} {b n : Nat} {f : Int → Int} (h : MapII P k e w b n f) : Keeps w (hide (some b) w) := by
  obtain ⟨D, ⟨es, clock, hb, _⟩, _⟩ := h
  intro b' o v hc
  refine hide_of_ne (fun e => ?_) hc
  subst e
  simp [World.cell?, hb] at hc

theorem own_mono {w : World} {B B' e size : Nat} {v : Value} {n : Nat} {vs : List Value} (h : w.ownsRow B e size v n vs) (hB : B' ≤ B) : w.ownsRow B' e size v n vs := by
  refine ⟨h.1, ?_⟩
  rcases h.2 with h | ⟨g, cap, cur, e, hb, rest⟩
  · exact .inl h
  · exact .inr ⟨g, cap, cur, e, Nat.le_trans hB hb, rest⟩

end Go.Proofs.Ytnpffificfghpaa
namespace Go.Proofs.Ytnpffificfghpaa
open Go.RowKit

set_option maxHeartbeats 1600000 in
theorem refnumber_any (a : Option Addr) (cap : Nat) (w : World) (xs : List Cel) (hr : Row w a cap xs) (hl : xs.length ≤ 1000000) (h0 : 0 < xs.length) :
    Calls Try.prog 139 #[.slice a xs.length cap] w fun e w' => ∃ a' cap', e = .returned (.slice a' (numL xs).length cap') ∧ Row w' a' cap' (numL xs) ∧ Below w.heap.size w w' := by
  have hm := hr.max
  have hle := hr.le
  have hfit := mkHid hr.fit
  have hvl := varsGo_length xs []
  rw [show varsGo [] xs = varsL xs from rfl, List.length_nil, Nat.zero_add] at hvl
  go_enter Try.func139, Try.ntmps139
  go_wp2_with (first
    | (go_at_call 170; refine (refvars_any a cap _ xs hr hl).mono ?_; rintro e w1 ⟨av, capv, rfl, hrv, hb1⟩)
    | (at_builtin; refine wpList_app rfl _ _ 30 rfl w1.heap.size 93 3 32 _ Try.underlying30 Try.infoCell rfl (by decide) (by decide) _ 0 [] rfl (World.ownsRow_made (base := w1.heap.size) (e := 93) (size := 3) w1 #[] 0 (Nat.le_refl _) (by unfold maxLen; omega) rfl) a xs.length cap (flat xs) rfl ((hr.below (hb1.new _)).src) (by omega) (by simp) ?_; intro v w2 hown _ hb2))
  rw [Nat.zero_add, List.nil_append] at hown
  have hb12 := ((Below.refl w1.heap.size w1).new (.cells #[] 93)).trans hb2
  have hbl2 := hb1.then hb12
  obtain ⟨g, cp, rfl, hg1, hg2, hg3, hg4⟩ := own_form hown h0
  have hrv2 := hrv.keeps (fresh_keeps (Keeps.of hb12) hg1)
  have hsz := hb1.size
  go_loopw [5] (fun i wr => ∃ k : Nat, k ≤ xs.length ∧ i = .int .i64 k ∧ wr.ownsRow w.heap.size 93 3 (.slice (some ⟨g, 0, none⟩) xs.length cp) xs.length (flat (upTo (numC (varsL xs)) xs k)) ∧ Below w.heap.size w wr ∧ Row (hide (some g) wr) av capv (varsL xs)) (fun i wr => xs.length - (intOf i).toNat)
  case atStart => exact ⟨0, Nat.zero_le _, rfl, by rw [upTo_zero]; exact own_mono hown hsz, hbl2, hrv2⟩
  case round =>
    clear hown hrv2
    obtain ⟨k, hk, rfl, hown, hbl, hrv⟩ := hrel
    have hgl := (hown.lt g rfl).2
    have hgb := (hown.lt g rfl).1
    by_cases hlt : k < xs.length
    · obtain ⟨o0, _, o2⟩ := own_cel hown (upTo_at _ _ hlt)
      have hf := hfit.out _ (List.getElem_mem hlt)
      by_cases h1 : xs[k].k = 1
      · have t1 : (xs[k].k == 1) = true := by simp [h1]
        go_wp2_with (go_at_call 195; refine (refplace_any av capv xs[k].n _ (varsL xs) (hrv.keeps (hide_keeps _ _))).mono ?_; rintro e w3 ⟨rfl, hb3⟩; have hown3 := own_below hown hb3; have o2' := keep o2 hb3; have hfz := own_free hown3 (k * 3 + 2); have HS := mkHid (own_store hown3 hlt (show numC (varsL xs) xs[k] = ⟨xs[k].k, xs[k].s, placeI (varsL xs) xs[k].n⟩ from if_pos h1)); clear h1 o0 o2)
        go_round
        case rel => exact ⟨k + 1, by omega, by go_num, HS.out, (hbl.then hb3).setCell (by show w.heap.size ≤ g; omega) _, (hrv.keeps (below_hide hb3 _)).keeps (grown_keeps (grown_set w3 g (k * 3 + 2) _))⟩
        case measure => simp [intOf]; omega
      · have t1 : (xs[k].k == 1) = false := by simp [h1]
        have HE := mkHid (upTo_same (numC (varsL xs)) xs hlt (if_neg h1))
        clear h1
        go_wp2
        go_round
        case rel => exact ⟨k + 1, by omega, by go_num, by rw [HE.out]; exact hown, hbl, hrv⟩
        case measure => simp [intOf]; omega
    · have hu := upTo_all (numC (varsL xs)) xs (k := k) (by omega)
      rw [hu] at hown
      have hml : (xs.map (numC (varsL xs))).length = xs.length := by simp
      have hfm : ∀ c ∈ xs.map (numC (varsL xs)), c.fit := fun c hc => by
        obtain ⟨c', hc', rfl⟩ := List.mem_map.1 hc
        exact numC_fit (by omega) (hfit.out c' hc')
      obtain ⟨a2, cap2, ev, hrow⟩ := own_row (xs := xs.map (numC (varsL xs))) (by rw [hml]; exact hown) hfm
      rw [hml] at ev
      injection ev with ev1 _ ev2
      subst ev1
      subst ev2
      have HM := mkHid (show (numL xs).length = xs.length from hml)
      clear hu hml
      go_wp2
      go_ret
      exact ⟨some ⟨g, 0, none⟩, cp, by rw [HM.out]; rfl, hrow, hbl⟩

/-- what a name and arguments make -/
def madeL (nm : ByteArray) (l : List (List Cel)) : List Cel := ⟨3, nm, l.length⟩ :: l.flatten
def makeL (nm : ByteArray) (l : List (List Cel)) : List Cel := if l.all rightB && rightB (madeL nm l) then madeL nm l else []
theorem right_len {xs : List Cel} (h : rightB xs = true) : xs.length ≤ 200 := by
  obtain ⟨_, _, _, _, _, h200⟩ := right_sk h
  exact h200
theorem make_bad {nm : ByteArray} {l : List (List Cel)} {k : Nat} (hk : k < l.length) (h : rightB l[k] = false) : makeL nm l = [] := by
  unfold makeL
  rw [if_neg]
  intro h2
  simp only [Bool.and_eq_true, List.all_eq_true] at h2
  have := h2.1 _ (List.getElem_mem hk)
  rw [h] at this; cases this
theorem make_head {nm : ByteArray} {l : List (List Cel)} (h : cellOk ⟨3, nm, l.length⟩ = false) : makeL nm l = [] := by
  unfold makeL
  rw [if_neg]
  intro h2
  simp only [Bool.and_eq_true] at h2
  obtain ⟨c, r, e, hc, _⟩ := right_sk h2.2
  unfold madeL at e
  rw [← (List.cons.inj e).1, h] at hc; cases hc
theorem all_take {l : List (List Cel)} {k : Nat} (hk : k < l.length) (h : (l.take k).all rightB = true) (h2 : rightB l[k] = true) : (l.take (k + 1)).all rightB = true := by
  rw [List.take_succ_eq_append_getElem hk, List.all_append, h]; simp [h2]
theorem flatten_take {l : List (List Cel)} {k : Nat} (hk : k < l.length) : (l.take (k + 1)).flatten = (l.take k).flatten ++ l[k] := by
  rw [List.take_succ_eq_append_getElem hk, List.flatten_append]; simp
theorem made_length {l : List (List Cel)} (h : l.all rightB = true) : l.flatten.length ≤ 200 * l.length := by
  induction l with
  | nil => simp
  | cons p l ih =>
    simp only [List.all_cons, Bool.and_eq_true] at h
    obtain ⟨_, _, _, _, _, h200⟩ := right_sk h.1
    have := ih h.2
    simp only [List.flatten_cons, List.length_append, List.length_cons]; omega

/-- what holds when k arguments stand behind the name -/
structure MakeInv (w : World) (nm : ByteArray) (l : List (List Cel)) (k : Nat) (v : Value) (wr : World) : Prop where
  all : (l.take k).all rightB = true
  own : wr.ownsRow w.heap.size 93 3 v (1 + (l.take k).flatten.length) (flat (⟨3, nm, l.length⟩ :: (l.take k).flatten))
  bel : Below w.heap.size w wr
  fit : Hid (∀ c ∈ (l.take k).flatten, c.fit)

end Go.Proofs.Ytnpffificfghpaa
namespace Go.Proofs.Ytnpffificfghpaa
open Go.RowKit

def oneL : List Cel := [⟨3, ⟨#[102]⟩, 3⟩, ⟨1, ⟨#[]⟩, 3⟩, ⟨3, ⟨#[103]⟩, 1⟩, ⟨1, ⟨#[]⟩, 1⟩, ⟨1, ⟨#[]⟩, 3⟩]
def oneT : Tm := .mk ⟨3, ⟨#[102]⟩, 3⟩ [.mk ⟨1, ⟨#[]⟩, 3⟩ [], .mk ⟨3, ⟨#[103]⟩, 1⟩ [.mk ⟨1, ⟨#[]⟩, 1⟩ []], .mk ⟨1, ⟨#[]⟩, 3⟩ []]
theorem one_right : rightB oneL = true := by decide +kernel
theorem one_flat : oneT.flat = oneL := by simp [oneT, Tm.flat, flats, oneL]
theorem one_ok : oneT.ok := by simp [oneT, Tm.ok, oks]; decide +kernel
theorem one_depth : oneT.depth = 3 := by simp [oneT, Tm.depth, depths]
theorem one_parts : partsL oneL = [[⟨1, ⟨#[]⟩, 3⟩], [⟨3, ⟨#[103]⟩, 1⟩, ⟨1, ⟨#[]⟩, 1⟩], [⟨1, ⟨#[]⟩, 3⟩]] := by decide +kernel
theorem one_vars : varsL oneL = [3, 1] := by decide +kernel
theorem one_num : numL oneL = [⟨3, ⟨#[102]⟩, 3⟩, ⟨1, ⟨#[]⟩, 0⟩, ⟨3, ⟨#[103]⟩, 1⟩, ⟨1, ⟨#[]⟩, 1⟩, ⟨1, ⟨#[]⟩, 0⟩] := by decide +kernel
theorem one_shift : shiftL oneL 2 = [⟨3, ⟨#[102]⟩, 3⟩, ⟨1, ⟨#[]⟩, 5⟩, ⟨3, ⟨#[103]⟩, 1⟩, ⟨1, ⟨#[]⟩, 3⟩, ⟨1, ⟨#[]⟩, 5⟩] := by decide +kernel
theorem one_shift997 : shiftL oneL 997 = [] := by decide +kernel
theorem one_cut : rightB [⟨3, ⟨#[102]⟩, 3⟩, ⟨1, ⟨#[]⟩, 3⟩, ⟨3, ⟨#[103]⟩, 1⟩, ⟨1, ⟨#[]⟩, 1⟩] = false := by decide +kernel
theorem nil_right : rightB [] = false := by decide +kernel
theorem one_ground : groundB oneL = false := by decide +kernel
theorem make_a : makeL ⟨#[97]⟩ [] = [⟨3, ⟨#[97]⟩, 0⟩] := by decide +kernel
theorem make_none : makeL ⟨#[]⟩ [] = [] := by decide +kernel
theorem comp_a7 : compP [⟨3, ⟨#[97]⟩, 0⟩] [⟨2, ⟨#[]⟩, 7⟩] = 1 := by decide +kernel
theorem comp_77 : compP [⟨2, ⟨#[]⟩, 7⟩] [⟨2, ⟨#[]⟩, 7⟩] = 0 := by decide +kernel
theorem ground_a : groundB [⟨3, ⟨#[97]⟩, 0⟩] = true := by decide +kernel

end Go.Proofs.Ytnpffificfghpaa
namespace Go.Proofs.Ytnpffificfghpaa
open Go.RowKit

theorem later_of {w0 : World} {x : Later w0} {w' : World} (h : Below x.w'.heap.size x.w' w') : ∃ y : Later w0, w' = y.w' := ⟨⟨w', x.ok.then h⟩, rfl⟩
theorem later_first {w0 w' : World} (h : Below w0.heap.size w0 w') : ∃ y : Later w0, w' = y.w' := ⟨⟨w', h⟩, rfl⟩
theorem nilRow {α : Type} [Rep α] (w : World) : Row w none 0 ([] : List α) := Row.empty _ _ _ (by omega) (fun _ => rfl)

section lit
variable {n : Nat} {xs : List Cel} {a : Option Addr} {cap : Nat} {w : World}
theorem right_lit (hn : n = xs.length) (hr : Row w a cap xs) {b : Bool} (hb : rightB xs = b) :
    Calls Try.prog 107 #[.slice a n cap] w fun e w' => e = .returned (.bool b) ∧ Below w.heap.size w w' := by
  subst hn; subst hb; exact right_any a cap w xs hr
theorem parts_lit (hn : n = xs.length) (hr : Row w a cap xs) (hb : rightB xs = true) {m : Nat} {ps : List (List Cel)} (hp : partsL xs = ps) (hm : m = ps.length) :
    Calls Try.prog 208 #[.slice a n cap] w fun e w' => ∃ a' cap', e = .returned (.slice a' m cap') ∧ Row w' a' cap' ps ∧ Below w.heap.size w w' := by
  subst hn; subst hm; subst hp; exact parts_any a cap w xs hr hb
theorem vars_lit (hn : n = xs.length) (hr : Row w a cap xs) (hl : xs.length ≤ 1000000) {m : Nat} {ps : List Int} (hp : varsL xs = ps) (hm : m = ps.length) :
    Calls Try.prog 182 #[.slice a n cap] w fun e w' => ∃ a' cap', e = .returned (.slice a' m cap') ∧ Row w' a' cap' ps ∧ Below w.heap.size w w' := by
  subst hn; subst hm; subst hp; exact vars_any a cap w xs hr hl
theorem ground_lit (hn : n = xs.length) (hr : Row w a cap xs) {b : Bool} (hb : groundB xs = b) :
    Calls Try.prog 140 #[.slice a n cap] w fun e w' => e = .returned (.bool b) ∧ Below w.heap.size w w' := by
  subst hn; subst hb; exact ground_any a cap w xs hr
theorem compare_lit {m : Nat} {ys : List Cel} {a' : Option Addr} {cap' : Nat} (hn : n = xs.length) (hr : Row w a cap xs) (hm : m = ys.length) (hr' : Row w a' cap' ys) {d : Int} (hd : compP xs ys = d) :
    Calls Try.prog 142 #[.slice a n cap, .slice a' m cap'] w fun e w' => e = .returned (.int .i64 d) ∧ Below w.heap.size w w' := by
  subst hn; subst hm; subst hd; exact compare_any a cap a' cap' w xs ys hr hr'
theorem same_lit {m : Nat} {ys : List Cel} {a' : Option Addr} {cap' : Nat} (hn : n = xs.length) (hr : Row w a cap xs) (hm : m = ys.length) (hr' : Row w a' cap' ys) {d : Bool} (hd : decide (xs = ys) = d) :
    Calls Try.prog 156 #[.slice a n cap, .slice a' m cap'] w fun e w' => e = .returned (.bool d) ∧ Below w.heap.size w w' := by
  subst hn; subst hm; subst hd; exact same_any a cap a' cap' w xs ys hr hr'
theorem depth_lit {t : Tm} (hx : t.flat = xs) (ht : t.ok) (hn : n = xs.length) (hl : xs.length ≤ 200) (hr : Row w a cap xs) {d : Nat} (hd : t.depth = d) :
    Calls Try.prog 141 #[.slice a n cap] w fun e w' => e = .returned (.int .i64 d) ∧ Below w.heap.size w w' := by
  subst hn; subst hx; subst hd; exact depth_any t ht hl a cap w hr
end lit

end Go.Proofs.Ytnpffificfghpaa
namespace Go.Proofs.Ytnpffificfghpaa
open Go.RowKit

theorem flatten_flat (ts : List Tm) : (ts.map Tm.flat).flatten = flats ts := by
  induction ts with
  | nil => rfl
  | cons t ts ih => simp [flats, ih]
theorem args_right {t : Tm} (h : t.ok) (h200 : t.flat.length ≤ 200) {k : Nat} (hk : k < t.args.length) : rightB t.args[k].flat = true := by
  have hs := flat_arg_lt (List.getElem_mem hk)
  exact right_flat (oks_mem ((ok_iff t).1 h).2.2 _ (List.getElem_mem hk)) (by omega)
theorem make_flat {t : Tm} (h : t.ok) (h200 : t.flat.length ≤ 200) (h3 : t.hd.k = 3) : makeL t.hd.s (t.args.map Tm.flat) = t.flat := by
  have h' := (ok_iff t).1 h
  have hm : madeL t.hd.s (t.args.map Tm.flat) = t.flat := by
    unfold madeL
    rw [flatten_flat, flat_cons, List.length_map]
    congr 1
    have hn := arI_ar h'.1
    rw [← h'.2.1] at hn
    unfold arI at hn
    rw [if_pos h3] at hn
    exact (Cel.eq_iff _ _).2 ⟨h3.symm, rfl, hn.symm⟩
  unfold makeL
  rw [hm, if_pos]
  rw [Bool.and_eq_true, List.all_eq_true]
  refine ⟨fun p hp => ?_, right_flat h h200⟩
  obtain ⟨u, hu, rfl⟩ := List.mem_map.1 hp
  obtain ⟨k, hk, rfl⟩ := List.getElem_of_mem hu
  exact args_right h h200 hk
theorem flat_take_le (t : Tm) (k : Nat) : (flats (t.args.take k)).length + 1 ≤ t.flat.length := by
  have hs : t.args = t.args.take k ++ t.args.drop k := (List.take_append_drop _ _).symm
  have := congrArg List.length (congrArg flats hs)
  rw [flats_append, List.length_append] at this
  rw [flat_cons t, List.length_cons]; omega

end Go.Proofs.Ytnpffificfghpaa
namespace Go.Proofs.Ytnpffificfghpaa
open Go.RowKit

theorem depth_one (t : Tm) : t.depth = 1 ↔ t.flat.length = 1 := by
  rw [depth_eq, flat_cons, List.length_cons]
  cases h : t.args with
  | nil => simp [depths, flats]
  | cons u ts =>
    have h1 := depth_pos u
    have h2 := flat_pos u
    simp only [depths, flats, List.length_append]; omega

theorem varsGo_append (a b : List Cel) : ∀ acc : List Int, varsGo acc (a ++ b) = varsGo (varsGo acc a) b := by
  induction a with
  | nil => intro acc; rfl
  | cons c a ih => intro acc; simp only [List.cons_append, varsGo]; exact ih _
def addL (acc : List Int) : List Int → List Int
  | [] => acc
  | n :: l => addL (if n ∈ acc then acc else acc ++ [n]) l
theorem addL_append (a b : List Int) : ∀ acc : List Int, addL acc (a ++ b) = addL (addL acc a) b := by
  induction a with
  | nil => intro acc; rfl
  | cons c a ih => intro acc; simp only [List.cons_append, addL]; exact ih _
theorem mem_addL (l : List Int) : ∀ (acc : List Int) (n : Int), n ∈ addL acc l ↔ n ∈ acc ∨ n ∈ l := by
  induction l with
  | nil => intro acc n; simp [addL]
  | cons m l ih =>
    intro acc n
    simp only [addL]
    rw [ih, List.mem_cons]
    by_cases hm : m ∈ acc
    · rw [if_pos hm]
      constructor
      · rintro (h | h)
        · exact .inl h
        · exact .inr (.inr h)
      · rintro (h | rfl | h)
        · exact .inl h
        · exact .inl hm
        · exact .inr h
    · rw [if_neg hm, List.mem_append, List.mem_singleton]
      constructor
      · rintro ((h | h) | h)
        · exact .inl h
        · exact .inr (.inl h)
        · exact .inr (.inr h)
      · rintro (h | h | h)
        · exact .inl (.inl h)
        · exact .inl (.inr h)
        · exact .inr h
theorem addL_vars (p : List Cel) : ∀ acc b : List Int, addL acc (varsGo b p) = varsGo (addL acc b) p := by
  induction p with
  | nil => intro acc b; rfl
  | cons c p ih =>
    intro acc b
    simp only [varsGo]
    rw [ih]
    congr 1
    by_cases h1 : c.k = 1
    · by_cases h2 : c.n ∈ b
      · rw [if_neg (by simp [h2]), if_neg]
        intro h; exact h.2 ((mem_addL _ _ _).2 (.inr h2))
      · rw [if_pos ⟨h1, h2⟩, addL_append]
        simp only [addL]
        by_cases h3 : c.n ∈ addL acc b
        · rw [if_pos h3, if_neg (fun h => h.2 h3)]
        · rw [if_neg h3, if_pos ⟨h1, h3⟩]
    · rw [if_neg (fun h => h1 h.1), if_neg (fun h => h1 h.1)]
theorem addL_step (acc l : List Int) {k : Nat} (hk : k < l.length) : addL acc (l.drop k) = addL (if l[k] ∈ acc then acc else acc ++ [l[k]]) (l.drop (k + 1)) := by
  rw [List.drop_eq_getElem_cons hk]; rfl
theorem vars_arg (t : Tm) {k : Nat} (hk : k < t.args.length) : varsGo [] (flats (t.args.take (k + 1))) = addL (varsGo [] (flats (t.args.take k))) (varsL t.args[k].flat) := by
  rw [List.take_succ_eq_append_getElem hk, flats_append, varsGo_append]
  simp only [flats, List.append_nil]
  unfold varsL
  rw [addL_vars]; rfl
theorem vars_hd {t : Tm} (h : ¬ t.hd.k = 1) : varsL t.flat = varsGo [] (flats t.args) := by
  unfold varsL
  rw [flat_cons]
  simp only [varsGo]
  rw [if_neg (fun h' => h h'.1)]
end Go.Proofs.Ytnpffificfghpaa
namespace Go.Proofs.Ytnpffificfghpaa
open Go.RowKit

theorem comp_prefix (xs : List Cel) : ∀ ys : List Cel, compP xs ys = compR xs ys ∨ (∃ z zs, ys = xs ++ z :: zs) ∨ (∃ z zs, xs = ys ++ z :: zs) := by
  induction xs with
  | nil => intro ys; cases ys with
    | nil => exact .inl rfl
    | cons y ys => exact .inr (.inl ⟨y, ys, rfl⟩)
  | cons x xs ih => intro ys; cases ys with
    | nil => exact .inr (.inr ⟨x, xs, rfl⟩)
    | cons y ys =>
      by_cases e : x = y
      · subst e
        rcases ih ys with h | ⟨z, zs, h⟩ | ⟨z, zs, h⟩
        · exact .inl (by simp [compP, compR, h])
        · exact .inr (.inl ⟨z, zs, by rw [h]; rfl⟩)
        · exact .inr (.inr ⟨z, zs, by rw [h]; rfl⟩)
      · exact .inl (by simp [compP, compR, e])
theorem right_prefix {xs : List Cel} {z : Cel} {zs : List Cel} (h : rightB xs = true) (h2 : rightB (xs ++ z :: zs) = true) : False := by
  obtain ⟨t, ht, rfl, _⟩ := right_tm h
  obtain ⟨u, hu, e, _⟩ := right_tm h2
  have h1 := sk_flat t ht 0 (z :: zs)
  have h3 := sk_flat u hu 0 []
  rw [List.append_nil, ← e, h1] at h3
  simp [sk] at h3
theorem comp_right {xs ys : List Cel} (h : rightB xs = true) (h2 : rightB ys = true) : compP xs ys = compR xs ys := by
  rcases comp_prefix xs ys with h' | ⟨z, zs, rfl⟩ | ⟨z, zs, rfl⟩
  · exact h'
  · exact (right_prefix h h2).elim
  · exact (right_prefix h2 h).elim

section lit
variable {n m : Nat} {a : Option Addr} {cap : Nat} {a' : Option Addr} {cap' : Nat} {w : World}
theorem refright_lit {xs : List Cel} (hn : n = xs.length) (hr : Row w a cap xs) {b : Bool} (hb : rightB xs = b) :
    Calls Try.prog 49 #[.slice a n cap] w fun e w' => e = .returned (.bool b) ∧ Below w.heap.size w w' := by
  subst hn; subst hb; exact refright_any a cap w xs hr
theorem refsame_lit {xs ys : List Cel} (hn : n = xs.length) (hr : Row w a cap xs) (hm : m = ys.length) (hr' : Row w a' cap' ys) {d : Bool} (hd : decide (xs = ys) = d) :
    Calls Try.prog 60 #[.slice a n cap, .slice a' m cap'] w fun e w' => e = .returned (.bool d) ∧ Below w.heap.size w w' := by
  subst hn; subst hm; subst hd; exact refsame_any a cap a' cap' w xs ys hr hr'
theorem sameall_lit {xs ys : List (List Cel)} (hn : n = xs.length) (hr : Row w a cap xs) (hm : m = ys.length) (hr' : Row w a' cap' ys) {d : Bool} (hd : decide (xs = ys) = d) :
    Calls Try.prog 27 #[.slice a n cap, .slice a' m cap'] w fun e w' => e = .returned (.bool d) ∧ Below w.heap.size w w' := by
  subst hn; subst hm; subst hd; exact sameall_any a cap a' cap' w xs ys hr hr'
end lit

end Go.Proofs.Ytnpffificfghpaa
namespace Go.Proofs.Ytnpffificfghpaa
open Go.RowKit

/-- a way of comparing that is an order -/
structure CmpOk {α : Type} (f : α → α → Int) : Prop where
  range : ∀ x y, f x y = -1 ∨ f x y = 0 ∨ f x y = 1
  neg : ∀ x y, f y x = -(f x y)
  zero : ∀ x y, f x y = 0 ↔ x = y
  trans : ∀ x y z, f x y ≤ 0 → f y z ≤ 0 → f x z ≤ 0
theorem CmpOk.self {α : Type} {f : α → α → Int} (h : CmpOk f) (x : α) : f x x = 0 := (h.zero x x).2 rfl
theorem CmpOk.lt_le {α : Type} {f : α → α → Int} (h : CmpOk f) {x y z : α} (h1 : f x y < 0) (h2 : f y z ≤ 0) : f x z < 0 := by
  have h3 := h.trans x y z (by omega) h2
  by_cases e : f x z = 0
  · have := (h.zero x z).1 e
    subst this
    have := h.neg x y
    omega
  · omega
theorem CmpOk.le_lt {α : Type} {f : α → α → Int} (h : CmpOk f) {x y z : α} (h1 : f x y ≤ 0) (h2 : f y z < 0) : f x z < 0 := by
  have h3 := h.trans x y z h1 (by omega)
  by_cases e : f x z = 0
  · have := (h.zero x z).1 e
    subst this
    have := h.neg x y
    omega
  · omega

theorem cmpI_ok : CmpOk cmpI := by
  constructor
  · intro x y; unfold cmpI; split
    · exact .inl rfl
    · split
      · exact .inr (.inr rfl)
      · exact .inr (.inl rfl)
  · intro x y; unfold cmpI; split <;> split <;> (try split) <;> omega
  · intro x y; unfold cmpI; split
    · constructor <;> intro h <;> omega
    · split <;> constructor <;> intro h <;> omega
  · intro x y z; unfold cmpI; split <;> split <;> split <;> (try split) <;> (try split) <;> omega

theorem bl_nat (a b : UInt8) : (a < b) ↔ a.toNat < b.toNat := UInt8.lt_iff_toNat_lt
theorem bl_eq (a b : UInt8) : a = b ↔ a.toNat = b.toNat := ⟨fun h => by rw [h], fun h => UInt8.toNat_inj.1 h⟩
theorem bl_cons (a b : UInt8) (x y : List UInt8) : Op.bytesLess (a :: x) (b :: y) = true ↔ a.toNat < b.toNat ∨ a.toNat = b.toNat ∧ Op.bytesLess x y = true := by
  simp [Op.bytesLess, bl_nat, bl_eq]
theorem bl_total (x : List UInt8) : ∀ y, x = y ∨ Op.bytesLess x y = true ∨ Op.bytesLess y x = true := by
  induction x with
  | nil => intro y; cases y with
    | nil => exact .inl rfl
    | cons b y => exact .inr (.inl rfl)
  | cons a x ih => intro y; cases y with
    | nil => exact .inr (.inr rfl)
    | cons b y =>
      rw [bl_cons, bl_cons]
      rcases Nat.lt_trichotomy a.toNat b.toNat with h | h | h
      · exact .inr (.inl (.inl h))
      · rcases ih y with e | e | e
        · left; rw [e, (bl_eq a b).2 h]
        · exact .inr (.inl (.inr ⟨h, e⟩))
        · exact .inr (.inr (.inr ⟨h.symm, e⟩))
      · exact .inr (.inr (.inl h))
theorem bl_trans (x : List UInt8) : ∀ y z, Op.bytesLess x y = true → Op.bytesLess y z = true → Op.bytesLess x z = true := by
  induction x with
  | nil => intro y z h1 h2; cases z with
    | nil => cases y <;> simp [Op.bytesLess] at h2
    | cons c z => rfl
  | cons a x ih => intro y z h1 h2; cases y with
    | nil => simp [Op.bytesLess] at h1
    | cons b y => cases z with
      | nil => simp [Op.bytesLess] at h2
      | cons c z =>
        rw [bl_cons] at h1 h2 ⊢
        rcases h1 with h1 | ⟨h1, h1'⟩
        · rcases h2 with h2 | ⟨h2, h2'⟩
          · left; omega
          · left; omega
        · rcases h2 with h2 | ⟨h2, h2'⟩
          · left; omega
          · exact .inr ⟨by omega, ih y z h1' h2'⟩
theorem bl_asymm {x y : List UInt8} (h : Op.bytesLess x y = true) : Op.bytesLess y x = false := by
  cases h2 : Op.bytesLess y x with
  | false => rfl
  | true =>
    have := bl_trans x y x h h2
    rw [bytesLess_irrefl] at this; cases this
theorem cmpS_cases (s t : ByteArray) : (s = t ∧ cmpS s t = 0) ∨ (Op.bytesLess s.toList t.toList = true ∧ cmpS s t = -1) ∨ (Op.bytesLess t.toList s.toList = true ∧ cmpS s t = 1) := by
  rcases bl_total s.toList t.toList with h | h | h
  · left
    have := (toList_inj s t).1 h
    subst this
    exact ⟨rfl, by simp [cmpS, bytesLess_irrefl]⟩
  · right; left; exact ⟨h, by unfold cmpS; rw [if_pos h]⟩
  · right; right
    refine ⟨h, ?_⟩
    unfold cmpS
    rw [if_neg (by rw [bl_asymm h]; simp), if_neg]
    intro e; subst e; rw [bytesLess_irrefl] at h; cases h
theorem cmpS_ok : CmpOk cmpS := by
  constructor
  · intro x y
    rcases cmpS_cases x y with ⟨_, h⟩ | ⟨_, h⟩ | ⟨_, h⟩
    · exact .inr (.inl h)
    · exact .inl h
    · exact .inr (.inr h)
  · intro x y
    rcases cmpS_cases x y with ⟨e, h⟩ | ⟨e, h⟩ | ⟨e, h⟩
    · subst e; rw [h]; rfl
    · rw [h]
      rcases cmpS_cases y x with ⟨e2, h2⟩ | ⟨e2, h2⟩ | ⟨e2, h2⟩
      · subst e2; rw [bytesLess_irrefl] at e; cases e
      · rw [bl_asymm e] at e2; cases e2
      · rw [h2]; rfl
    · rw [h]
      rcases cmpS_cases y x with ⟨e2, h2⟩ | ⟨e2, h2⟩ | ⟨e2, h2⟩
      · subst e2; rw [bytesLess_irrefl] at e; cases e
      · rw [h2]
      · rw [bl_asymm e] at e2; cases e2
  · intro x y
    rcases cmpS_cases x y with ⟨e, h⟩ | ⟨e, h⟩ | ⟨e, h⟩
    · exact ⟨fun _ => e, fun _ => h⟩
    · refine ⟨fun h' => by omega, fun e2 => ?_⟩
      subst e2; rw [bytesLess_irrefl] at e; cases e
    · refine ⟨fun h' => by omega, fun e2 => ?_⟩
      subst e2; rw [bytesLess_irrefl] at e; cases e
  · intro x y z h1 h2
    rcases cmpS_cases x y with ⟨e, h⟩ | ⟨e, h⟩ | ⟨e, h⟩
    · subst e; exact h2
    · rcases cmpS_cases y z with ⟨e2, h'⟩ | ⟨e2, h'⟩ | ⟨e2, h'⟩
      · subst e2; exact h1
      · have := bl_trans _ _ _ e e2
        unfold cmpS; rw [if_pos this]; omega
      · omega
    · omega

theorem cellCmp_ok : CmpOk cellCmp := by
  constructor
  · intro x y; unfold cellCmp
    split
    · split
      · exact cmpS_ok.range _ _
      · exact cmpI_ok.range _ _
    · exact cmpI_ok.range _ _
  · intro x y; unfold cellCmp
    by_cases h1 : x.k = y.k
    · rw [if_pos h1, if_pos h1.symm]
      by_cases h2 : x.n = y.n
      · rw [if_pos h2, if_pos h2.symm]; exact cmpS_ok.neg _ _
      · rw [if_neg h2, if_neg (fun h => h2 h.symm)]; exact cmpI_ok.neg _ _
    · rw [if_neg h1, if_neg (fun h => h1 h.symm)]; exact cmpI_ok.neg _ _
  · intro x y; unfold cellCmp
    rw [Cel.eq_iff]
    split
    · rename_i h1
      split
      · rename_i h2
        rw [cmpS_ok.zero]; exact ⟨fun h => ⟨h1, h, h2⟩, fun h => h.2.1⟩
      · rename_i h2
        rw [cmpI_ok.zero]; exact ⟨fun h => absurd h h2, fun h => h.2.2⟩
    · rename_i h1
      rw [cmpI_ok.zero]; exact ⟨fun h => absurd h h1, fun h => h.1⟩
  · intro x y z
    unfold cellCmp
    by_cases h1 : x.k = y.k
    · rw [if_pos h1]
      by_cases h2 : y.k = z.k
      · rw [if_pos h2, if_pos (h1.trans h2)]
        by_cases h3 : x.n = y.n
        · rw [if_pos h3]
          by_cases h4 : y.n = z.n
          · rw [if_pos h4, if_pos (h3.trans h4)]; exact cmpS_ok.trans _ _ _
          · have h9 : ¬ x.n = z.n := by rw [h3]; exact h4
            rw [if_neg h4, if_neg h9, h3]; intro _ h; exact h
        · rw [if_neg h3]
          by_cases h4 : y.n = z.n
          · have h9 : ¬ x.n = z.n := by rw [← h4]; exact h3
            rw [if_pos h4, if_neg h9, ← h4]; intro h _; exact h
          · rw [if_neg h4]
            intro h5 h6
            have h7 := cmpI_ok.trans _ _ _ h5 h6
            by_cases h8 : x.n = z.n
            · exfalso
              have e := cmpI_ok.neg x.n y.n
              rw [← h8] at h6
              have := mt (cmpI_ok.zero x.n y.n).1 h3
              omega
            · rw [if_neg h8]; exact h7
      · have h9 : ¬ x.k = z.k := by rw [h1]; exact h2
        rw [if_neg h2, if_neg h9, h1]; intro _ h; exact h
    · rw [if_neg h1]
      by_cases h2 : y.k = z.k
      · have h9 : ¬ x.k = z.k := by rw [← h2]; exact h1
        rw [if_pos h2, if_neg h9, ← h2]; intro h _; exact h
      · rw [if_neg h2]
        intro h5 h6
        have h7 := cmpI_ok.trans _ _ _ h5 h6
        by_cases h8 : x.k = z.k
        · exfalso
          have e := cmpI_ok.neg x.k y.k
          rw [← h8] at h6
          have := mt (cmpI_ok.zero x.k y.k).1 h1
          omega
        · rw [if_neg h8]; exact h7

theorem compP_ok : CmpOk compP := by
  constructor
  · intro x
    induction x with
    | nil => intro y; cases y with
      | nil => exact .inr (.inl rfl)
      | cons b y => exact .inl rfl
    | cons a x ih => intro y; cases y with
      | nil => exact .inr (.inr rfl)
      | cons b y =>
        simp only [compP]; split
        · exact ih y
        · exact cellCmp_ok.range _ _
  · intro x
    induction x with
    | nil => intro y; cases y <;> rfl
    | cons a x ih => intro y; cases y with
      | nil => rfl
      | cons b y =>
        simp only [compP]
        by_cases h : a = b
        · rw [if_pos h, if_pos h.symm]; exact ih y
        · rw [if_neg h, if_neg (fun e => h e.symm)]; exact cellCmp_ok.neg _ _
  · intro x
    induction x with
    | nil => intro y; cases y with
      | nil => simp [compP]
      | cons b y => simp [compP]
    | cons a x ih => intro y; cases y with
      | nil => simp [compP]
      | cons b y =>
        simp only [compP]
        by_cases h : a = b
        · rw [if_pos h, ih y]; simp [h]
        · rw [if_neg h, cellCmp_ok.zero]; simp [h]
  · intro x
    induction x with
    | nil => intro y z _ _; cases z <;> simp [compP]
    | cons a x ih => intro y z; cases y with
      | nil => simp [compP]
      | cons b y => cases z with
        | nil => simp [compP]
        | cons c z =>
          simp only [compP]
          by_cases h1 : a = b
          · rw [if_pos h1]
            by_cases h2 : b = c
            · rw [if_pos h2, if_pos (h1.trans h2)]; exact ih y z
            · have h9 : ¬ a = c := by rw [h1]; exact h2
              rw [if_neg h2, if_neg h9, h1]; intro _ h; exact h
          · rw [if_neg h1]
            by_cases h2 : b = c
            · have h9 : ¬ a = c := by rw [← h2]; exact h1
              rw [if_pos h2, if_neg h9, ← h2]; intro h _; exact h
            · rw [if_neg h2]
              intro h5 h6
              have h7 := cellCmp_ok.trans _ _ _ h5 h6
              by_cases h8 : a = c
              · exfalso
                have e := cellCmp_ok.neg a b
                rw [← h8] at h6
                have := mt (cellCmp_ok.zero a b).1 h1
                omega
              · rw [if_neg h8]; exact h7
end Go.Proofs.Ytnpffificfghpaa
namespace Go.Proofs.Ytnpffificfghpaa
open Go.RowKit

/-! ### the plain model of package facts -/
theorem getD_atF {l : List (List Cel)} {k : Nat} (hk : k < l.length) : l.getD k [] = l[k] := by
  rw [List.getD_eq_getElem?_getD, List.getElem?_eq_getElem hk]; rfl
theorem take_memF {l : List (List Cel)} {k i : Nat} (hi : i < l.length) (hk : i < k) : l[i] ∈ l.take k := by
  have : (l.take k)[i]? = some l[i] := by rw [List.getElem?_take_of_lt hk, List.getElem?_eq_getElem hi]
  exact List.mem_of_getElem? this
theorem drop_memF {l : List (List Cel)} {k i : Nat} (hi : i < l.length) (hk : k ≤ i) : l[i] ∈ l.drop k := by
  have : (l.drop k)[i - k]? = some l[i] := by rw [List.getElem?_drop, show k + (i - k) = i by omega, List.getElem?_eq_getElem hi]
  exact List.mem_of_getElem? this
mutual
theorem tm_det : ∀ (t u : Tm) (r r' : List Cel), t.ok → u.ok → t.flat ++ r = u.flat ++ r' → t = u ∧ r = r'
  | .mk c ts, .mk d us, r, r', h, k, e => by
    simp only [Tm.flat, List.cons_append, List.cons.injEq] at e
    obtain ⟨rfl, e⟩ := e
    have hl : ts.length = us.length := h.2.1.trans k.2.1.symm
    obtain ⟨rfl, e2⟩ := tms_det ts us r r' h.2.2 k.2.2 hl e
    exact ⟨rfl, e2⟩
theorem tms_det : ∀ (ts us : List Tm) (r r' : List Cel), oks ts → oks us → ts.length = us.length → flats ts ++ r = flats us ++ r' → ts = us ∧ r = r'
  | [], [], r, r', _, _, _, e => ⟨rfl, by simpa [flats] using e⟩
  | t :: ts, u :: us, r, r', h, k, hl, e => by
    simp only [flats, List.append_assoc] at e
    obtain ⟨rfl, e2⟩ := tm_det t u _ _ h.1 k.1 e
    obtain ⟨rfl, e3⟩ := tms_det ts us r r' h.2 k.2 (by simpa using hl) e2
    exact ⟨rfl, e3⟩
end
open Classical in
/-- how deep cells are, as a term -/
noncomputable def depthL (xs : List Cel) : Nat := if h : ∃ t : Tm, t.ok ∧ t.flat = xs then h.choose.depth else 0
theorem depthL_flat {t : Tm} (h : t.ok) : depthL t.flat = t.depth := by
  have hx : ∃ u : Tm, u.ok ∧ u.flat = t.flat := ⟨t, h, rfl⟩
  unfold depthL
  rw [dif_pos hx]
  have hc := hx.choose_spec
  rw [(tm_det hx.choose t [] [] hc.1 h (by rw [hc.2])).1]
/-- cells that begin with a name -/
def funB : List Cel → Bool
  | c :: _ => decide (c.k = 3)
  | [] => false
/-- a fact -/
noncomputable def factB (xs : List Cel) : Bool := rightB xs && funB xs && groundB xs && decide (depthL xs ≤ 12)
theorem fact_right {xs : List Cel} (h : factB xs = true) : rightB xs = true := by
  unfold factB at h; simp only [Bool.and_eq_true] at h; exact h.1.1.1
theorem fact_fun {xs : List Cel} (h : factB xs = true) : funB xs = true := by
  unfold factB at h; simp only [Bool.and_eq_true] at h; exact h.1.1.2
theorem fact_ground {xs : List Cel} (h : factB xs = true) : groundB xs = true := by
  unfold factB at h; simp only [Bool.and_eq_true] at h; exact h.1.2
theorem fact_flat {t : Tm} (h : t.ok) (h200 : t.flat.length ≤ 200) (hf : t.hd.k = 3) (hg : groundB t.flat = true) (hd : t.depth ≤ 12) : factB t.flat = true := by
  unfold factB
  rw [right_flat h h200, hg, depthL_flat h, decide_eq_true hd]
  rw [flat_cons]
  simp [funB, hf]
/-- the k-th fact of a row stands as it should -/
noncomputable def standB (l : List (List Cel)) (k : Nat) : Bool := factB (l.getD k []) && (decide (k = 0) || decide (compP (l.getD (k - 1) []) (l.getD k []) < 0))
/-- a row of facts that may be -/
noncomputable def frightB (l : List (List Cel)) : Bool := decide (l.length ≤ 512) && (List.range l.length).all (standB l)
structure FR (l : List (List Cel)) : Prop where
  len : l.length ≤ 512
  all : ∀ x ∈ l, factB x = true
  rise : l.Pairwise fun x y => compP x y < 0
theorem pair_of_next : ∀ (l : List (List Cel)), (∀ k, k + 1 < l.length → compP (l.getD k []) (l.getD (k + 1) []) < 0) → l.Pairwise fun x y => compP x y < 0
  | [], _ => List.Pairwise.nil
  | [x], _ => by simp
  | x :: y :: l, h => by
    have h0 := h 0 (by simp)
    simp at h0
    have hr := pair_of_next (y :: l) (fun k hk => by have := h (k + 1) (by simpa using hk); simpa using this)
    refine List.pairwise_cons.2 ⟨fun z hz => ?_, hr⟩
    rcases List.mem_cons.1 hz with rfl | hz
    · exact h0
    · exact compP_ok.lt_le h0 (Int.le_of_lt ((List.pairwise_cons.1 hr).1 z hz))
theorem fright_iff {l : List (List Cel)} : frightB l = true ↔ FR l := by
  unfold frightB standB
  simp only [Bool.and_eq_true, decide_eq_true_eq, List.all_eq_true, List.mem_range, Bool.or_eq_true]
  constructor
  · rintro ⟨h1, h2⟩
    refine ⟨h1, fun x hx => ?_, pair_of_next l fun k hk => ?_⟩
    · obtain ⟨i, hi, rfl⟩ := List.getElem_of_mem hx
      have := (h2 i hi).1
      rwa [getD_atF hi] at this
    · have := (h2 (k + 1) hk).2
      simpa using this
  · rintro ⟨h1, h2, h3⟩
    refine ⟨h1, fun k hk => ⟨?_, ?_⟩⟩
    · rw [getD_atF hk]; exact h2 _ (List.getElem_mem hk)
    · by_cases h0 : k = 0
      · exact .inl h0
      · right
        rw [getD_atF hk, getD_atF (by omega)]
        exact List.pairwise_iff_getElem.1 h3 (k - 1) k (by omega) hk (by omega)
theorem fright_no {l : List (List Cel)} (h : ¬ FR l) : frightB l = false := by
  cases hb : frightB l with
  | false => rfl
  | true => exact absurd (fright_iff.1 hb) h
/-- put in its place -/
def insF (t : List Cel) : List (List Cel) → List (List Cel)
  | [] => [t]
  | x :: l => if compP t x < 0 then t :: x :: l else x :: insF t l
/-- how many stand ahead of it -/
def posF (t : List Cel) (l : List (List Cel)) : Nat := l.countP fun x => decide (compP x t < 0)
theorem comp_lt_iff {x y : List Cel} : compP x y < 0 ↔ 0 < compP y x := by
  have := compP_ok.neg x y
  omega
theorem FR.tail {x : List Cel} {l : List (List Cel)} (h : FR (x :: l)) : FR l :=
  ⟨by have := h.len; simp at this; omega, fun y hy => h.all y (List.mem_cons_of_mem _ hy), (List.pairwise_cons.1 h.rise).2⟩
theorem FR.hd {x : List Cel} {l : List (List Cel)} (h : FR (x :: l)) : ∀ y ∈ l, compP x y < 0 := (List.pairwise_cons.1 h.rise).1
theorem FR.filter {l : List (List Cel)} (h : FR l) (p : List Cel → Bool) : FR (l.filter p) :=
  ⟨Nat.le_trans (List.length_filter_le _ _) h.len, fun x hx => h.all x (List.mem_filter.1 hx).1, h.rise.filter p⟩
theorem FR.sub {l k : List (List Cel)} (h : FR l) (hs : k.Sublist l) : FR k :=
  ⟨Nat.le_trans hs.length_le h.len, fun x hx => h.all x (hs.subset hx), h.rise.sublist hs⟩
theorem posF_none {t : List Cel} {l : List (List Cel)} (h : ∀ y ∈ l, 0 ≤ compP y t) : posF t l = 0 := by
  unfold posF
  rw [List.countP_eq_zero]
  intro a ha
  have := h a ha
  simp; omega
/-- what stands ahead of a place is smaller, what stands behind it is not -/
theorem pos_split {t : List Cel} : ∀ {l : List (List Cel)}, l.Pairwise (fun x y => compP x y < 0) → (∀ x ∈ l.take (posF t l), compP x t < 0) ∧ (∀ x ∈ l.drop (posF t l), 0 ≤ compP x t)
  | [], _ => by simp
  | x :: l, h => by
    obtain ⟨h1, h2⟩ := List.pairwise_cons.1 h
    by_cases hx : compP x t < 0
    · have hp : posF t (x :: l) = posF t l + 1 := by unfold posF; rw [List.countP_cons_of_pos (by simpa using hx)]
      rw [hp]
      obtain ⟨i1, i2⟩ := pos_split (t := t) h2
      refine ⟨fun y hy => ?_, i2⟩
      rcases List.mem_cons.1 hy with rfl | hy
      · exact hx
      · exact i1 y hy
    · have hp : posF t (x :: l) = 0 := posF_none fun y hy => by
        rcases List.mem_cons.1 hy with rfl | hy
        · omega
        · have := h1 y hy
          by_cases hc : compP y t < 0
          · exact absurd (compP_ok.lt_le this (Int.le_of_lt hc)) hx
          · omega
      rw [hp]
      refine ⟨by simp, fun y hy => ?_⟩
      rw [List.drop_zero] at hy
      rcases List.mem_cons.1 hy with rfl | hy
      · omega
      · have := h1 y hy
        by_cases hc : compP y t < 0
        · exact absurd (compP_ok.lt_le this (Int.le_of_lt hc)) hx
        · omega
theorem pos_le (t : List Cel) (l : List (List Cel)) : posF t l ≤ l.length := List.countP_le_length
/-- it is there just if it stands at its place -/
theorem pos_mem {t : List Cel} {l : List (List Cel)} (h : l.Pairwise (fun x y => compP x y < 0)) : t ∈ l ↔ ∃ hk : posF t l < l.length, l[posF t l] = t := by
  constructor
  · intro ht
    obtain ⟨h1, h2⟩ := pos_split (t := t) h
    obtain ⟨i, hi, e⟩ := List.getElem_of_mem ht
    have hge : ¬ i < posF t l := fun hlt => by
      have := h1 t (by have hm := take_memF hi hlt; rw [e] at hm; exact hm)
      rw [compP_ok.self] at this; omega
    by_cases hi2 : i = posF t l
    · subst hi2; exact ⟨hi, e⟩
    · exfalso
      have hk : posF t l < l.length := by omega
      have a1 := List.pairwise_iff_getElem.1 h (posF t l) i hk hi (by omega)
      rw [e] at a1
      have a2 := h2 l[posF t l] (drop_memF hk (Nat.le_refl _))
      omega
  · rintro ⟨hk, e⟩
    rw [← e]; exact List.getElem_mem hk
/-- put in at its place -/
theorem ins_pos {t : List Cel} : ∀ {l : List (List Cel)}, l.Pairwise (fun x y => compP x y < 0) → t ∉ l → insF t l = l.take (posF t l) ++ t :: l.drop (posF t l)
  | [], _, _ => by simp [insF, posF]
  | x :: l, h, ht => by
    obtain ⟨h1, h2⟩ := List.pairwise_cons.1 h
    simp only [List.mem_cons, not_or] at ht
    unfold insF
    by_cases hx : compP t x < 0
    · rw [if_pos hx]
      have hp : posF t (x :: l) = 0 := posF_none fun y hy => by
        rcases List.mem_cons.1 hy with rfl | hy
        · have := comp_lt_iff.1 hx; omega
        · have := comp_lt_iff.1 (compP_ok.lt_le hx (Int.le_of_lt (h1 y hy))); omega
      rw [hp]; rfl
    · rw [if_neg hx]
      have hx2 : compP x t < 0 := by
        have h0 : ¬ compP t x = 0 := fun e => ht.1 ((compP_ok.zero t x).1 e)
        exact comp_lt_iff.2 (by omega)
      have hp : posF t (x :: l) = posF t l + 1 := by unfold posF; rw [List.countP_cons_of_pos (by simpa using hx2)]
      rw [hp, ins_pos h2 ht.2]; rfl
theorem mem_ins {t y : List Cel} : ∀ {l : List (List Cel)}, y ∈ insF t l ↔ y = t ∨ y ∈ l
  | [] => by simp [insF]
  | x :: l => by
    unfold insF
    split
    · simp
    · rw [List.mem_cons, mem_ins (l := l), List.mem_cons]
      constructor
      · rintro (h | h | h)
        · exact .inr (.inl h)
        · exact .inl h
        · exact .inr (.inr h)
      · rintro (h | h | h)
        · exact .inr (.inl h)
        · exact .inl h
        · exact .inr (.inr h)
theorem ins_length (t : List Cel) : ∀ l : List (List Cel), (insF t l).length = l.length + 1
  | [] => rfl
  | x :: l => by
    unfold insF
    split
    · rfl
    · simp [ins_length t l]
theorem ins_rise {t : List Cel} : ∀ {l : List (List Cel)}, l.Pairwise (fun x y => compP x y < 0) → t ∉ l → (insF t l).Pairwise (fun x y => compP x y < 0)
  | [], _, _ => by simp [insF]
  | x :: l, h, ht => by
    obtain ⟨h1, h2⟩ := List.pairwise_cons.1 h
    simp only [List.mem_cons, not_or] at ht
    unfold insF
    by_cases hx : compP t x < 0
    · rw [if_pos hx]
      refine List.pairwise_cons.2 ⟨fun y hy => ?_, h⟩
      rcases List.mem_cons.1 hy with rfl | hy
      · exact hx
      · exact compP_ok.lt_le hx (Int.le_of_lt (h1 y hy))
    · rw [if_neg hx]
      have hx2 : compP x t < 0 := by
        have h0 : ¬ compP t x = 0 := fun e => ht.1 ((compP_ok.zero t x).1 e)
        exact comp_lt_iff.2 (by omega)
      refine List.pairwise_cons.2 ⟨fun y hy => ?_, ins_rise h2 ht.2⟩
      rcases mem_ins.1 hy with rfl | hy
      · exact hx2
      · exact h1 y hy
theorem FR.ins {l : List (List Cel)} (h : FR l) {t : List Cel} (ht : factB t = true) (hn : t ∉ l) (hl : l.length < 512) : FR (insF t l) :=
  ⟨by rw [ins_length]; omega, fun x hx => (mem_ins.1 hx).elim (fun e => e ▸ ht) (h.all x), ins_rise h.rise hn⟩
theorem FR.nil : FR [] := ⟨by simp, by simp, List.Pairwise.nil⟩
/-- rows with the same facts are the same -/
theorem rise_ext : ∀ {l m : List (List Cel)}, l.Pairwise (fun x y => compP x y < 0) → m.Pairwise (fun x y => compP x y < 0) → (∀ x, x ∈ l ↔ x ∈ m) → l = m
  | [], [], _, _, _ => rfl
  | [], y :: m, _, _, h => by have := (h y).2 (by simp); simp at this
  | x :: l, [], _, _, h => by have := (h x).1 (by simp); simp at this
  | x :: l, y :: m, h1, h2, h => by
    obtain ⟨a1, a2⟩ := List.pairwise_cons.1 h1
    obtain ⟨b1, b2⟩ := List.pairwise_cons.1 h2
    have exy : x = y := by
      rcases List.mem_cons.1 ((h x).1 (by simp)) with e | e
      · exact e
      · rcases List.mem_cons.1 ((h y).2 (by simp)) with e2 | e2
        · exact e2.symm
        · have u1 := b1 x e
          have u2 := a1 y e2
          have := compP_ok.lt_le u1 (Int.le_of_lt u2)
          rw [compP_ok.self] at this; omega
    subst exy
    rw [rise_ext a2 b2 (fun z => ?_)]
    constructor
    · intro hz
      rcases List.mem_cons.1 ((h z).1 (List.mem_cons_of_mem _ hz)) with e | e
      · subst e; have := a1 z hz; rw [compP_ok.self] at this; omega
      · exact e
    · intro hz
      rcases List.mem_cons.1 ((h z).2 (List.mem_cons_of_mem _ hz)) with e | e
      · subst e; have := b1 z hz; rw [compP_ok.self] at this; omega
      · exact e
/-- adding and dropping -/
noncomputable def addE (l : List (List Cel)) (t : List Cel) : Int := if factB t then (if t ∈ l then 0 else if 512 ≤ l.length then 2 else 0) else 120
noncomputable def addF (l : List (List Cel)) (t : List Cel) : List (List Cel) := if factB t then (if t ∈ l then l else if 512 ≤ l.length then [] else insF t l) else []
noncomputable def dropE (l : List (List Cel)) (t : List Cel) : Int := if factB t then (if t ∈ l then 0 else 3) else 120
noncomputable def dropF (l : List (List Cel)) (t : List Cel) : List (List Cel) := if factB t then (if t ∈ l then l.filter (fun x => !decide (x = t)) else []) else []
def lessF (a b : List (List Cel)) : List (List Cel) := a.filter fun x => !decide (x ∈ b)
theorem FR.add {l : List (List Cel)} (h : FR l) (t : List Cel) : FR (addF l t) := by
  unfold addF
  split
  · split
    · exact h
    · split
      · exact FR.nil
      · next h1 h2 h3 => exact h.ins h1 h2 (by omega)
  · exact FR.nil
theorem FR.dropF {l : List (List Cel)} (h : FR l) (t : List Cel) : FR (dropF l t) := by
  unfold Go.Proofs.Ytnpffificfghpaa.dropF
  split
  · split
    · exact h.filter _
    · exact FR.nil
  · exact FR.nil
end Go.Proofs.Ytnpffificfghpaa
namespace Go.Proofs.Ytnpffificfghpaa
open Go.RowKit

/-! ### sets of facts, plain -/
theorem mem_addF {l : List (List Cel)} {t y : List Cel} (ht : factB t = true) (hl : l.length < 512) : y ∈ addF l t ↔ y = t ∨ y ∈ l := by
  unfold addF
  rw [if_pos ht]
  split
  · next h => exact ⟨.inr, fun h1 => h1.elim (fun e => e ▸ h) id⟩
  · rw [if_neg (by omega)]; exact mem_ins
theorem mem_addF_in {l : List (List Cel)} {t y : List Cel} (ht : factB t = true) (h : t ∈ l) : y ∈ addF l t ↔ y ∈ l := by
  unfold addF
  rw [if_pos ht, if_pos h]
theorem addE_ok {l : List (List Cel)} {t : List Cel} (ht : factB t = true) (hl : l.length < 512) : addE l t = 0 := by
  unfold addE
  rw [if_pos ht]
  split
  · rfl
  · rw [if_neg (by omega)]
theorem addE_in {l : List (List Cel)} {t : List Cel} (ht : factB t = true) (h : t ∈ l) : addE l t = 0 := by
  unfold addE
  rw [if_pos ht, if_pos h]
theorem dropE_ok {l : List (List Cel)} {t : List Cel} (ht : factB t = true) (h : t ∈ l) : dropE l t = 0 := by
  unfold dropE
  rw [if_pos ht, if_pos h]
theorem mem_dropF {l : List (List Cel)} {t y : List Cel} (ht : factB t = true) (h : t ∈ l) : y ∈ dropF l t ↔ y ∈ l ∧ y ≠ t := by
  unfold dropF
  rw [if_pos ht, if_pos h]
  simp
theorem addF_len {l : List (List Cel)} {t : List Cel} (ht : factB t = true) (hl : l.length < 512) : (addF l t).length = if t ∈ l then l.length else l.length + 1 := by
  unfold addF
  rw [if_pos ht]
  split
  · rfl
  · rw [if_neg (by omega), ins_length]
theorem addF_le {l : List (List Cel)} (t : List Cel) : (addF l t).length ≤ l.length + 1 := by
  unfold addF
  split
  · split
    · omega
    · split
      · simp
      · rw [ins_length]; omega
  · simp
theorem FR.ext {l m : List (List Cel)} (h : FR l) (k : FR m) (e : ∀ x, x ∈ l ↔ x ∈ m) : l = m := rise_ext h.rise k.rise e
/-- what is added and dropped is as it was -/
theorem drop_add {l : List (List Cel)} (h : FR l) {t : List Cel} (ht : factB t = true) (hl : l.length < 512) (hn : t ∉ l) : dropF (addF l t) t = l := by
  refine ((h.add t).dropF t).ext h fun y => ?_
  rw [mem_dropF ht ((mem_addF ht hl).2 (.inl rfl)), mem_addF ht hl]
  constructor
  · rintro ⟨h1 | h1, h2⟩
    · exact absurd h1 h2
    · exact h1
  · intro h1
    exact ⟨.inr h1, fun e => hn (e ▸ h1)⟩
theorem add_twice {l : List (List Cel)} {t : List Cel} (ht : factB t = true) (hl : l.length < 512) : addF (addF l t) t = addF l t := by
  have : t ∈ addF l t := (mem_addF ht hl).2 (.inl rfl)
  generalize addF l t = m at this ⊢
  unfold addF
  rw [if_pos ht, if_pos this]
theorem mem_lessF {a b : List (List Cel)} {y : List Cel} : y ∈ lessF a b ↔ y ∈ a ∧ y ∉ b := by
  unfold lessF; simp
theorem FR.less {a : List (List Cel)} (h : FR a) (b : List (List Cel)) : FR (lessF a b) := h.filter _
theorem less_self (a : List (List Cel)) : lessF a a = [] := by
  unfold lessF
  rw [List.filter_eq_nil_iff]
  intro x hx
  simp [hx]
/-- one after the other added -/
noncomputable def addsF (l : List (List Cel)) (xs : List (List Cel)) : List (List Cel) := xs.foldl addF l
noncomputable def dropsF (l : List (List Cel)) (xs : List (List Cel)) : List (List Cel) := xs.foldl dropF l
theorem addsF_len : ∀ (xs l : List (List Cel)), (addsF l xs).length ≤ l.length + xs.length
  | [], l => by simp [addsF]
  | t :: xs, l => by
    have h := addsF_len xs (addF l t)
    have := addF_le (l := l) t
    unfold addsF at h ⊢
    simp only [List.foldl_cons, List.length_cons]
    omega
theorem FR.adds : ∀ {xs l : List (List Cel)}, FR l → FR (addsF l xs)
  | [], _, h => h
  | t :: xs, l, h => FR.adds (xs := xs) (h.add t)
theorem FR.drops : ∀ {xs l : List (List Cel)}, FR l → FR (dropsF l xs)
  | [], _, h => h
  | t :: xs, l, h => FR.drops (xs := xs) (h.dropF t)
theorem mem_addsF : ∀ {xs l : List (List Cel)} {y : List Cel}, (∀ x ∈ xs, factB x = true) → l.length + xs.length ≤ 512 → (y ∈ addsF l xs ↔ y ∈ xs ∨ y ∈ l)
  | [], l, y, _, _ => by simp [addsF]
  | t :: xs, l, y, h, hl => by
    simp only [List.length_cons] at hl
    have h1 := mem_addsF (xs := xs) (l := addF l t) (y := y) (fun x hx => h x (List.mem_cons_of_mem _ hx)) (by have := addF_le (l := l) t; omega)
    rw [show addsF l (t :: xs) = addsF (addF l t) xs from rfl, h1, mem_addF (h t (by simp)) (by omega), List.mem_cons]
    constructor
    · rintro (h | h | h)
      · exact .inl (.inr h)
      · exact .inl (.inl h)
      · exact .inr h
    · rintro ((h | h) | h)
      · exact .inr (.inl h)
      · exact .inl h
      · exact .inr (.inr h)
theorem mem_dropsF : ∀ {xs l : List (List Cel)} {y : List Cel}, (∀ x ∈ xs, factB x = true) → (∀ x ∈ xs, x ∈ l) → xs.Nodup → (y ∈ dropsF l xs ↔ y ∈ l ∧ y ∉ xs)
  | [], l, y, _, _, _ => by simp [dropsF]
  | t :: xs, l, y, h, hl, hn => by
    obtain ⟨n1, n2⟩ := List.nodup_cons.1 hn
    have ht := h t (by simp)
    have htl := hl t (by simp)
    have h1 := mem_dropsF (xs := xs) (l := dropF l t) (y := y) (fun x hx => h x (List.mem_cons_of_mem _ hx)) (fun x hx => (mem_dropF ht htl).2 ⟨hl x (List.mem_cons_of_mem _ hx), fun e => n1 (e ▸ hx)⟩) n2
    rw [show dropsF l (t :: xs) = dropsF (dropF l t) xs from rfl, h1, mem_dropF ht htl, List.mem_cons, not_or, and_assoc]
theorem FR.nodup {l : List (List Cel)} (h : FR l) : l.Nodup := h.rise.imp fun {x y} hxy e => by
  subst e; rw [compP_ok.self] at hxy; omega
/-- with what came added, and what went dropped, the one row is the other -/
theorem apart_back {a b : List (List Cel)} (ha : FR a) (hb : FR b) (hl : a.length + b.length ≤ 512) : dropsF (addsF a (lessF b a)) (lessF a b) = b := by
  have hm : ∀ y, y ∈ addsF a (lessF b a) ↔ y ∈ lessF b a ∨ y ∈ a := fun y => mem_addsF (fun x hx => hb.all x (mem_lessF.1 hx).1) (by
    have : (lessF b a).length ≤ b.length := List.length_filter_le _ _
    omega)
  refine (FR.drops (FR.adds ha)).ext hb fun y => ?_
  rw [mem_dropsF (fun x hx => ha.all x (mem_lessF.1 hx).1) (fun x hx => (hm x).2 (.inr (mem_lessF.1 hx).1)) (ha.less b).nodup, hm, mem_lessF, mem_lessF]
  by_cases h1 : y ∈ a <;> by_cases h2 : y ∈ b <;> simp [h1, h2]
theorem adds_take {l xs : List (List Cel)} {k : Nat} (hk : k < xs.length) : addsF l (xs.take (k + 1)) = addF (addsF l (xs.take k)) xs[k] := by
  rw [List.take_succ_eq_append_getElem hk]; unfold addsF; rw [List.foldl_append]; rfl
theorem drops_take {l xs : List (List Cel)} {k : Nat} (hk : k < xs.length) : dropsF l (xs.take (k + 1)) = dropF (dropsF l (xs.take k)) xs[k] := by
  rw [List.take_succ_eq_append_getElem hk]; unfold dropsF; rw [List.foldl_append]; rfl
end Go.Proofs.Ytnpffificfghpaa
namespace Go.Proofs.Ytnpffificfghpaa
open Go.RowKit

/-- data of a kind, whose cells are told by a list of values -/
class RepC (α : Type) extends Rep α where
  C : World → List Value → α → Prop
  len : ∀ {w : World} {cs : List Value} {x : α}, C w cs x → cs.length = Rep.sz α
  one : ∀ {w : World} {cs : List Value} {x : α}, C w cs x → ∀ u ∈ cs, u.oneCell' = true
  cmono : ∀ {w w' : World} {cs : List Value} {x : α}, C w cs x → Keeps w w' → C w' cs x
  toE : ∀ {w : World} {cs : List Value} {x : α} {b o : Nat}, C w cs x → (∀ j u, cs[j]? = some u → w.cell? ⟨b, o + j, none⟩ = some u) → Rep.E w b o x
  ofE : ∀ {w : World} {x : α} {b o : Nat}, Rep.E w b o x → ∃ cs, C w cs x ∧ ∀ j u, cs[j]? = some u → w.cell? ⟨b, o + j, none⟩ = some u
  pos : 0 < sz

/-- values that read as a list, element by element -/
inductive CRows {α : Type} [RepC α] (w : World) : List Value → List α → Prop where
  | nil : CRows w [] []
  | cons {cs : List Value} {x : α} {vs : List Value} {xs : List α} : RepC.C w cs x → CRows w vs xs → CRows w (cs ++ vs) (x :: xs)

section
variable {α : Type} [RepC α]
theorem CRows.len {w : World} {vs : List Value} {xs : List α} (h : CRows w vs xs) : vs.length = xs.length * Rep.sz α := by
  induction h with
  | nil => simp
  | cons hc _ ih => rw [List.length_append, RepC.len hc, ih, List.length_cons, Nat.succ_mul, Nat.add_comm]
theorem CRows.one {w : World} {vs : List Value} {xs : List α} (h : CRows w vs xs) : ∀ u ∈ vs, u.oneCell' = true := by
  induction h with
  | nil => intro u hu; simp at hu
  | cons hc _ ih =>
    intro u hu
    rcases List.mem_append.1 hu with hu | hu
    · exact RepC.one hc u hu
    · exact ih u hu
theorem CRows.keeps {w w' : World} {vs : List Value} {xs : List α} (h : CRows w vs xs) (hk : Keeps w w') : CRows w' vs xs := by
  induction h with
  | nil => exact .nil
  | cons hc _ ih => exact .cons (RepC.cmono hc hk) ih
theorem CRows.append {w : World} {vs us : List Value} {xs ys : List α} (h : CRows w vs xs) (k : CRows w us ys) : CRows w (vs ++ us) (xs ++ ys) := by
  induction h with
  | nil => exact k
  | cons hc _ ih => rw [List.append_assoc]; exact .cons hc ih
theorem CRows.single {w : World} {cs : List Value} {x : α} (h : RepC.C w cs x) : CRows w cs [x] := by
  have := CRows.cons h (CRows.nil (w := w) (α := α))
  rwa [List.append_nil] at this
theorem CRows.snoc {w : World} {vs cs : List Value} {xs : List α} {x : α} (h : CRows w vs xs) (k : RepC.C w cs x) : CRows w (vs ++ cs) (xs ++ [x]) := h.append (CRows.single k)
/-- at a block -/
theorem CRows.at_ {w : World} {vs : List Value} {xs : List α} (h : CRows w vs xs) : ∀ {b o : Nat}, (∀ j u, vs[j]? = some u → w.cell? ⟨b, o + j, none⟩ = some u) → ∀ i x, xs[i]? = some x → Rep.E w b (o + i * Rep.sz α) x := by
  induction h with
  | nil => intro b o _ i x hi; simp at hi
  | @cons cs x vs xs hc _ ih =>
    intro b o hat i y hi
    cases i with
    | zero =>
      simp at hi
      subst hi
      rw [Nat.zero_mul, Nat.add_zero]
      refine RepC.toE hc fun j u hj => hat j u ?_
      rw [List.getElem?_append_left (List.getElem?_eq_some_iff.1 hj).1]; exact hj
    | succ i =>
      rw [List.getElem?_cons_succ] at hi
      have := ih (b := b) (o := o + Rep.sz α) (fun j u hj => by
        have := hat (Rep.sz α + j) u (by rw [List.getElem?_append_right (by rw [RepC.len hc]; omega), RepC.len hc, Nat.add_sub_cancel_left]; exact hj)
        rwa [← Nat.add_assoc] at this) i y hi
      rwa [show o + (i + 1) * Rep.sz α = o + Rep.sz α + i * Rep.sz α by rw [Nat.succ_mul]; omega]
/-- a row of the call's own reads as a row -/
theorem own_rowG {w : World} {B e : Nat} {v : Value} {vs : List Value} {xs : List α} (h : w.ownsRow B e (Rep.sz α) v xs.length vs) (hs : CRows w vs xs) : ∃ a cap, v = .slice a xs.length cap ∧ Row w a cap xs := by
  rcases h.2 with ⟨rfl, hn⟩ | ⟨g, cap, cur, rfl, hb, hg, hn, hm, hsz, ht⟩
  · obtain rfl : xs = [] := List.eq_nil_of_length_eq_zero hn
    exact ⟨none, 0, rfl, Row.empty _ _ _ (by omega) (fun _ => rfl)⟩
  · refine ⟨_, cap, rfl, ⟨hn, by unfold maxLen at hm; omega, (fun e => by cases e), fun i x hi => ⟨g, 0, rfl, ?_⟩⟩⟩
    exact hs.at_ (fun j u hj => by rw [Nat.zero_add]; exact own_cells h j u hj) i x hi
/-- the cells of a row -/
theorem crows_of {w : World} {b : Nat} : ∀ (xs : List α) (o : Nat), (∀ i x, xs[i]? = some x → Rep.E w b (o + i * Rep.sz α) x) → ∃ vs, CRows w vs xs ∧ ∀ j u, vs[j]? = some u → w.cell? ⟨b, o + j, none⟩ = some u
  | [], _, _ => ⟨[], .nil, fun j u h => by simp at h⟩
  | x :: xs, o, h => by
    have h0 := h 0 x rfl
    rw [Nat.zero_mul, Nat.add_zero] at h0
    obtain ⟨cs, hc, hat⟩ := RepC.ofE h0
    obtain ⟨vs, hv, hvat⟩ := crows_of xs (o + Rep.sz α) (fun i y hi => by
      have := h (i + 1) y (by rw [List.getElem?_cons_succ]; exact hi)
      rwa [show o + (i + 1) * Rep.sz α = o + Rep.sz α + i * Rep.sz α by rw [Nat.succ_mul]; omega] at this)
    refine ⟨cs ++ vs, .cons hc hv, fun j u hj => ?_⟩
    by_cases hl : j < cs.length
    · rw [List.getElem?_append_left hl] at hj
      exact hat j u hj
    · rw [List.getElem?_append_right (by omega)] at hj
      have := hvat _ u hj
      rw [RepC.len hc] at this
      rwa [show o + Rep.sz α + (j - Rep.sz α) = o + j by have := RepC.len hc; omega] at this
theorem Row.srcG {w : World} {a : Option Addr} {cap : Nat} {xs : List α} (h : Row w a cap xs) : ∃ vs, CRows w vs xs ∧ Src w (Rep.sz α) a xs.length cap vs := by
  rcases h.cases with rfl | ⟨b, off, rfl, _, hat⟩
  · refine ⟨[], .nil, ⟨by simp, fun e => ⟨rfl, h.nil e⟩, fun ad _ j u hj => by simp at hj, fun u hu => by simp at hu⟩⟩
  · obtain ⟨vs, hv, hvat⟩ := crows_of (w := w) (b := b) xs off (fun i x hi => by
      obtain ⟨hl, rfl⟩ := List.getElem?_eq_some_iff.1 hi
      exact hat i hl)
    refine ⟨vs, hv, ⟨hv.len, (fun e => by cases e), ?_, hv.one⟩⟩
    intro ad e j u hj
    simp at e
    subst e
    have ha : (Addr.mk b off none).add j = ⟨b, off + j, none⟩ := by unfold Addr.add; split <;> simp_all
    rw [ha]
    exact hvat j u hj
/-- an element that was laid in a new block, as the source of an append -/
theorem CRows.takeL {w : World} {vs : List Value} {xs : List α} (h : CRows w vs xs) (k : Nat) : CRows w (vs.take (k * Rep.sz α)) (xs.take k) := by
  induction h generalizing k with
  | nil => simp; exact .nil
  | @cons cs x vs xs hc _ ih =>
    cases k with
    | zero => simp; exact .nil
    | succ k =>
      rw [List.take_succ_cons, List.take_append, RepC.len hc, List.take_of_length_le (by rw [RepC.len hc, Nat.succ_mul]; omega), show (k + 1) * Rep.sz α - Rep.sz α = k * Rep.sz α by rw [Nat.succ_mul]; omega]
      exact .cons hc (ih k)
end

instance {α : Type} [Rep α] : RepC (List α) where
  C w cs xs := ∃ a cap, cs = [.slice a xs.length cap] ∧ Row w a cap xs
  len := by rintro w cs xs ⟨a, cap, rfl, _⟩; rfl
  one := by rintro w cs xs ⟨a, cap, rfl, _⟩ u hu; simp at hu; subst hu; rfl
  cmono := by rintro w w' cs xs ⟨a, cap, rfl, h⟩ hk; exact ⟨a, cap, rfl, h.keeps hk⟩
  toE := by
    rintro w cs xs b o ⟨a, cap, rfl, h⟩ hat
    exact ⟨a, cap, hat 0 _ rfl, h⟩
  ofE := by
    rintro w xs b o ⟨a, cap, hc, h⟩
    refine ⟨_, ⟨a, cap, rfl, h⟩, fun j u hj => ?_⟩
    cases j with
    | zero => simp at hj; subst hj; exact hc
    | succ j => simp at hj
  pos := Nat.one_pos
instance : RepC Cel where
  C _ cs c := cs = [.int .i64 c.k, .string c.s, .int .i64 c.n] ∧ c.fit
  len := by rintro w cs c ⟨rfl, _⟩; rfl
  one := by rintro w cs c ⟨rfl, _⟩ u hu; simp at hu; rcases hu with rfl | rfl | rfl <;> rfl
  cmono := by rintro w w' cs c h _; exact h
  toE := by
    rintro w cs c b o ⟨rfl, hf⟩ hat
    exact ⟨hat 0 _ rfl, hat 1 _ rfl, hat 2 _ rfl, hf⟩
  ofE := by
    rintro w c b o ⟨h0, h1, h2, hf⟩
    refine ⟨_, ⟨rfl, hf⟩, fun j u hj => ?_⟩
    match j with
    | 0 => simp at hj; subst hj; exact h0
    | 1 => simp at hj; subst hj; exact h1
    | 2 => simp at hj; subst hj; exact h2
    | j + 3 => simp at hj
  pos := by decide
instance : RepC Int where
  C _ cs n := cs = [.int .i64 n] ∧ -9223372036854775808 ≤ n ∧ n ≤ 9223372036854775807
  len := by rintro w cs c ⟨rfl, _⟩; rfl
  one := by rintro w cs c ⟨rfl, _⟩ u hu; simp at hu; subst hu; rfl
  cmono := by rintro w w' cs c h _; exact h
  toE := by
    rintro w cs c b o ⟨rfl, h1, h2⟩ hat
    exact ⟨hat 0 _ rfl, h1, h2⟩
  ofE := by
    rintro w c b o ⟨h0, h1, h2⟩
    refine ⟨_, ⟨rfl, h1, h2⟩, fun j u hj => ?_⟩
    cases j with
    | zero => simp at hj; subst hj; exact h0
    | succ j => simp at hj
  pos := by decide

section
variable {α : Type} [RepC α]
/-- a slice literal, laid in a new block -/
theorem row_new (w : World) (cs : Array Value) (T : TypeId × Nat) {xs : List α} (h : CRows (w.alloc (.cells cs T.1)) cs.toList xs) (hl : xs.length ≤ 9223372036854775807) :
    Row (w.alloc (.cells cs T.1)) (some ⟨w.heap.size, 0, none⟩) xs.length xs :=
  ⟨Nat.le_refl _, hl, (fun e => by cases e), fun i x hi => ⟨w.heap.size, 0, rfl, h.at_ (fun j u hj => by
    rw [Nat.zero_add, World.cell?_alloc_at _ _ _ _ rfl]; simpa using hj) i x hi⟩⟩
theorem Row.lit {w : World} {a : Option Addr} {cap : Nat} {xs ys : List α} (h : Row w a cap xs) (e : xs = ys) : Row w a cap ys := e ▸ h
end

/-- the world without all blocks below B -/
def under (B : Nat) (w : World) : World := { w with heap := w.heap.mapIdx fun i o => if i < B then .cells #[] 0 else o }
theorem under_size (B : Nat) (w : World) : (under B w).heap.size = w.heap.size := by simp [under]
theorem under_heap {B : Nat} {w : World} {b : Nat} (h : B ≤ b) : (under B w).heap[b]? = w.heap[b]? := by
  unfold under
  rw [Array.getElem?_mapIdx]
  cases hw : w.heap[b]? with
  | none => rfl
  | some o => simp; intro; omega
theorem under_cell {B : Nat} {w : World} {b o : Nat} {v : Value} (h : (under B w).cell? ⟨b, o, none⟩ = some v) : B ≤ b ∧ w.cell? ⟨b, o, none⟩ = some v := by
  by_cases hb : B ≤ b
  · refine ⟨hb, ?_⟩
    rwa [World.cell?, under_heap hb] at h
  · exfalso
    unfold under at h
    simp only [World.cell?, Array.getElem?_mapIdx] at h
    cases hw : w.heap[b]? with
    | none => rw [hw] at h; simp at h
    | some o => rw [hw] at h; simp [show b < B by omega] at h
theorem under_of {B : Nat} {w : World} {b o : Nat} {v : Value} (hb : B ≤ b) (h : w.cell? ⟨b, o, none⟩ = some v) : (under B w).cell? ⟨b, o, none⟩ = some v := by
  rwa [World.cell?, under_heap hb]
theorem under_keeps (B : Nat) (w : World) : Keeps (under B w) w := fun _ _ _ h => (under_cell h).2
theorem under_mono {B B' : Nat} (h : B' ≤ B) (w : World) : Keeps (under B w) (under B' w) := fun _ _ _ hc => under_of (Nat.le_trans h (under_cell hc).1) (under_cell hc).2
theorem under_hide {B : Nat} (w : World) {r : Option Nat} (hr : ∀ g, r = some g → g < B) : Keeps (under B w) (hide r w) := by
  intro b o v hc
  obtain ⟨h1, h2⟩ := under_cell hc
  cases r with
  | none => exact h2
  | some g => exact hide_of_ne (by have := hr g rfl; omega) h2
theorem under_grown {B : Nat} {w w' : World} {r : Option Nat} (hg : w.grownBy w' r) (hr : ∀ g, r = some g → g < B) : Keeps (under B w) (under B w') := by
  intro b o v hc
  obtain ⟨h1, h2⟩ := under_cell hc
  refine under_of h1 ?_
  exact (World.cell?_of_block (w := w) (a := ⟨b, o, none⟩) (hg.block b (cell_lt h2) (fun e => by have := hr b e.symm; omega))).trans h2
theorem under_below {B : Nat} {w w' : World} (hb : Below w.heap.size w w') : Keeps (under B w) (under B w') := under_grown (below_grown hb none) (fun g e => by cases e)
theorem under_own {w : World} {B e size : Nat} {v : Value} {n : Nat} {xs : List Value} (h : w.ownsRow B e size v n xs) : (under B w).ownsRow B e size v n xs := by
  refine ⟨h.1, ?_⟩
  rcases h.2 with h | ⟨g, cap, cur, rfl, hb, hg, rest⟩
  · exact .inl h
  · exact .inr ⟨g, cap, cur, rfl, hb, by rw [under_heap hb]; exact hg, rest⟩
theorem under_new {w0 w : World} (h : Keeps w0 w) {B : Nat} (hn : ∀ b o v, w0.cell? ⟨b, o, none⟩ = some v → B ≤ b) : Keeps w0 (under B w) := fun b o v hc => under_of (hn b o v hc) (h _ _ _ hc)

/-- a slice that lies in no block below B -/
def NewRow {α : Type} [Rep α] (B : Nat) (w : World) (a : Option Addr) (cap : Nat) (xs : List α) : Prop := Row (under B w) a cap xs
section
variable {α : Type} [Rep α] {B : Nat} {w w' : World} {a : Option Addr} {cap : Nat} {xs : List α}
theorem NewRow.row (h : NewRow B w a cap xs) : Row w a cap xs := Row.keeps h (under_keeps B w)
theorem NewRow.hide (h : NewRow B w a cap xs) {r : Option Nat} (hr : ∀ g, r = some g → g < B) : Row (hide r w) a cap xs := Row.keeps h (under_hide w hr)
theorem NewRow.below (h : NewRow B w a cap xs) (hb : Below w.heap.size w w') : NewRow B w' a cap xs := Row.keeps h (under_below hb)
theorem NewRow.grown (h : NewRow B w a cap xs) {r : Option Nat} (hg : w.grownBy w' r) (hr : ∀ g, r = some g → g < B) : NewRow B w' a cap xs := Row.keeps h (under_grown hg hr)
theorem NewRow.mono {B' : Nat} (h : NewRow B w a cap xs) (hb : B' ≤ B) : NewRow B' w a cap xs := Row.keeps h (under_mono hb w)
theorem NewRow.empty (B : Nat) (w : World) (a : Option Addr) (cap : Nat) (h : cap ≤ 9223372036854775807) (hn : a = none → cap = 0) : NewRow B w a cap ([] : List α) := Row.empty _ _ _ h hn
theorem NewRow.lit {ys : List α} (h : NewRow B w a cap xs) (e : xs = ys) : NewRow B w a cap ys := e ▸ h
end
theorem own_newG {α : Type} [RepC α] {w : World} {B e : Nat} {v : Value} {vs : List Value} {xs : List α} (h : w.ownsRow B e (Rep.sz α) v xs.length vs) (hs : CRows (under B w) vs xs) :
    ∃ a cap, v = .slice a xs.length cap ∧ NewRow B w a cap xs := own_rowG (under_own h) hs
theorem crows_flat (w : World) {xs : List Cel} (h : ∀ c ∈ xs, c.fit) : CRows w (flat xs) xs := by
  induction xs with
  | nil => exact .nil
  | cons c xs ih => exact .cons (cs := [.int .i64 c.k, .string c.s, .int .i64 c.n]) ⟨rfl, h c (by simp)⟩ (ih fun d hd => h d (by simp [hd]))
theorem crows_ints (w : World) {xs : List Int} (h : ∀ n ∈ xs, -9223372036854775808 ≤ n ∧ n ≤ 9223372036854775807) : CRows w (xs.map (Value.int .i64)) xs := by
  induction xs with
  | nil => exact .nil
  | cons c xs ih => exact .cons (cs := [.int .i64 c]) ⟨rfl, h c (by simp)⟩ (ih fun d hd => h d (by simp [hd]))
theorem own_new {w : World} {B e : Nat} {v : Value} {xs : List Cel} (h : w.ownsRow B e 3 v xs.length (flat xs)) (hf : ∀ c ∈ xs, c.fit) : ∃ a cap, v = .slice a xs.length cap ∧ NewRow B w a cap xs :=
  own_newG h (crows_flat _ hf)

theorem fresh_own {w wr : World} {e size n : Nat} {v : Value} {xs : List Value} (hb : Below w.heap.size w wr) (h : wr.ownsRow w.heap.size e size v n xs) : Keeps w (hide v.ownBlock wr) := by
  cases hv : v.ownBlock with
  | none => exact Keeps.of hb
  | some g => exact fresh_keeps (Keeps.of hb) (h.lt g hv).1
end Go.Proofs.Ytnpffificfghpaa
namespace Go.Proofs.Ytnpffificfghpaa
open Go.RowKit

theorem own_belowA {w w' : World} {B e size : Nat} {v : Value} {n : Nat} {xs : List Value} (h : w.ownsRow B e size v n xs) (hb : Below w.heap.size w w') : w'.ownsRow B e size v n xs :=
  h.kept (row := none) ⟨hb.os, hb.tape, hb.output, hb.size, fun k hk _ => hb.block k hk⟩ (by cases hv : v.ownBlock <;> simp)

/-- a row of the call's own that is appended to -/
structure AccInv {α : Type} [RepC α] (B e : Nat) (acc : List α) (v : Value) (w : World) : Prop where
  ex : ∃ vs, w.ownsRow B e (Rep.sz α) v acc.length vs ∧ CRows (hide v.ownBlock w) vs acc
section
variable {α : Type} [RepC α] {B e : Nat} {acc : List α} {v : Value} {w w' : World}
theorem AccInv.nil (B e : Nat) (w : World) : AccInv B e ([] : List α) (.slice none 0 0) w := ⟨[], World.ownsRow_nil _ _ _ _, .nil⟩
theorem AccInv.made {T : Nat} (w : World) (hB : B ≤ w.heap.size) (he : e = T) : AccInv B e ([] : List α) (.slice (some ⟨w.heap.size, 0, none⟩) 0 0) (w.alloc (.cells #[] T)) :=
  ⟨[], by subst he; simpa using World.ownsRow_made (base := B) (e := e) (size := Rep.sz α) w #[] 0 hB (by unfold maxLen; omega) (by simp), .nil⟩
theorem AccInv.below (h : AccInv B e acc v w) (hb : Below w.heap.size w w') : AccInv B e acc v w' :=
  let ⟨vs, ho, hc⟩ := h.ex
  ⟨vs, own_belowA ho hb, hc.keeps (below_hide hb _)⟩
theorem AccInv.lt (h : AccInv B e acc v w) : ∀ g, v.ownBlock = some g → B ≤ g ∧ g < w.heap.size := let ⟨_, ho, _⟩ := h.ex; fun g hg => ho.lt g hg
theorem AccInv.row (h : AccInv B e acc v w) : ∃ a cap, v = .slice a acc.length cap ∧ Row w a cap acc :=
  let ⟨_, ho, hc⟩ := h.ex; own_rowG ho (hc.keeps (hide_keeps _ _))
theorem AccInv.lit {acc' : List α} (h : AccInv B e acc v w) (e1 : acc = acc') : AccInv B e acc' v w := e1 ▸ h
/-- what was there when the call began is read beside the row -/
theorem AccInv.fresh {w0 : World} (h : AccInv w0.heap.size e acc v w) (hb : Below w0.heap.size w0 w) : Keeps w0 (hide v.ownBlock w) := by
  obtain ⟨_, ho, _⟩ := h.ex
  cases hv : v.ownBlock with
  | none => exact Keeps.of hb
  | some g => exact fresh_keeps (Keeps.of hb) (ho.lt g hv).1
/-- a slice that is newer than the row is read beside it -/
theorem AccInv.newer {β : Type} [Rep β] {B2 : Nat} {w2 : World} {a : Option Addr} {cap : Nat} {ys : List β} (h : AccInv B e acc v w) (hB : w.heap.size ≤ B2) (hr : NewRow B2 w2 a cap ys) : Row (hide v.ownBlock w2) a cap ys :=
  hr.hide fun g hg => Nat.lt_of_lt_of_le (h.lt g hg).2 hB
end

/-- append of one element, laid just ahead of it -/
theorem wpList_acc {α : Type} [RepC α] {P : Program} {w : World} {ops : Array Oper} {rest : List Oper} {o : Oper} {a : Act} {Q : Exit → Act → World → Prop} (hgd : o.guard = none) (s x : Operand) (t : TypeId)
    (ho : o.op = .call { callee := .builtin .append, args := #[s, x], argTypes := #[t, t] })
    (B e bytes : Nat) (z : Value) (ht : P.underlying t = some (.slice e)) (hinfo : (P.info? e).map (fun i => (i.zero, i.size, i.bytes)) = some (some z, Rep.sz α, bytes))
    (hzs : z.cells.size = Rep.sz α) (hby : bytes ≤ 1000)
    (v : Value) (acc : List α) (hacc : AccInv B e acc v w) (hs : a.eval s = v) (T : Nat) (cs : Array Value) (y : α) (hcs : RepC.C (hide v.ownBlock w) cs.toList y)
    (hx : a.eval x = .slice (some ⟨w.heap.size, 0, none⟩) 1 1)
    (hmax : acc.length + 1 ≤ 1000000000) (hB : B ≤ w.heap.size)
    (h : ∀ v' w', AccInv B e (acc ++ [y]) v' w' → Below B w w' → wpList P ops Q rest (a.put o.dst v') w') : wpList P ops Q (o :: rest) a (w.alloc (.cells cs T)) := by
  obtain ⟨vs, hown, hc⟩ := hacc.ex
  refine wpList_app2 hgd s x t ho B e (Rep.sz α) bytes z ht hinfo hzs RepC.pos hby v acc.length vs hs (hown.alloc _) ⟨w.heap.size, 0, none⟩ 1 1 cs.toList hx (src_new w cs T (Rep.sz α) (by have := RepC.len hcs; simpa using this) (fun u hu => RepC.one hcs u hu)) hmax (Nat.le_trans hB (by simp)) ?_
  intro v' w' h1 _ h3 h4
  refine h v' w' ⟨vs ++ cs.toList, by rw [List.length_append]; exact h1, ?_⟩ (((Below.refl B w).alloc hB _).trans h3)
  exact ((hc.keeps (alloc_hide w _ _)).keeps h4).snoc (RepC.cmono (RepC.cmono hcs (alloc_hide w _ _)) h4)
theorem Row.srcK {α : Type} [RepC α] {w w' : World} {a : Option Addr} {cap : Nat} {xs : List α} (h : Row w a cap xs) (hk : Keeps w w') : ∃ vs, CRows w vs xs ∧ Src w' (Rep.sz α) a xs.length cap vs := by
  rcases h.cases with rfl | ⟨b, off, rfl, _, hat⟩
  · refine ⟨[], .nil, ⟨by simp, fun e => ⟨rfl, h.nil e⟩, fun ad _ j u hj => by simp at hj, fun u hu => by simp at hu⟩⟩
  · obtain ⟨vs, hv, hvat⟩ := crows_of (w := w) (b := b) xs off (fun i x hi => by
      obtain ⟨hl, rfl⟩ := List.getElem?_eq_some_iff.1 hi
      exact hat i hl)
    refine ⟨vs, hv, ⟨hv.len, (fun e => by cases e), ?_, hv.one⟩⟩
    intro ad e j u hj
    simp at e
    subst e
    have ha : (Addr.mk b off none).add j = ⟨b, off + j, none⟩ := by unfold Addr.add; split <;> simp_all
    rw [ha]
    exact hk _ _ _ (hvat j u hj)
/-- append of all of a slice -/
theorem wpList_accs {α : Type} [RepC α] {P : Program} {w : World} {ops : Array Oper} {rest : List Oper} {o : Oper} {a : Act} {Q : Exit → Act → World → Prop} (hgd : o.guard = none) (s x : Operand) (t : TypeId)
    (ho : o.op = .call { callee := .builtin .append, args := #[s, x], argTypes := #[t, t] })
    (B e bytes : Nat) (z : Value) (ht : P.underlying t = some (.slice e)) (hinfo : (P.info? e).map (fun i => (i.zero, i.size, i.bytes)) = some (some z, Rep.sz α, bytes))
    (hzs : z.cells.size = Rep.sz α) (hby : bytes ≤ 1000)
    (v : Value) (acc : List α) (hacc : AccInv B e acc v w) (hs : a.eval s = v) (sa : Option Addr) (cap : Nat) (ys : List α) (hr : Row (hide v.ownBlock w) sa cap ys)
    (hx : a.eval x = .slice sa ys.length cap)
    (hmax : acc.length + ys.length ≤ 1000000000) (hB : B ≤ w.heap.size)
    (h : ∀ v' w', AccInv B e (acc ++ ys) v' w' → Below B w w' → wpList P ops Q rest (a.put o.dst v') w') : wpList P ops Q (o :: rest) a w := by
  obtain ⟨vs, hown, hc⟩ := hacc.ex
  obtain ⟨us, hu, hsrc⟩ := hr.srcK (hide_keeps _ _)
  cases sa with
  | none =>
    have h0 : ys.length = 0 := (hsrc.nil rfl).1
    have hc0 : cap = 0 := (hsrc.nil rfl).2
    obtain rfl : ys = [] := List.eq_nil_of_length_eq_zero h0
    obtain ⟨i, hi, hz0, hz1, hz2⟩ := info_parts hinfo
    subst hc0
    refine wpList_append_own_none hgd s x t ho B e i (Rep.sz α) ht hi v acc.length vs hs hown hx ?_
    exact h v w ⟨vs, by rw [List.append_nil]; exact hown, by rw [List.append_nil]; exact hc⟩ (Below.refl _ _)
  | some ad =>
    refine wpList_app2 hgd s x t ho B e (Rep.sz α) bytes z ht hinfo hzs RepC.pos hby v acc.length vs hs hown ad ys.length cap us hx hsrc hmax hB ?_
    intro v' w' h1 _ h3 h4
    exact h v' w' ⟨vs ++ us, by rw [List.length_append]; exact h1, (hc.keeps h4).append (hu.keeps h4)⟩ h3
end Go.Proofs.Ytnpffificfghpaa
namespace Go.Proofs.Ytnpffificfghpaa
open Go.RowKit

/-- a literal -/
structure Lt where
  neg : Bool
  t : List Cel
  deriving DecidableEq
/-- a clause -/
structure Cl where
  h : List Cel
  b : List Lt
  deriving DecidableEq
/-- a predicate -/
structure Pd where
  s : ByteArray
  n : Int
  deriving DecidableEq
/-- a link -/
structure Lk where
  f : Int
  t : Int
  neg : Bool
  deriving DecidableEq

structure LtE (w : World) (b o : Nat) (x : Lt) : Prop where
  ex : ∃ a cap, w.cell? ⟨b, o, none⟩ = some (.bool x.neg) ∧ w.cell? ⟨b, o + 1, none⟩ = some (.slice a x.t.length cap) ∧ Row w a cap x.t
instance instRepCLt : RepC Lt where
  sz := 2
  E := LtE
  mono h hb := let ⟨a, cap, h0, h1, hr⟩ := h.ex; ⟨⟨a, cap, hb _ _ _ h0, hb _ _ _ h1, hr.keeps hb⟩⟩
  lt h := let ⟨_, _, h0, _⟩ := h.ex; cell_lt h0
  C w cs x := ∃ a cap, cs = [.bool x.neg, .slice a x.t.length cap] ∧ Row w a cap x.t
  len := by rintro w cs x ⟨a, cap, rfl, _⟩; rfl
  one := by rintro w cs x ⟨a, cap, rfl, _⟩ u hu; simp at hu; rcases hu with rfl | rfl <;> rfl
  cmono := by rintro w w' cs x ⟨a, cap, rfl, h⟩ hk; exact ⟨a, cap, rfl, h.keeps hk⟩
  toE := by
    rintro w cs x b o ⟨a, cap, rfl, h⟩ hat
    exact ⟨a, cap, hat 0 _ rfl, hat 1 _ rfl, h⟩
  ofE := by
    rintro w x b o ⟨a, cap, h0, h1, h⟩
    refine ⟨_, ⟨a, cap, rfl, h⟩, fun j u hj => ?_⟩
    match j with
    | 0 => simp at hj; subst hj; exact h0
    | 1 => simp at hj; subst hj; exact h1
    | j + 2 => simp at hj
  pos := by decide
structure ClE (w : World) (b o : Nat) (x : Cl) : Prop where
  ex : ∃ a cap a' cap', w.cell? ⟨b, o, none⟩ = some (.slice a x.h.length cap) ∧ w.cell? ⟨b, o + 1, none⟩ = some (.slice a' x.b.length cap') ∧ Row w a cap x.h ∧ Row w a' cap' x.b
instance instRepCCl : RepC Cl where
  sz := 2
  E := ClE
  mono h hb := let ⟨a, cap, a', cap', h0, h1, hr, hr'⟩ := h.ex; ⟨⟨a, cap, a', cap', hb _ _ _ h0, hb _ _ _ h1, hr.keeps hb, hr'.keeps hb⟩⟩
  lt h := let ⟨_, _, _, _, h0, _⟩ := h.ex; cell_lt h0
  C w cs x := ∃ a cap a' cap', cs = [.slice a x.h.length cap, .slice a' x.b.length cap'] ∧ Row w a cap x.h ∧ Row w a' cap' x.b
  len := by rintro w cs x ⟨a, cap, a', cap', rfl, _⟩; rfl
  one := by rintro w cs x ⟨a, cap, a', cap', rfl, _⟩ u hu; simp at hu; rcases hu with rfl | rfl <;> rfl
  cmono := by rintro w w' cs x ⟨a, cap, a', cap', rfl, h, h'⟩ hk; exact ⟨a, cap, a', cap', rfl, h.keeps hk, h'.keeps hk⟩
  toE := by
    rintro w cs x b o ⟨a, cap, a', cap', rfl, h, h'⟩ hat
    exact ⟨a, cap, a', cap', hat 0 _ rfl, hat 1 _ rfl, h, h'⟩
  ofE := by
    rintro w x b o ⟨a, cap, a', cap', h0, h1, h, h'⟩
    refine ⟨_, ⟨a, cap, a', cap', rfl, h, h'⟩, fun j u hj => ?_⟩
    match j with
    | 0 => simp at hj; subst hj; exact h0
    | 1 => simp at hj; subst hj; exact h1
    | j + 2 => simp at hj
  pos := by decide
structure Pd.fit (p : Pd) : Prop where
  s : p.s.size ≤ 9223372036854775807
  n1 : -9223372036854775808 ≤ p.n
  n2 : p.n ≤ 9223372036854775807
structure PdE (w : World) (b o : Nat) (x : Pd) : Prop where
  c0 : w.cell? ⟨b, o, none⟩ = some (.string x.s)
  c1 : w.cell? ⟨b, o + 1, none⟩ = some (.int .i64 x.n)
  fit : x.fit
abbrev Pd.v (p : Pd) : Value := .agg #[.string p.s, .int .i64 p.n]
instance instRepCPd : RepC Pd where
  sz := 2
  E := PdE
  mono h hb := ⟨hb _ _ _ h.c0, hb _ _ _ h.c1, h.fit⟩
  lt h := cell_lt h.c0
  C _ cs x := cs = [.string x.s, .int .i64 x.n] ∧ x.fit
  len := by rintro w cs x ⟨rfl, _⟩; rfl
  one := by rintro w cs x ⟨rfl, _⟩ u hu; simp at hu; rcases hu with rfl | rfl <;> rfl
  cmono := by rintro w w' cs x h _; exact h
  toE := by
    rintro w cs x b o ⟨rfl, h⟩ hat
    exact ⟨hat 0 _ rfl, hat 1 _ rfl, h⟩
  ofE := by
    rintro w x b o ⟨h0, h1, h⟩
    refine ⟨_, ⟨rfl, h⟩, fun j u hj => ?_⟩
    match j with
    | 0 => simp at hj; subst hj; exact h0
    | 1 => simp at hj; subst hj; exact h1
    | j + 2 => simp at hj
  pos := by decide
structure Lk.fit (p : Lk) : Prop where
  f1 : -9223372036854775808 ≤ p.f
  f2 : p.f ≤ 9223372036854775807
  t1 : -9223372036854775808 ≤ p.t
  t2 : p.t ≤ 9223372036854775807
structure LkE (w : World) (b o : Nat) (x : Lk) : Prop where
  c0 : w.cell? ⟨b, o, none⟩ = some (.int .i64 x.f)
  c1 : w.cell? ⟨b, o + 1, none⟩ = some (.int .i64 x.t)
  c2 : w.cell? ⟨b, o + 2, none⟩ = some (.bool x.neg)
  fit : x.fit
abbrev Lk.v (p : Lk) : Value := .agg #[.int .i64 p.f, .int .i64 p.t, .bool p.neg]
instance instRepCLk : RepC Lk where
  sz := 3
  E := LkE
  mono h hb := ⟨hb _ _ _ h.c0, hb _ _ _ h.c1, hb _ _ _ h.c2, h.fit⟩
  lt h := cell_lt h.c0
  C _ cs x := cs = [.int .i64 x.f, .int .i64 x.t, .bool x.neg] ∧ x.fit
  len := by rintro w cs x ⟨rfl, _⟩; rfl
  one := by rintro w cs x ⟨rfl, _⟩ u hu; simp at hu; rcases hu with rfl | rfl | rfl <;> rfl
  cmono := by rintro w w' cs x h _; exact h
  toE := by
    rintro w cs x b o ⟨rfl, h⟩ hat
    exact ⟨hat 0 _ rfl, hat 1 _ rfl, hat 2 _ rfl, h⟩
  ofE := by
    rintro w x b o ⟨h0, h1, h2, h⟩
    refine ⟨_, ⟨rfl, h⟩, fun j u hj => ?_⟩
    match j with
    | 0 => simp at hj; subst hj; exact h0
    | 1 => simp at hj; subst hj; exact h1
    | 2 => simp at hj; subst hj; exact h2
    | j + 3 => simp at hj
  pos := by decide

section
variable {w wr : World} {b off : Nat}
theorem lt_at {xs : List Lt} (hat : ∀ i (hi : i < xs.length), Rep.E w b (off + i * Rep.sz Lt) xs[i]) (hb : Below w.heap.size w wr) {k : Nat} (hk : k < xs.length) :
    ∃ a cap, wr.cell? ⟨b, off + k * 2, none⟩ = some (.bool xs[k].neg) ∧ wr.cell? ⟨b, off + k * 2 + 1, none⟩ = some (.slice a xs[k].t.length cap) ∧ Row wr a cap xs[k].t := by
  have h : LtE w b (off + k * 2) xs[k] := hat k hk
  obtain ⟨a, cap, h0, h1, hr⟩ := h.ex
  exact ⟨a, cap, keep h0 hb, keep h1 hb, hr.below hb⟩
theorem cl_at {xs : List Cl} (hat : ∀ i (hi : i < xs.length), Rep.E w b (off + i * Rep.sz Cl) xs[i]) (hb : Below w.heap.size w wr) {k : Nat} (hk : k < xs.length) :
    ∃ a cap a' cap', wr.cell? ⟨b, off + k * 2, none⟩ = some (.slice a xs[k].h.length cap) ∧ wr.cell? ⟨b, off + k * 2 + 1, none⟩ = some (.slice a' xs[k].b.length cap') ∧ Row wr a cap xs[k].h ∧ Row wr a' cap' xs[k].b := by
  have h : ClE w b (off + k * 2) xs[k] := hat k hk
  obtain ⟨a, cap, a', cap', h0, h1, hr, hr'⟩ := h.ex
  exact ⟨a, cap, a', cap', keep h0 hb, keep h1 hb, hr.below hb, hr'.below hb⟩
theorem pd_at {xs : List Pd} (hat : ∀ i (hi : i < xs.length), Rep.E w b (off + i * Rep.sz Pd) xs[i]) (hb : Below w.heap.size w wr) {k : Nat} (hk : k < xs.length) : PdE wr b (off + k * 2) xs[k] := by
  have h : PdE w b (off + k * 2) xs[k] := hat k hk
  exact ⟨keep h.c0 hb, keep h.c1 hb, h.fit⟩
theorem lk_at {xs : List Lk} (hat : ∀ i (hi : i < xs.length), Rep.E w b (off + i * Rep.sz Lk) xs[i]) (hb : Below w.heap.size w wr) {k : Nat} (hk : k < xs.length) : LkE wr b (off + k * 3) xs[k] := by
  have h : LkE w b (off + k * 3) xs[k] := hat k hk
  exact ⟨keep h.c0 hb, keep h.c1 hb, keep h.c2 hb, h.fit⟩
end

end Go.Proofs.Ytnpffificfghpaa
namespace Go.Proofs.Ytnpffificfghpaa
open Go.RowKit

/-! ### changes of facts, plain (a change is a literal's layout: neg says that it adds) -/
noncomputable def doF (l : List (List Cel)) (c : Lt) : List (List Cel) := if c.neg then addF l c.t else dropF l c.t
noncomputable def doE (l : List (List Cel)) (c : Lt) : Int := if c.neg then addE l c.t else dropE l c.t
noncomputable def stepF (l : List (List Cel)) (c : Lt) : List (List Cel) := if doE l c = 0 then doF l c else l
noncomputable def nowF (l : List (List Cel)) (cs : List Lt) : List (List Cel) := cs.foldl stepF l
/-- one that adds can't be done -/
noncomputable def badF (l : List (List Cel)) (c : Lt) : Bool := c.neg && !decide (doE l c = 0)
/-- one of them can't be done, and adds -/
noncomputable def bigF (l : List (List Cel)) : List Lt → Bool
  | [] => false
  | c :: cs => badF l c || bigF (stepF l c) cs
theorem FR.step {l : List (List Cel)} (h : FR l) (c : Lt) : FR (stepF l c) := by
  unfold stepF doF
  split
  · split
    · exact h.add _
    · exact h.dropF _
  · exact h
theorem FR.now : ∀ {cs : List Lt} {l : List (List Cel)}, FR l → FR (nowF l cs)
  | [], _, h => h
  | c :: cs, l, h => FR.now (cs := cs) (h.step c)
theorem now_take {l : List (List Cel)} {cs : List Lt} {k : Nat} (hk : k < cs.length) : nowF l (cs.take (k + 1)) = stepF (nowF l (cs.take k)) cs[k] := by
  rw [List.take_succ_eq_append_getElem hk]; unfold nowF; rw [List.foldl_append]; rfl
theorem now_append (l : List (List Cel)) (a b : List Lt) : nowF l (a ++ b) = nowF (nowF l a) b := by unfold nowF; rw [List.foldl_append]
theorem big_append : ∀ (a b : List Lt) (l : List (List Cel)), bigF l (a ++ b) = (bigF l a || bigF (nowF l a) b)
  | [], b, l => by simp [bigF, nowF]
  | c :: a, b, l => by
    show (badF l c || bigF (stepF l c) (a ++ b)) = ((badF l c || bigF (stepF l c) a) || bigF (nowF (stepF l c) a) b)
    rw [big_append a b (stepF l c), Bool.or_assoc]
theorem big_take {l : List (List Cel)} {cs : List Lt} {k : Nat} (hk : k < cs.length) : bigF l (cs.take (k + 1)) = (bigF l (cs.take k) || badF (nowF l (cs.take k)) cs[k]) := by
  rw [List.take_succ_eq_append_getElem hk, big_append]; simp [bigF]
theorem big_mono {l : List (List Cel)} {cs : List Lt} (k : Nat) (h : bigF l cs = false) : bigF l (cs.take k) = false := by
  rw [← List.take_append_drop k cs, big_append, Bool.or_eq_false_iff] at h; exact h.1
theorem big_at {l : List (List Cel)} {cs : List Lt} {k : Nat} (hk : k < cs.length) (h : badF (nowF l (cs.take k)) cs[k] = true) : bigF l cs = true := by
  cases hb : bigF l cs with
  | true => rfl
  | false => have := big_mono (k + 1) hb; rw [big_take hk, h] at this; simp at this
theorem doE_or {l : List (List Cel)} {c : Lt} : c.neg = false → badF l c = false := fun h => by unfold badF; rw [h]; rfl
/-- what stands in a row behind a change -/
theorem mem_step {l : List (List Cel)} (h : FR l) {c : Lt} (hc : factB c.t = true) (hb : badF l c = false) (y : List Cel) : y ∈ stepF l c ↔ if c.t = y then c.neg = true else y ∈ l := by
  unfold stepF doE doF
  unfold badF doE at hb
  cases hn : c.neg with
  | true =>
    rw [hn] at hb
    simp at hb
    simp only [if_true]
    rw [if_pos hb]
    unfold addF addE at *
    rw [if_pos hc] at hb ⊢
    by_cases hin : c.t ∈ l
    · rw [if_pos hin]
      by_cases e : c.t = y
      · rw [if_pos e]; subst e; simp [hin]
      · rw [if_neg e]
    · rw [if_neg hin] at hb ⊢
      by_cases hl : 512 ≤ l.length
      · rw [if_pos hl] at hb; simp at hb
      · rw [if_neg hl, mem_ins]
        by_cases e : c.t = y
        · rw [if_pos e]; simp [e]
        · rw [if_neg e]
          constructor
          · rintro (h1 | h1)
            · exact absurd h1.symm e
            · exact h1
          · exact .inr
  | false =>
    simp only [Bool.false_eq_true, if_false]
    by_cases hin : c.t ∈ l
    · rw [dropE_ok hc hin, if_pos rfl, mem_dropF hc hin]
      by_cases e : c.t = y
      · rw [if_pos e]; simp [e]
      · rw [if_neg e]
        exact ⟨fun h => h.1, fun h => ⟨h, fun e2 => e e2.symm⟩⟩
    · have h3 : dropE l c.t = 3 := by unfold dropE; rw [if_pos hc, if_neg hin]
      rw [h3, if_neg (by omega)]
      by_cases e : c.t = y
      · rw [if_pos e]; subst e; simp [hin]
      · rw [if_neg e]
theorem step_len {l : List (List Cel)} (c : Lt) : (stepF l c).length ≤ l.length + 1 := by
  unfold stepF doF
  split
  · split
    · exact addF_le _
    · unfold dropF
      split
      · split
        · have := List.length_filter_le (fun x => !decide (x = c.t)) l; omega
        · simp
      · simp
  · omega
theorem room_ok {l : List (List Cel)} {c : Lt} (hc : factB c.t = true) (hl : l.length < 512) : badF l c = false := by
  unfold badF doE
  cases hn : c.neg with
  | true => simp only [if_true]; rw [addE_ok hc hl]; rfl
  | false => rfl
/-- where there is room for all, all can be done -/
theorem big_room : ∀ {cs : List Lt} {l : List (List Cel)}, (∀ c ∈ cs, factB c.t = true) → l.length + cs.length ≤ 512 → bigF l cs = false
  | [], _, _, _ => rfl
  | c :: cs, l, h, hl => by
    simp only [List.length_cons] at hl
    unfold bigF
    rw [room_ok (h c (by simp)) (by omega), Bool.false_or]
    exact big_room (fun d hd => h d (List.mem_cons_of_mem _ hd)) (by have := step_len (l := l) c; omega)
/-- of a fact's changes the last one: adds (2), drops (1); n: there is none -/
def lastG (n : Int) (cs : List Lt) (y : List Cel) : Int := cs.foldl (fun n c => if c.t = y then (if c.neg then 2 else 1) else n) n
theorem last_cons (n : Int) (c : Lt) (cs : List Lt) (y : List Cel) : lastG n (c :: cs) y = lastG (if c.t = y then (if c.neg then 2 else 1) else n) cs y := rfl
theorem last_take {n : Int} {cs : List Lt} {y : List Cel} {k : Nat} (hk : k < cs.length) : lastG n (cs.take (k + 1)) y = if cs[k].t = y then (if cs[k].neg then 2 else 1) else lastG n (cs.take k) y := by
  rw [List.take_succ_eq_append_getElem hk]; unfold lastG; rw [List.foldl_append]; rfl
theorem last_none : ∀ {cs : List Lt} {y : List Cel} (n : Int), (∀ c ∈ cs, c.t ≠ y) → lastG n cs y = n
  | [], _, _, _ => rfl
  | c :: cs, y, n, h => by
    rw [last_cons, if_neg (h c (by simp))]
    exact last_none n fun d hd => h d (List.mem_cons_of_mem _ hd)
theorem last_some : ∀ {cs : List Lt} {y : List Cel} (n m : Int), (∃ c ∈ cs, c.t = y) → lastG n cs y = lastG m cs y ∧ (lastG n cs y = 1 ∨ lastG n cs y = 2)
  | [], _, _, _, h => by obtain ⟨c, hc, _⟩ := h; simp at hc
  | c :: cs, y, n, m, h => by
    rw [last_cons, last_cons]
    by_cases hx : ∃ d ∈ cs, d.t = y
    · exact last_some _ _ hx
    · have hno : ∀ d ∈ cs, d.t ≠ y := fun d hd e => hx ⟨d, hd, e⟩
      obtain ⟨d, hd, e⟩ := h
      rcases List.mem_cons.1 hd with rfl | hd
      · rw [if_pos e, if_pos e, last_none _ hno]
        refine ⟨rfl, ?_⟩
        cases d.neg <;> simp
      · exact absurd e (hno d hd)
theorem mem_now : ∀ {cs : List Lt} {l : List (List Cel)} (y : List Cel), FR l → (∀ c ∈ cs, factB c.t = true) → bigF l cs = false → (y ∈ nowF l cs ↔ lastG (if y ∈ l then 2 else 1) cs y = 2)
  | [], l, y, _, _, _ => by
    show y ∈ l ↔ (if y ∈ l then (2 : Int) else 1) = 2
    by_cases h : y ∈ l <;> simp [h]
  | c :: cs, l, y, h, hc, hb => by
    unfold bigF at hb
    rw [Bool.or_eq_false_iff] at hb
    show y ∈ nowF (stepF l c) cs ↔ _
    rw [mem_now y (h.step c) (fun d hd => hc d (List.mem_cons_of_mem _ hd)) hb.2, last_cons]
    have hm := mem_step h (hc c (by simp)) hb.1 y
    have he : (if y ∈ stepF l c then (2 : Int) else 1) = if c.t = y then (if c.neg then 2 else 1) else if y ∈ l then 2 else 1 := by
      by_cases e : c.t = y
      · rw [if_pos e] at hm ⊢
        by_cases hn : c.neg = true
        · rw [if_pos (hm.2 hn), if_pos hn]
        · rw [if_neg (fun h => hn (hm.1 h)), if_neg hn]
      · rw [if_neg e] at hm ⊢
        by_cases hy : y ∈ l
        · rw [if_pos (hm.2 hy), if_pos hy]
        · rw [if_neg (fun h => hy (hm.1 h)), if_neg hy]
    rw [he]
/-- with the last change's word from nothing -/
theorem mem_last {cs : List Lt} {l : List (List Cel)} (y : List Cel) (h : FR l) (hc : ∀ c ∈ cs, factB c.t = true) (hb : bigF l cs = false) : y ∈ nowF l cs ↔ lastG 0 cs y = 2 ∨ lastG 0 cs y = 0 ∧ y ∈ l := by
  rw [mem_now y h hc hb]
  by_cases hx : ∃ d ∈ cs, d.t = y
  · obtain ⟨h1, h2⟩ := last_some (if y ∈ l then 2 else 1) 0 hx
    rw [h1] at h2 ⊢
    constructor
    · exact .inl
    · rintro (h | ⟨h, _⟩)
      · exact h
      · omega
  · have hno : ∀ d ∈ cs, d.t ≠ y := fun d hd e => hx ⟨d, hd, e⟩
    rw [last_none _ hno, last_none _ hno]
    by_cases hy : y ∈ l <;> simp [hy]
/-- changes of unlike facts -/
theorem last_key {y : List Cel} : ∀ {ds : List Lt}, ds.Pairwise (fun a b => a.t ≠ b.t) → ∀ (n : Int), ∀ d ∈ ds, d.t = y → lastG n ds y = if d.neg then 2 else 1 := by
  intro ds hd
  induction hd with
  | nil => intro n d hd; simp at hd
  | @cons a ds h1 _ ih =>
    intro n d hm e
    rw [last_cons]
    rcases List.mem_cons.1 hm with rfl | hm
    · rw [if_pos e]
      exact last_none _ fun b hb e2 => h1 b hb (e.trans e2.symm)
    · exact ih _ d hm e
theorem last_turn {cs : List Lt} (h : cs.Pairwise fun a b => a.t ≠ b.t) (n : Int) (y : List Cel) : lastG n cs.reverse y = lastG n cs y := by
  by_cases hx : ∃ d ∈ cs, d.t = y
  · obtain ⟨d, hd, e⟩ := hx
    have hr : cs.reverse.Pairwise fun a b => a.t ≠ b.t := by rw [List.pairwise_reverse]; exact h.imp fun h1 h2 => h1 h2.symm
    rw [last_key h n d hd e, last_key hr n d (List.mem_reverse.2 hd) e]
  · have hno : ∀ d ∈ cs, d.t ≠ y := fun d hd e => hx ⟨d, hd, e⟩
    rw [last_none _ hno, last_none _ fun d hd => hno d (List.mem_reverse.1 hd)]
theorem now_turn {cs : List Lt} {l : List (List Cel)} (h : FR l) (hc : ∀ c ∈ cs, factB c.t = true) (hl : l.length + cs.length ≤ 512) (hp : cs.Pairwise fun a b => a.t ≠ b.t) : nowF l cs.reverse = nowF l cs := by
  have hc2 : ∀ c ∈ cs.reverse, factB c.t = true := fun c h => hc c (List.mem_reverse.1 h)
  refine h.now.ext h.now fun y => ?_
  rw [mem_now y h hc2 (big_room hc2 (by rw [List.length_reverse]; exact hl)), mem_now y h hc (big_room hc hl), last_turn hp]
/-- how many came and went -/
theorem came_len {a b : List (List Cel)} (ha : FR a) (hb : FR b) : b.length + (lessF a b).length = a.length + (lessF b a).length := by
  have he : b.filter (fun x => decide (x ∈ a)) = a.filter (fun x => decide (x ∈ b)) := (hb.filter _).ext (ha.filter _) fun x => by
    simp only [List.mem_filter, decide_eq_true_eq]; exact And.comm
  have h1 : ∀ (l m : List (List Cel)), (l.filter (fun x => decide (x ∈ m))).length + (lessF l m).length = l.length := fun l m => by
    unfold lessF
    rw [← List.countP_eq_length_filter, ← List.countP_eq_length_filter]
    have h3 := List.length_eq_countP_add_countP (fun x => decide (x ∈ m)) (l := l)
    rw [h3]
    congr 1
    exact List.countP_congr fun x _ => by simp
  have h2 := h1 a b
  have h3 := h1 b a
  rw [he] at h3
  omega
theorem now_len : ∀ (cs : List Lt) (l : List (List Cel)), (nowF l cs).length ≤ l.length + cs.length
  | [], l => by simp [nowF]
  | c :: cs, l => by
    have h := now_len cs (stepF l c)
    have := step_len (l := l) c
    show (nowF (stepF l c) cs).length ≤ _
    simp only [List.length_cons]
    omega
end Go.Proofs.Ytnpffificfghpaa
namespace Go.Proofs.Ytnpffificfghpaa
open Go.RowKit

/-! ### a base, and an act, in memory -/
/-- a base -/
structure Bs where
  f : List (List Cel)
  v : Int
  on : Bool
  td : List Lt
/-- an act -/
structure Ac where
  d : Int
  c : Lt
structure AcE (w : World) (b o : Nat) (x : Ac) : Prop where
  ex : ∃ a cap, w.cell? ⟨b, o, none⟩ = some (.int .u8 x.d) ∧ w.cell? ⟨b, o + 1, none⟩ = some (.bool x.c.neg) ∧ w.cell? ⟨b, o + 2, none⟩ = some (.slice a x.c.t.length cap) ∧ Row w a cap x.c.t
  lo : 0 ≤ x.d
  hi : x.d ≤ 255
instance instRepAc : Rep Ac where
  sz := 3
  E := AcE
  mono h hb := let ⟨a, cap, h0, h1, h2, hr⟩ := h.ex; ⟨⟨a, cap, hb _ _ _ h0, hb _ _ _ h1, hb _ _ _ h2, hr.keeps hb⟩, h.lo, h.hi⟩
  lt h := let ⟨_, _, h0, _⟩ := h.ex; cell_lt h0
theorem ac_at {w wr : World} {b off : Nat} {xs : List Ac} (hat : ∀ i (hi : i < xs.length), Rep.E w b (off + i * Rep.sz Ac) xs[i]) (hb : Below w.heap.size w wr) {k : Nat} (hk : k < xs.length) :
    ∃ a cap, wr.cell? ⟨b, off + k * 3, none⟩ = some (.int .u8 xs[k].d) ∧ wr.cell? ⟨b, off + k * 3 + 1, none⟩ = some (.bool xs[k].c.neg) ∧ wr.cell? ⟨b, off + k * 3 + 2, none⟩ = some (.slice a xs[k].c.t.length cap) ∧ Row wr a cap xs[k].c.t ∧ 0 ≤ xs[k].d ∧ xs[k].d ≤ 255 := by
  have h : AcE w b (off + k * 3) xs[k] := hat k hk
  obtain ⟨a, cap, h0, h1, h2, hr⟩ := h.ex
  exact ⟨a, cap, keep h0 hb, keep h1 hb, keep h2 hb, hr.below hb, h.lo, h.hi⟩
/-- a base whose facts are a row that may be, and whose changes are of facts -/
structure Bs.ok (b : Bs) : Prop where
  f : FR b.f
  td : ∀ c ∈ b.td, factB c.t = true
/-- is it right? -/
noncomputable def tdB (cs : List Lt) : Bool := cs.all fun c => factB c.t
noncomputable def Bs.right (b : Bs) : Bool := frightB b.f && (decide (0 ≤ b.v) && decide (b.v ≤ 1099511627776) && (b.on || decide (b.td.length = 0)) && tdB b.td)
theorem Bs.ok_of {b : Bs} (h : b.right = true) : b.ok := by
  unfold Bs.right tdB at h
  simp only [Bool.and_eq_true, List.all_eq_true] at h
  exact ⟨fright_iff.1 h.1, h.2.2⟩
theorem Bs.right_of {b : Bs} (h : b.ok) (h0 : 0 ≤ b.v) (h1 : b.v ≤ 1099511627776) (hon : b.on = true ∨ b.td = []) : b.right = true := by
  unfold Bs.right tdB
  rw [fright_iff.2 h.f, decide_eq_true h0, decide_eq_true h1, List.all_eq_true.2 h.td]
  rcases hon with h | h
  · rw [h]; rfl
  · rw [h]; simp
/-- what acts make of a base, and tell -/
def Bs.begun (b : Bs) : Bs := { b with on := true }
def Bs.begunE (b : Bs) : Int := if b.on then 130 else 0
noncomputable def Bs.chg (b : Bs) (c : Lt) : Bs := if b.on then (if factB c.t then { b with td := b.td ++ [c] } else b) else b
noncomputable def Bs.chgE (b : Bs) (c : Lt) : Int := if b.on then (if factB c.t then 0 else 120) else 131
noncomputable def Bs.now (b : Bs) : List (List Cel) := nowF b.f b.td
noncomputable def Bs.com (b : Bs) : Bs := if b.on then (if bigF b.f b.td then b else ⟨b.now, b.v + 1, false, []⟩) else b
noncomputable def Bs.comE (b : Bs) : Int := if b.on then (if bigF b.f b.td then 2 else 0) else 131
noncomputable def Bs.came (b : Bs) : List (List Cel) := if b.on then (if bigF b.f b.td then [] else lessF b.now b.f) else []
noncomputable def Bs.went (b : Bs) : List (List Cel) := if b.on then (if bigF b.f b.td then [] else lessF b.f b.now) else []
def Bs.back (b : Bs) : Bs := if b.on then ⟨b.f, b.v, false, []⟩ else b
def Bs.backE (b : Bs) : Int := if b.on then 0 else 131
theorem Bs.ok.begun {b : Bs} (h : b.ok) : b.begun.ok := ⟨h.f, h.td⟩
theorem Bs.ok.chg {b : Bs} (h : b.ok) (c : Lt) : (b.chg c).ok := by
  unfold Bs.chg
  split
  · split
    · next hf =>
      refine ⟨h.f, fun d hd => ?_⟩
      rcases List.mem_append.1 hd with hd | hd
      · exact h.td d hd
      · rw [List.mem_singleton] at hd; rw [hd]; exact hf
    · exact h
  · exact h
theorem Bs.ok.now {b : Bs} (h : b.ok) : FR b.now := h.f.now
theorem Bs.ok.com {b : Bs} (h : b.ok) : b.com.ok := by
  unfold Bs.com
  split
  · split
    · exact h
    · exact ⟨h.now, by simp⟩
  · exact h
theorem Bs.ok.back {b : Bs} (h : b.ok) : b.back.ok := by
  unfold Bs.back
  split
  · exact ⟨h.f, by simp⟩
  · exact h
/-- a change, breaking off by its outcome -/
noncomputable def bigP (p : Bool → Bool → Bool) (l : List (List Cel)) : List Lt → Bool
  | [] => false
  | c :: cs => p c.neg (decide (doE l c = 0)) || bigP p (stepF l c) cs
theorem bigP_add : ∀ (cs : List Lt) (l : List (List Cel)), bigP (fun a d => a && !d) l cs = bigF l cs
  | [], _ => rfl
  | c :: cs, l => by
    show ((c.neg && !decide (doE l c = 0)) || bigP _ (stepF l c) cs) = (badF l c || bigF (stepF l c) cs)
    rw [bigP_add cs]; rfl
theorem bigP_no : ∀ (cs : List Lt) (l : List (List Cel)), bigP (fun _ _ => false) l cs = false
  | [], _ => rfl
  | c :: cs, l => by
    show (false || bigP _ (stepF l c) cs) = false
    rw [bigP_no cs]; rfl
theorem bigP_append (p : Bool → Bool → Bool) : ∀ (a b : List Lt) (l : List (List Cel)), bigP p l (a ++ b) = (bigP p l a || bigP p (nowF l a) b)
  | [], b, l => by simp [bigP, nowF]
  | c :: a, b, l => by
    show (p _ _ || bigP p (stepF l c) (a ++ b)) = ((p _ _ || bigP p (stepF l c) a) || bigP p (nowF (stepF l c) a) b)
    rw [bigP_append p a b (stepF l c), Bool.or_assoc]
theorem bigP_take {p : Bool → Bool → Bool} {l : List (List Cel)} {cs : List Lt} {k : Nat} (hk : k < cs.length) : bigP p l (cs.take (k + 1)) = (bigP p l (cs.take k) || p cs[k].neg (decide (doE (nowF l (cs.take k)) cs[k] = 0))) := by
  rw [List.take_succ_eq_append_getElem hk, bigP_append]; simp [bigP]
theorem bigP_at {p : Bool → Bool → Bool} {l : List (List Cel)} {cs : List Lt} {k : Nat} (hk : k < cs.length) (h : p cs[k].neg (decide (doE (nowF l (cs.take k)) cs[k] = 0)) = true) : bigP p l cs = true := by
  have h1 : bigP p l (cs.take (k + 1)) = true := by rw [bigP_take hk, h, Bool.or_true]
  rw [← List.take_append_drop (k + 1) cs, bigP_append, h1, Bool.true_or]
theorem step_yes {l : List (List Cel)} {c : Lt} (h : doE l c = 0) : stepF l c = doF l c := if_pos h
theorem step_no {l : List (List Cel)} {c : Lt} (h : ¬ doE l c = 0) : stepF l c = l := if_neg h
end Go.Proofs.Ytnpffificfghpaa
namespace Go.Proofs.Ytnpffificfghpaa
open Go.RowKit

section
variable {α : Type} [RepC α]
theorem CRows.get {w : World} {vs : List Value} {xs : List α} (h : CRows w vs xs) : ∀ {j : Nat} (hj : j < xs.length), ∃ cs, RepC.C w cs xs[j] ∧ ∀ q u, cs[q]? = some u → vs[j * Rep.sz α + q]? = some u := by
  induction h with
  | nil => intro j hj; simp at hj
  | @cons cs x vs xs hc _ ih =>
    intro j hj
    cases j with
    | zero =>
      refine ⟨cs, hc, fun q u hq => ?_⟩
      rw [Nat.zero_mul, Nat.zero_add, List.getElem?_append_left (List.getElem?_eq_some_iff.1 hq).1]; exact hq
    | succ j =>
      obtain ⟨cs', hc', hat⟩ := ih (j := j) (by simpa using hj)
      refine ⟨cs', by simpa using hc', fun q u hq => ?_⟩
      rw [List.getElem?_append_right (by rw [RepC.len hc, Nat.succ_mul]; omega), RepC.len hc, show (j + 1) * Rep.sz α + q - Rep.sz α = j * Rep.sz α + q by rw [Nat.succ_mul]; omega]
      exact hat q u hq
/-- one element is another one -/
theorem CRows.set {w : World} {vs : List Value} {xs : List α} (h : CRows w vs xs) : ∀ {i : Nat} (_ : i < xs.length) {cs : List Value} {y : α}, RepC.C w cs y → ∀ {us : List Value}, us.length = vs.length → (∀ q, q < Rep.sz α → us[i * Rep.sz α + q]? = cs[q]?) → (∀ q, q < i * Rep.sz α ∨ (i + 1) * Rep.sz α ≤ q → us[q]? = vs[q]?) → CRows w us (xs.set i y) := by
  induction h with
  | nil => intro i hi; simp at hi
  | @cons cs0 x vs xs hc hr ih =>
    intro i hi cs y hy us hl hat hout
    have hlc := RepC.len hc
    have hly := RepC.len hy
    have hsplit : us = us.take (Rep.sz α) ++ us.drop (Rep.sz α) := (List.take_append_drop _ _).symm
    have hul : us.length = Rep.sz α + vs.length := by rw [hl, List.length_append, hlc]
    cases i with
    | zero =>
      rw [List.set_cons_zero, hsplit]
      have h1 : us.take (Rep.sz α) = cs := by
        refine List.ext_getElem? fun q => ?_
        by_cases hq : q < Rep.sz α
        · rw [List.getElem?_take_of_lt hq]; have := hat q hq; rwa [Nat.zero_mul, Nat.zero_add] at this
        · rw [List.getElem?_eq_none (by simp; omega), List.getElem?_eq_none (by omega)]
      have h2 : us.drop (Rep.sz α) = vs := by
        refine List.ext_getElem? fun q => ?_
        rw [List.getElem?_drop, hout (Rep.sz α + q) (.inr (by omega)), List.getElem?_append_right (by omega), hlc, Nat.add_sub_cancel_left]
      rw [h1, h2]
      exact .cons hy hr
    | succ i =>
      rw [List.set_cons_succ, hsplit]
      have h1 : us.take (Rep.sz α) = cs0 := by
        refine List.ext_getElem? fun q => ?_
        by_cases hq : q < Rep.sz α
        · rw [List.getElem?_take_of_lt hq, hout q (.inl (by rw [Nat.succ_mul]; omega)), List.getElem?_append_left (by omega)]
        · rw [List.getElem?_eq_none (by simp; omega), List.getElem?_eq_none (by omega)]
      rw [h1]
      refine .cons hc (ih (i := i) (by simpa using hi) hy (by rw [List.length_drop, hul]; omega) (fun q hq => ?_) (fun q hq => ?_))
      · rw [List.getElem?_drop, show Rep.sz α + (i * Rep.sz α + q) = (i + 1) * Rep.sz α + q by rw [Nat.succ_mul]; omega]; exact hat q hq
      · rw [List.getElem?_drop, hout (Rep.sz α + q) (by rcases hq with h | h; exact .inl (by rw [Nat.succ_mul]; omega); exact .inr (by rw [Nat.succ_mul] at h ⊢; rw [Nat.succ_mul]; omega)), List.getElem?_append_right (by omega), hlc, Nat.add_sub_cancel_left]
variable {B e : Nat} {acc : List α} {w w' : World} {g n cap : Nat}
theorem AccInv.take (h : AccInv B e acc (.slice (some ⟨g, 0, none⟩) n cap) w) {k : Nat} (hk : k ≤ acc.length) : AccInv B e (acc.take k) (.slice (some ⟨g, 0, none⟩) k cap) w := by
  obtain ⟨vs, ⟨h1, h2⟩, hc⟩ := h.ex
  refine ⟨vs.take (k * Rep.sz α), ⟨?_, ?_⟩, hc.takeL k⟩
  · rw [List.length_take, List.length_take, h1, Nat.min_eq_left hk, Nat.min_eq_left (Nat.mul_le_mul_right _ hk)]
  · rcases h2 with ⟨h, _⟩ | ⟨g', cap', cur, e1, hb, hg, hn, hm, hs, ht⟩
    · cases h
    · injection e1 with e1 e2 e3
      injection e1 with e1
      injection e1 with e1
      subst e1; subst e3
      refine .inr ⟨g, cap, cur, by rw [List.length_take, Nat.min_eq_left hk], hb, hg, by rw [List.length_take]; omega, hm, hs, ?_⟩
      rw [← ht, List.take_take, List.length_take, Nat.min_eq_left hk, Nat.min_eq_left (Nat.mul_le_mul_right _ hk)]
theorem AccInv.len (h : AccInv B e acc (.slice (some ⟨g, 0, none⟩) n cap) w) : n = acc.length := by
  obtain ⟨vs, ⟨h1, h2⟩, hc⟩ := h.ex
  rcases h2 with ⟨h, _⟩ | ⟨g', cap', cur, e1, _⟩
  · cases h
  · injection e1
end
end Go.Proofs.Ytnpffificfghpaa
namespace Go.Proofs.Ytnpffificfghpaa
open Go.RowKit

theorem clone_new2 (a : Option Addr) (cap : Nat) (w : World) (xs : List Cel) (hx : Row w a cap xs) (hl : xs.length ≤ 1000000) :
    Calls Try.prog 149 #[.slice a xs.length cap] w fun e w' => ∃ a2 cap2, e = .returned (.slice a2 xs.length cap2) ∧ NewRow w.heap.size w' a2 cap2 xs ∧ Below w.heap.size w w' :=
  (clone_any a cap w xs hx hl).mono fun e w' ⟨v, he, ho, hb⟩ => by
    obtain ⟨a2, cap2, rfl, hr⟩ := own_new ho hx.fit
    exact ⟨a2, cap2, he, hr, hb⟩
end Go.Proofs.Ytnpffificfghpaa
namespace Go.Proofs.Ytnpffificfghpaa
open Go.RowKit

/-- append of one element, and what is read beside the row -/
theorem wpList_accK {α : Type} [RepC α] {P : Program} {w : World} {ops : Array Oper} {rest : List Oper} {o : Oper} {a : Act} {Q : Exit → Act → World → Prop} (hgd : o.guard = none) (s x : Operand) (t : TypeId)
    (ho : o.op = .call { callee := .builtin .append, args := #[s, x], argTypes := #[t, t] })
    (B e bytes : Nat) (z : Value) (ht : P.underlying t = some (.slice e)) (hinfo : (P.info? e).map (fun i => (i.zero, i.size, i.bytes)) = some (some z, Rep.sz α, bytes))
    (hzs : z.cells.size = Rep.sz α) (hby : bytes ≤ 1000)
    (v : Value) (acc : List α) (hacc : AccInv B e acc v w) (hs : a.eval s = v) (T : Nat) (cs : Array Value) (y : α) (hcs : RepC.C (hide v.ownBlock w) cs.toList y)
    (hx : a.eval x = .slice (some ⟨w.heap.size, 0, none⟩) 1 1)
    (hmax : acc.length + 1 ≤ 1000000000) (hB : B ≤ w.heap.size)
    (h : ∀ v' w', AccInv B e (acc ++ [y]) v' w' → Below B w w' → Keeps (hide v.ownBlock w) (hide v'.ownBlock w') → wpList P ops Q rest (a.put o.dst v') w') : wpList P ops Q (o :: rest) a (w.alloc (.cells cs T)) := by
  obtain ⟨vs, hown, hc⟩ := hacc.ex
  refine wpList_app2 hgd s x t ho B e (Rep.sz α) bytes z ht hinfo hzs RepC.pos hby v acc.length vs hs (hown.alloc _) ⟨w.heap.size, 0, none⟩ 1 1 cs.toList hx (src_new w cs T (Rep.sz α) (by have := RepC.len hcs; simpa using this) (fun u hu => RepC.one hcs u hu)) hmax (Nat.le_trans hB (by simp)) ?_
  intro v' w' h1 _ h3 h4
  refine h v' w' ⟨vs ++ cs.toList, by rw [List.length_append]; exact h1, ?_⟩ (((Below.refl B w).alloc hB _).trans h3) ((alloc_hide w _ _).trans h4)
  exact ((hc.keeps (alloc_hide w _ _)).keeps h4).snoc (RepC.cmono (RepC.cmono hcs (alloc_hide w _ _)) h4)
/-- append of all of a slice, and what is read beside the row -/
theorem wpList_accsK {α : Type} [RepC α] {P : Program} {w : World} {ops : Array Oper} {rest : List Oper} {o : Oper} {a : Act} {Q : Exit → Act → World → Prop} (hgd : o.guard = none) (s x : Operand) (t : TypeId)
    (ho : o.op = .call { callee := .builtin .append, args := #[s, x], argTypes := #[t, t] })
    (B e bytes : Nat) (z : Value) (ht : P.underlying t = some (.slice e)) (hinfo : (P.info? e).map (fun i => (i.zero, i.size, i.bytes)) = some (some z, Rep.sz α, bytes))
    (hzs : z.cells.size = Rep.sz α) (hby : bytes ≤ 1000)
    (v : Value) (acc : List α) (hacc : AccInv B e acc v w) (hs : a.eval s = v) (sa : Option Addr) (cap : Nat) (ys : List α) (hr : Row (hide v.ownBlock w) sa cap ys)
    (hx : a.eval x = .slice sa ys.length cap)
    (hmax : acc.length + ys.length ≤ 1000000000) (hB : B ≤ w.heap.size)
    (h : ∀ v' w', AccInv B e (acc ++ ys) v' w' → Below B w w' → Keeps (hide v.ownBlock w) (hide v'.ownBlock w') → wpList P ops Q rest (a.put o.dst v') w') : wpList P ops Q (o :: rest) a w := by
  obtain ⟨vs, hown, hc⟩ := hacc.ex
  obtain ⟨us, hu, hsrc⟩ := hr.srcK (hide_keeps _ _)
  cases sa with
  | none =>
    have h0 : ys.length = 0 := (hsrc.nil rfl).1
    have hc0 : cap = 0 := (hsrc.nil rfl).2
    obtain rfl : ys = [] := List.eq_nil_of_length_eq_zero h0
    obtain ⟨i, hi, hz0, hz1, hz2⟩ := info_parts hinfo
    subst hc0
    refine wpList_append_own_none hgd s x t ho B e i (Rep.sz α) ht hi v acc.length vs hs hown hx ?_
    exact h v w ⟨vs, by rw [List.append_nil]; exact hown, by rw [List.append_nil]; exact hc⟩ (Below.refl _ _) (fun _ _ _ h => h)
  | some ad =>
    refine wpList_app2 hgd s x t ho B e (Rep.sz α) bytes z ht hinfo hzs RepC.pos hby v acc.length vs hs hown ad ys.length cap us hx hsrc hmax hB ?_
    intro v' w' h1 _ h3 h4
    exact h v' w' ⟨vs ++ us, by rw [List.length_append]; exact h1, (hc.keeps h4).append (hu.keeps h4)⟩ h3 h4

set_option maxHeartbeats 800000 in
theorem refvars_new (a : Option Addr) (cap : Nat) (w : World) (xs : List Cel) (hr : Row w a cap xs) (hl : xs.length ≤ 1000000) :
    Calls Try.prog 170 #[.slice a xs.length cap] w fun e w' => ∃ a' cap', e = .returned (.slice a' (varsL xs).length cap') ∧ NewRow w.heap.size w' a' cap' (varsL xs) ∧ Below w.heap.size w w' := by
  have hc := hr.le
  have hc2 := hr.max
  have hm0 := World.ownsRow_made (base := w.heap.size) (e := 3) (size := 1) w #[] 0 (Nat.le_refl _) (by unfold maxLen; omega) rfl
  have hb0 := (Below.refl w.heap.size w).new (.cells #[] 3)
  go_enter Try.func170, Try.ntmps170
  go_wp2_with fail
  go_loopw [3, 4] (fun v i wr => ∃ (k : Nat) (acc : List Int), k ≤ xs.length ∧ acc.length ≤ k ∧ i = .int .i64 k ∧ wr.ownsRow w.heap.size 3 1 v acc.length (acc.map (Value.int .i64)) ∧ Below w.heap.size w wr ∧ (∀ n ∈ acc, -9223372036854775808 ≤ n ∧ n ≤ 9223372036854775807) ∧ Hid (varsL xs = varsGo acc (xs.drop k))) (fun v i wr => xs.length - (intOf i).toNat)
  case atStart => exact ⟨0, [], Nat.zero_le _, Nat.zero_le _, rfl, hm0, hb0, by simp, rfl⟩
  case round =>
    obtain ⟨k, acc, hk, hak, rfl, hown, hbl, haf, HS⟩ := hrel
    obtain ⟨a', cap', rfl, hrowN⟩ := own_rowI (under_own hown) haf
    have hrow := Row.keeps hrowN (under_keeps _ _)
    have HN := mkHid hrowN
    clear hrowN
    have HA := mkHid haf
    by_cases hlt : k < xs.length
    · obtain ⟨b, off, rfl, hb, hat⟩ := hr.cases.resolve_left (fun e => by simp [e] at hlt)
      obtain ⟨c0, c1, c2, hf⟩ := cel_at hat hbl hlt
      have hst := varsGo_step acc xs k hlt
      by_cases h1 : xs[k].k = 1
      · have t1 : (xs[k].k == 1) = true := by simp [h1]
        by_cases h2 : xs[k].n ∈ acc
        · have HT : Hid (varsL xs = varsGo acc (xs.drop (k + 1))) := by rw [Hid, HS.out, hst, if_neg (by simp [h2])]
          have hd := mkHid (decide_eq_true h2)
          clear h1 h2 HS hst haf
          go_wp2_with (go_at_call 103; refine (refin_any a' cap' xs[k].n _ acc hrow).mono ?_; rintro e w' ⟨rfl, hb1⟩; rw [hd.out])
          go_round
          case rel => exact ⟨k + 1, acc, by omega, by omega, by go_num, own_below hown hb1, hbl.then hb1, HA.out, HT⟩
          case measure => simp [intOf]; omega
        · have HT : Hid (varsL xs = varsGo (acc ++ [xs[k].n]) (xs.drop (k + 1))) := by rw [Hid, HS.out, hst, if_pos ⟨h1, h2⟩]
          have hd := mkHid (decide_eq_false h2)
          clear h1 h2 HS hst haf
          go_wp2_with (first
            | (go_at_call 103; refine (refin_any a' cap' xs[k].n _ acc hrow).mono ?_; rintro e w' ⟨rfl, hb1⟩; rw [hd.out]; have d0 := keep c0 hb1; have d2 := keep c2 hb1; have hown1 := own_below hown hb1; have hbl1 := hbl.then hb1; clear c0 c1 c2)
            | (at_builtin; refine wpList_app rfl _ _ 65 rfl w.heap.size 3 1 8 _ Try.underlying65 Try.infoInt rfl (by decide) (by decide) _ acc.length _ rfl (hown1.alloc _) (some ⟨_, 0, none⟩) 1 1 [.int .i64 xs[k].n] rfl (src_new _ #[.int .i64 xs[k].n] _ 1 rfl (by simp [Value.oneCell'])) (by omega) (Nat.le_trans hbl1.size (by simp)) ?_; intro v' w2 hown2 _ hb2))
          go_round
          case rel => exact ⟨k + 1, acc ++ [xs[k].n], by omega, by simp; omega, by go_num, by simpa using hown2, (hbl1.new _).trans hb2, out_fit HA.out hf.n1 hf.n2, HT⟩
          case measure => simp [intOf]; omega
      · have t1 : (xs[k].k == 1) = false := by simp [h1]
        have HT : Hid (varsL xs = varsGo acc (xs.drop (k + 1))) := by rw [Hid, HS.out, hst, if_neg (fun h => h1 h.1)]
        clear h1 HS hst haf
        go_wp2
        go_round
        case rel => exact ⟨k + 1, acc, by omega, by omega, by go_num, hown, hbl, HA.out, HT⟩
        case measure => simp [intOf]; omega
    · have HT : Hid (varsL xs = acc) := by rw [Hid, HS.out, List.drop_eq_nil_of_le (by omega)]; rfl
      clear HS haf
      go_wp2
      go_ret
      exact ⟨a', cap', by rw [HT.out]; rfl, by rw [HT.out]; exact HN.out, hbl⟩
end Go.Proofs.Ytnpffificfghpaa
namespace Go.Proofs.Ytnpffificfghpaa
open Go.RowKit

/-- all blocks that were there, but some, are as they were -/
structure Fr (us : List Nat) (w w' : World) : Prop where
  os : w'.os = w.os
  tape : w'.tape = w.tape
  output : w'.output = w.output
  size : w.heap.size ≤ w'.heap.size
  block : ∀ k, k < w.heap.size → k ∉ us → w'.heap[k]? = w.heap[k]?
section
variable {us : List Nat} {w w' w'' : World}
theorem Fr.refl (us : List Nat) (w : World) : Fr us w w := ⟨rfl, rfl, rfl, Nat.le_refl _, fun _ _ _ => rfl⟩
theorem Fr.trans (h : Fr us w w') (k : Fr us w' w'') : Fr us w w'' :=
  ⟨k.os.trans h.os, k.tape.trans h.tape, k.output.trans h.output, Nat.le_trans h.size k.size, fun i hi hn => (k.block i (Nat.lt_of_lt_of_le hi h.size) hn).trans (h.block i hi hn)⟩
theorem Fr.of (h : Below w.heap.size w w') : Fr us w w' := ⟨h.os, h.tape, h.output, h.size, fun k hk _ => h.block k hk⟩
theorem Fr.alloc (h : Fr us w w') (o : Obj) : Fr us w (w'.alloc o) := h.trans (Fr.of ((Below.refl _ _).new o))
theorem Fr.drew (h : Fr us w w') : Fr us w w'.drew := h.trans (Fr.of (Below.refl _ _).drew)
theorem Fr.set (h : Fr us w w') {g k : Nat} (hg : g ∈ us) (v : Value) : Fr us w (w'.setCell ⟨g, k, none⟩ v) :=
  h.trans ⟨rfl, rfl, rfl, by simp [World.setCell], fun i _ hn => Below.heap_setCell _ _ _ _ (fun e => hn (by rw [show i = g from e]; exact hg))⟩
theorem Fr.sub {vs : List Nat} (h : Fr us w w') (hs : ∀ k ∈ us, k ∈ vs) : Fr vs w w' := ⟨h.os, h.tape, h.output, h.size, fun k hk hn => h.block k hk fun e => hn (hs k e)⟩
/-- what lies below all of them is as it was -/
theorem Fr.below (h : Fr us w w') {B : Nat} (hB : B ≤ w.heap.size) (hu : ∀ k ∈ us, B ≤ k) : Below B w w' :=
  ⟨h.os, h.tape, h.output, h.size, fun k hk => h.block k (by omega) fun e => by have := hu k e; omega⟩
/-- blocks that are newer than the first world don't count -/
theorem Fr.fresh {vs : List Nat} (h : Fr (vs ++ us) w w') (hv : ∀ k ∈ vs, w.heap.size ≤ k) : Fr us w w' :=
  ⟨h.os, h.tape, h.output, h.size, fun k hk hn => h.block k hk fun e => by
    rcases List.mem_append.1 e with e | e
    · have := hv k e; omega
    · exact hn e⟩
end
/-- the world without some blocks -/
def veil (us : List Nat) (w : World) : World := { w with heap := w.heap.mapIdx fun i o => if i ∈ us then .cells #[] 0 else o }
theorem veil_heap {us : List Nat} {w : World} {b : Nat} (h : b ∉ us) : (veil us w).heap[b]? = w.heap[b]? := by
  unfold veil
  rw [Array.getElem?_mapIdx]
  cases hw : w.heap[b]? with
  | none => rfl
  | some o => simp [h]
theorem veil_cell {us : List Nat} {w : World} {b o : Nat} {v : Value} (h : (veil us w).cell? ⟨b, o, none⟩ = some v) : b ∉ us ∧ w.cell? ⟨b, o, none⟩ = some v := by
  by_cases hb : b ∈ us
  · exfalso
    unfold veil at h
    simp only [World.cell?, Array.getElem?_mapIdx] at h
    cases hw : w.heap[b]? with
    | none => rw [hw] at h; simp at h
    | some o => rw [hw] at h; simp [hb] at h
  · refine ⟨hb, ?_⟩
    rwa [World.cell?, veil_heap hb] at h
theorem veil_of {us : List Nat} {w : World} {b o : Nat} {v : Value} (hb : b ∉ us) (h : w.cell? ⟨b, o, none⟩ = some v) : (veil us w).cell? ⟨b, o, none⟩ = some v := by
  rwa [World.cell?, veil_heap hb]
theorem veil_keeps (us : List Nat) (w : World) : Keeps (veil us w) w := fun _ _ _ h => (veil_cell h).2
theorem Fr.keeps {us : List Nat} {w w' : World} (h : Fr us w w') : Keeps (veil us w) (veil us w') := by
  intro b o v hc
  obtain ⟨hb, hc'⟩ := veil_cell hc
  exact veil_of hb ((World.cell?_of_block (w := w) (a := ⟨b, o, none⟩) (h.block b (cell_lt hc') hb)).trans hc')
/-- what is elder than all of them is read without them -/
theorem veil_fresh {w0 w : World} {us : List Nat} (h : Keeps w0 w) (hu : ∀ k ∈ us, w0.heap.size ≤ k) : Keeps w0 (veil us w) := fun b o v hc => by
  have hl := cell_lt hc
  exact veil_of (fun e => by have := hu b e; omega) (h _ _ _ hc)
theorem veil_mono {us vs : List Nat} (w : World) (h : ∀ k ∈ vs, k ∈ us) : Keeps (veil us w) (veil vs w) := fun b o v hc => by
  obtain ⟨hb, hc'⟩ := veil_cell hc
  exact veil_of (fun e => hb (h b e)) hc'

/-- a block of numbers -/
def RowU (w : World) (u : Nat) (U : List Int) : Prop := w.heap[u]? = some (.cells (U.map (Value.int .i64)).toArray 3 (0, 0))
section
variable {us : List Nat} {w w' : World} {u : Nat} {U : List Int}
theorem RowU.lt (h : RowU w u U) : u < w.heap.size := by
  unfold RowU at h
  exact (Array.getElem?_eq_some_iff.1 h).1
theorem RowU.read (h : RowU w u U) {k : Nat} (hk : k < U.length) : w.cell? ⟨u, k, none⟩ = some (.int .i64 U[k]) := by
  rw [cell_of_row w u k _ _ _ h]; simp [hk]
theorem RowU.free (h : RowU w u U) (k : Nat) : w.frozen? ⟨u, k, none⟩ = false := by
  unfold RowU at h
  simp [World.frozen?, h]
theorem RowU.set (h : RowU w u U) (k : Nat) (v : Int) : RowU (w.setCell ⟨u, k, none⟩ (.int .i64 v)) u (U.set k v) := by
  unfold RowU at *
  have hl := (Array.getElem?_eq_some_iff.1 h).1
  simp only [World.setCell, Array.getElem?_modify, if_true, h, Option.map_some]
  simp
theorem RowU.fr (h : RowU w u U) (hf : Fr us w w') (hu : u ∉ us) : RowU w' u U := (hf.block u h.lt hu).trans h
theorem RowU.below (h : RowU w u U) (hb : Below w.heap.size w w') : RowU w' u U := (hb.block u h.lt).trans h
theorem RowU.alloc (h : RowU w u U) (o : Obj) : RowU (w.alloc o) u U := h.below ((Below.refl _ _).new o)
theorem RowU.drew (h : RowU w u U) : RowU w.drew u U := h
theorem RowU.setOther (h : RowU w u U) {g k : Nat} (hg : g ≠ u) (v : Value) : RowU (w.setCell ⟨g, k, none⟩ v) u U := (Below.heap_setCell w ⟨g, k, none⟩ v u (Ne.symm hg)).trans h
end

/-- the places of two terms and their classes, but for what changes -/
structure Cls (z : World) (C u s m : Nat) (l : List Cel) (E : List Int) : Prop where
  cells : ∃ a cap, z.cell? ⟨C, 0, none⟩ = some (.slice a l.length cap) ∧ Row z a cap l
  behind : ∃ a cap, z.cell? ⟨C, 1, none⟩ = some (.slice a E.length cap) ∧ Row z a cap E
  first : z.cell? ⟨C, 2, none⟩ = some (.map (some m))
  up : ∃ cap, l.length ≤ cap ∧ cap ≤ 9223372036854775807 ∧ z.cell? ⟨C, 3, none⟩ = some (.slice (some ⟨u, 0, none⟩) l.length cap)
  size : ∃ cap, l.length ≤ cap ∧ cap ≤ 9223372036854775807 ∧ z.cell? ⟨C, 4, none⟩ = some (.slice (some ⟨s, 0, none⟩) l.length cap)
  us : u ≠ s
theorem Cls.keeps {z z' : World} {C u s m : Nat} {l : List Cel} {E : List Int} (h : Cls z C u s m l E) (hk : Keeps z z') : Cls z' C u s m l E := by
  obtain ⟨⟨a, ca, h0, hr⟩, ⟨b, cb, h1, hr1⟩, h2, ⟨c, hc1, hc2, h3⟩, ⟨d, hd1, hd2, h4⟩, h5⟩ := h
  exact ⟨⟨a, ca, hk _ _ _ h0, hr.keeps hk⟩, ⟨b, cb, hk _ _ _ h1, hr1.keeps hk⟩, hk _ _ _ h2, ⟨c, hc1, hc2, hk _ _ _ h3⟩, ⟨d, hd1, hd2, hk _ _ _ h4⟩, h5⟩

/-! ### the forest of the places -/
/-- r: the place that stands for the class; d: falls on the way there -/
structure Roots (n : Nat) (U : List Int) (r d : Nat → Nat) : Prop where
  len : U.length = n
  up : ∀ x, x < n → ∃ y : Nat, U[x]? = some (y : Int) ∧ y < n ∧ r y = r x ∧ (y ≠ x → d y < d x) ∧ (y = x → r x = x)
  lt : ∀ x, x < n → r x < n
  top : ∀ x, x < n → U[r x]? = some (r x : Int)
section
variable {n : Nat} {U : List Int} {r d : Nat → Nat}
theorem Roots.halve (h : Roots n U r d) {x y z : Nat} (hx : x < n) (hy : U[x]? = some (y : Int)) (hne : y ≠ x) (hz : U[y]? = some (z : Int)) : Roots n (U.set x (z : Int)) r d := by
  obtain ⟨y', e1, hy1, hy2, hy3, _⟩ := h.up x hx
  rw [hy] at e1
  obtain rfl : y = y' := by injection e1 with e1; omega
  obtain ⟨z', e2, hz1, hz2, hz3, _⟩ := h.up y hy1
  rw [hz] at e2
  obtain rfl : z = z' := by injection e2 with e2; omega
  have hdy := hy3 hne
  have hdz : d z < d x := by
    by_cases e : z = y
    · rw [e]; exact hdy
    · have := hz3 e; omega
  have hxl : x < U.length := by rw [h.len]; exact hx
  refine ⟨by rw [List.length_set]; exact h.len, fun q hq => ?_, h.lt, fun q hq => ?_⟩
  · by_cases e : x = q
    · subst e
      refine ⟨z, by rw [List.getElem?_set_self hxl], hz1, hz2.trans hy2, fun _ => hdz, fun e => ?_⟩
      rw [e] at hdz; omega
    · rw [List.getElem?_set_ne e]; exact h.up q hq
  · by_cases e : x = r q
    · exfalso
      have h1 := h.top q hq
      rw [← e, hy] at h1
      injection h1 with h1
      omega
    · rw [List.getElem?_set_ne e]; exact h.top q hq
end
end Go.Proofs.Ytnpffificfghpaa
set_option linter.unusedVariables false
namespace Go.Proofs.Ytnpffificfghpaa
open Go.RowKit

theorem own_blockN {w w' : World} {B e size n : Nat} {v : Value} {xs : List Value} (h : w.ownsRow B e size v n xs) (hb : ∀ b, v.ownBlock = some b → w'.heap[b]? = w.heap[b]?) : w'.ownsRow B e size v n xs := by
  refine ⟨h.1, ?_⟩
  rcases h.2 with hn | ⟨g, cap, cur, rfl, hB, hgg, rest⟩
  · exact .inl hn
  · exact .inr ⟨g, cap, cur, rfl, hB, (hb g rfl).trans hgg, rest⟩
theorem add_litR (b o j : Nat) : (Addr.mk b o none).add j = ⟨b, o + j, none⟩ := by unfold Addr.add; split <;> simp_all
theorem veil_toR {us vs : List Nat} {w W : World} (hf : Fr us w W) (h : ∀ k ∈ vs, k ∈ us ∨ w.heap.size ≤ k) : Keeps (veil us w) (veil vs W) := by
  intro b o v hc
  obtain ⟨h1, h2⟩ := veil_cell hc
  have hl := cell_lt h2
  refine veil_of (fun e => (h b e).elim h1 (fun q => by omega)) ((World.cell?_of_block (w := w) (a := ⟨b, o, none⟩) (hf.block b hl h1)).trans h2)
/-! ### rows that are appended to, their elements read in a view of the world -/
theorem veil_own {us : List Nat} {w : World} {B e size n : Nat} {v : Value} {xs : List Value} (h : w.ownsRow B e size v n xs) (hu : ∀ k ∈ us, k < B) : (veil us w).ownsRow B e size v n xs := by
  refine ⟨h.1, h.2.imp id fun ⟨g, cap, cur, e1, hB, hg, rest⟩ => ⟨g, cap, cur, e1, hB, (veil_heap fun e2 => ?_).trans hg, rest⟩⟩
  have := hu g e2
  omega
/-- a row of the call's own, its elements read in a view -/
def VOwn {α : Type} [RepC α] (V : World) (B e : Nat) (acc : List α) (v : Value) (w : World) : Prop := ∃ vs, w.ownsRow B e (Rep.sz α) v acc.length vs ∧ CRows V vs acc
theorem VOwn.row {α : Type} [RepC α] {V w : World} {B e : Nat} {acc : List α} {v : Value} (h : VOwn V B e acc v w) {us : List Nat} (hu : ∀ k ∈ us, k < B) (hk : Keeps V (veil us w)) : ∃ a cap, v = .slice a acc.length cap ∧ Row (veil us w) a cap acc := by
  obtain ⟨vs, ho, hc⟩ := h
  exact own_rowG (veil_own ho hu) (hc.keeps hk)
theorem VOwn.made {α : Type} [RepC α] (V : World) {B e : Nat} (w : World) (hB : B ≤ w.heap.size) : VOwn V B e ([] : List α) (.slice (some ⟨w.heap.size, 0, none⟩) 0 0) (w.alloc (.cells #[] e)) :=
  ⟨[], by simpa using World.ownsRow_made (base := B) (e := e) (size := Rep.sz α) w #[] 0 hB (by unfold maxLen; omega) (by simp), .nil⟩
theorem VOwn.below {α : Type} [RepC α] {V w w' : World} {B e : Nat} {acc : List α} {v : Value} (h : VOwn V B e acc v w) (hb : Below w.heap.size w w') : VOwn V B e acc v w' :=
  let ⟨vs, ho, hc⟩ := h
  ⟨vs, own_blockN ho fun b e => hb.block b (ho.lt b e).2, hc⟩
theorem VOwn.lt {α : Type} [RepC α] {V w : World} {B e : Nat} {acc : List α} {v : Value} (h : VOwn V B e acc v w) : ∀ k, v.ownBlock = some k → B ≤ k ∧ k < w.heap.size := let ⟨_, ho, _⟩ := h; ho.lt
section
variable {α : Type} [RepC α] {V w : World} {t B e bytes : Nat} {z : Value}
/-- append of all of a slice -/
theorem appAll (ht : Try.prog.underlying t = some (.slice e)) (hinfo : (Try.prog.info? e).map (fun i => (i.zero, i.size, i.bytes)) = some (some z, Rep.sz α, bytes)) (hzs : z.cells.size = Rep.sz α) (hby : bytes ≤ 1000)
    {v : Value} {acc : List α} (h : VOwn V B e acc v w) (hk : Keeps V w) {sa : Option Addr} {cap : Nat} {ys : List α} (hr : Row V sa cap ys) (hmax : acc.length + ys.length ≤ 1000000000) (hB : B ≤ w.heap.size) :
    ∃ v' w', (Builtin.append_ #[t, t] t #[v, .slice sa ys.length cap]).run Try.prog w = .ok v' w' ∧ VOwn V B e (acc ++ ys) v' w' ∧ Below B w w' ∧ w.grownBy w' v.ownBlock ∧ (v'.ownBlock = v.ownBlock ∨ v'.ownBlock = some w.heap.size) := by
  obtain ⟨vs, hown, hc⟩ := h
  obtain ⟨us, hu, hsrc⟩ := hr.srcK hk
  obtain ⟨i, hi, hz0, hz1, hz2⟩ := info_parts hinfo
  cases sa with
  | none =>
    have h0 : ys.length = 0 := (hsrc.nil rfl).1
    have hc0 : cap = 0 := (hsrc.nil rfl).2
    obtain rfl : ys = [] := List.eq_nil_of_length_eq_zero h0
    subst hc0
    exact ⟨v, w, run_append_owned_none (P := Try.prog) (w := w) B t t e i (Rep.sz α) ht hi v acc.length vs hown, ⟨vs, by rw [List.append_nil]; exact hown, by rw [List.append_nil]; exact hc⟩, Below.refl _ _, ⟨rfl, rfl, rfl, Nat.le_refl _, fun _ _ _ => rfl⟩, .inl rfl⟩
  | some ad =>
    have hb : (acc.length + ys.length) * bytes ≤ 140737488355328 := Nat.le_trans (Nat.mul_le_mul hmax hby) (by decide)
    obtain ⟨v', w', hr, h2, h3, h4⟩ := run_append_where (P := Try.prog) w B t t e i z (Rep.sz α) bytes ht hi hz0 hz1 hz2 hzs RepC.pos v acc.length vs hown ad ys.length cap us hsrc.len (hsrc.cells ad rfl) hsrc.one (by unfold maxLen; omega) hb hB
    exact ⟨v', w', hr, ⟨vs ++ us, by rw [List.length_append]; exact h2, hc.append hu⟩, grown_below h3 hown hB, h3, h4⟩
/-- append of one that was laid at a block -/
theorem appLit (ht : Try.prog.underlying t = some (.slice e)) (hinfo : (Try.prog.info? e).map (fun i => (i.zero, i.size, i.bytes)) = some (some z, Rep.sz α, bytes)) (hzs : z.cells.size = Rep.sz α) (hby : bytes ≤ 1000)
    {v : Value} {acc : List α} (h : VOwn V B e acc v w) {cs : Array Value} {y : α} (hcs : RepC.C V cs.toList y) {g T : Nat} (hg : w.heap[g]? = some (.cells cs T (0, 0))) (hmax : acc.length + 1 ≤ 1000000000) (hB : B ≤ w.heap.size) :
    ∃ v' w', (Builtin.append_ #[t, t] t #[v, .slice (some ⟨g, 0, none⟩) 1 1]).run Try.prog w = .ok v' w' ∧ VOwn V B e (acc ++ [y]) v' w' ∧ Below B w w' ∧ w.grownBy w' v.ownBlock := by
  obtain ⟨vs, hown, hc⟩ := h
  obtain ⟨i, hi, hz0, hz1, hz2⟩ := info_parts hinfo
  have hb : (acc.length + 1) * bytes ≤ 140737488355328 := Nat.le_trans (Nat.mul_le_mul hmax hby) (by decide)
  obtain ⟨v', w', hr, h2, h3, h4⟩ := run_append_where (P := Try.prog) w B t t e i z (Rep.sz α) bytes ht hi hz0 hz1 hz2 hzs RepC.pos v acc.length vs hown ⟨g, 0, none⟩ 1 1 cs.toList (by have := RepC.len hcs; simpa using this) (fun j u hj => by
    have e1 : (Addr.mk g 0 none).add j = ⟨g, j, none⟩ := by
      have h := add_litR g 0 j
      rw [Nat.zero_add] at h
      exact h
    rw [e1, cell_of_row w g j _ _ _ hg, ← hj]
    simp) (fun u hu => RepC.one hcs u hu) (by unfold maxLen; omega) hb hB
  exact ⟨v', w', hr, ⟨vs ++ cs.toList, by rw [List.length_append]; exact h2, hc.snoc hcs⟩, grown_below h3 hown hB, h3⟩
end
/-! ### append(append([]T{}, xs...), y): its three orders -/
section
variable {α : Type} [RepC α] {V z0 : World} {t e bytes : Nat} {z : Value} {us : List Nat} {sa : Option Addr} {cap : Nat} {xs : List α} {cs : Array Value} {y : α}
/-- the literal first -/
theorem three_a (ht : Try.prog.underlying t = some (.slice e)) (hinfo : (Try.prog.info? e).map (fun i => (i.zero, i.size, i.bytes)) = some (some z, Rep.sz α, bytes)) (hzs : z.cells.size = Rep.sz α) (hby : bytes ≤ 1000)
    (hu : ∀ k ∈ us, k < z0.heap.size) (hr : Row (veil us z0) sa cap xs) (hcs : RepC.C (veil us z0) cs.toList y) (hl : xs.length ≤ 1000000) (n : Nat) (hn : xs.length = n) :
    ∃ v1 w1 a2 c2 w2, (Builtin.append_ #[t, t] t #[.slice (some ⟨z0.heap.size + 1, 0, none⟩) 0 0, .slice sa n cap]).run Try.prog ((z0.alloc (.cells cs e)).alloc (.cells #[] e)) = .ok v1 w1 ∧
      (Builtin.append_ #[t, t] t #[v1, .slice (some ⟨z0.heap.size, 0, none⟩) 1 1]).run Try.prog w1 = .ok (.slice a2 (n + 1) c2) w2 ∧
      Row (veil us w2) a2 c2 (xs ++ [y]) ∧ Below z0.heap.size z0 w1 ∧ Below z0.heap.size z0 w2 := by
  subst hn
  have hb1 := (Below.refl z0.heap.size z0).new (.cells cs e)
  have hb2 := hb1.new (.cells #[] e)
  have hs : (z0.alloc (.cells cs e)).heap.size = z0.heap.size + 1 := by simp
  have h0 : VOwn (veil us z0) z0.heap.size e ([] : List α) (.slice (some ⟨z0.heap.size + 1, 0, none⟩) 0 0) ((z0.alloc (.cells cs e)).alloc (.cells #[] e)) := by
    have h := VOwn.made (α := α) (veil us z0) (B := z0.heap.size) (e := e) (z0.alloc (.cells cs e)) (by simp)
    rw [hs] at h
    exact h
  obtain ⟨v1, w1, r1, k1, b1, g1, o1⟩ := appAll ht hinfo hzs hby h0 ((veil_keeps us z0).trans (Keeps.of hb2)) hr (by simp; omega) hb2.size
  rw [List.nil_append] at k1
  have hg0 : ((z0.alloc (.cells cs e)).alloc (.cells #[] e)).heap[z0.heap.size]? = some (.cells cs e (0, 0)) := (heap_alloc_old _ _ (by simp)).trans (heap_alloc_new _ _)
  have hg1 : w1.heap[z0.heap.size]? = some (.cells cs e (0, 0)) := (g1.block z0.heap.size (by simp; omega) (fun e9 => by
    have e8 : (some z0.heap.size : Option Nat) = some (z0.heap.size + 1) := e9
    injection e8 with e8; omega)).trans hg0
  have hc1 := hb2.trans b1
  obtain ⟨v2, w2, r2, k2, b2, g2⟩ := appLit ht hinfo hzs hby k1 hcs hg1 (by omega) hc1.size
  have hc2 := hc1.trans b2
  obtain ⟨a2, c2, rfl, hr2⟩ := k2.row hu (veil_toR (Fr.of hc2) fun k hk => .inl hk)
  rw [List.length_append, List.length_singleton] at r2
  exact ⟨v1, w1, a2, c2, w2, r1, r2, hr2, hc1, hc2⟩
/-- the empty row, the literal -/
theorem three_b (ht : Try.prog.underlying t = some (.slice e)) (hinfo : (Try.prog.info? e).map (fun i => (i.zero, i.size, i.bytes)) = some (some z, Rep.sz α, bytes)) (hzs : z.cells.size = Rep.sz α) (hby : bytes ≤ 1000)
    (hu : ∀ k ∈ us, k < z0.heap.size) (hr : Row (veil us z0) sa cap xs) (hcs : RepC.C (veil us z0) cs.toList y) (hl : xs.length ≤ 1000000) (n : Nat) (hn : xs.length = n) :
    ∃ v1 w1 a2 c2 w2, (Builtin.append_ #[t, t] t #[.slice (some ⟨z0.heap.size, 0, none⟩) 0 0, .slice sa n cap]).run Try.prog ((z0.alloc (.cells #[] e)).alloc (.cells cs e)) = .ok v1 w1 ∧
      (Builtin.append_ #[t, t] t #[v1, .slice (some ⟨z0.heap.size + 1, 0, none⟩) 1 1]).run Try.prog w1 = .ok (.slice a2 (n + 1) c2) w2 ∧
      Row (veil us w2) a2 c2 (xs ++ [y]) ∧ Below z0.heap.size z0 w1 ∧ Below z0.heap.size z0 w2 := by
  subst hn
  have hb1 := (Below.refl z0.heap.size z0).new (.cells #[] e)
  have hb2 := hb1.new (.cells cs e)
  have hs : (z0.alloc (.cells #[] e)).heap.size = z0.heap.size + 1 := by simp
  have h0 : VOwn (veil us z0) z0.heap.size e ([] : List α) (.slice (some ⟨z0.heap.size, 0, none⟩) 0 0) ((z0.alloc (.cells #[] e)).alloc (.cells cs e)) :=
    (VOwn.made (α := α) (veil us z0) (B := z0.heap.size) (e := e) z0 (Nat.le_refl _)).below ((Below.refl _ _).new _)
  obtain ⟨v1, w1, r1, k1, b1, g1, o1⟩ := appAll ht hinfo hzs hby h0 ((veil_keeps us z0).trans (Keeps.of hb2)) hr (by simp; omega) hb2.size
  rw [List.nil_append] at k1
  have hg0 : ((z0.alloc (.cells #[] e)).alloc (.cells cs e)).heap[z0.heap.size + 1]? = some (.cells cs e (0, 0)) := by
    rw [← hs]; exact heap_alloc_new _ _
  have hg1 : w1.heap[z0.heap.size + 1]? = some (.cells cs e (0, 0)) := (g1.block (z0.heap.size + 1) (by simp) (fun e9 => by
    have e8 : (some (z0.heap.size + 1) : Option Nat) = some z0.heap.size := e9
    injection e8 with e8; omega)).trans hg0
  have hc1 := hb2.trans b1
  obtain ⟨v2, w2, r2, k2, b2, g2⟩ := appLit ht hinfo hzs hby k1 hcs hg1 (by omega) hc1.size
  have hc2 := hc1.trans b2
  obtain ⟨a2, c2, rfl, hr2⟩ := k2.row hu (veil_toR (Fr.of hc2) fun k hk => .inl hk)
  rw [List.length_append, List.length_singleton] at r2
  exact ⟨v1, w1, a2, c2, w2, r1, r2, hr2, hc1, hc2⟩
/-- the empty row, all of the other, the literal -/
theorem three_c (ht : Try.prog.underlying t = some (.slice e)) (hinfo : (Try.prog.info? e).map (fun i => (i.zero, i.size, i.bytes)) = some (some z, Rep.sz α, bytes)) (hzs : z.cells.size = Rep.sz α) (hby : bytes ≤ 1000)
    (hu : ∀ k ∈ us, k < z0.heap.size) (hr : Row (veil us z0) sa cap xs) (hcs : RepC.C (veil us z0) cs.toList y) (hl : xs.length ≤ 1000000) (n : Nat) (hn : xs.length = n) :
    ∃ v1 w1 a2 c2 w2, (Builtin.append_ #[t, t] t #[.slice (some ⟨z0.heap.size, 0, none⟩) 0 0, .slice sa n cap]).run Try.prog (z0.alloc (.cells #[] e)) = .ok v1 w1 ∧
      (Builtin.append_ #[t, t] t #[v1, .slice (some ⟨w1.heap.size, 0, none⟩) 1 1]).run Try.prog (w1.alloc (.cells cs e)) = .ok (.slice a2 (n + 1) c2) w2 ∧
      Row (veil us w2) a2 c2 (xs ++ [y]) ∧ Below z0.heap.size z0 w1 ∧ Below z0.heap.size z0 w2 := by
  subst hn
  have hb1 := (Below.refl z0.heap.size z0).new (.cells #[] e)
  have h0 : VOwn (veil us z0) z0.heap.size e ([] : List α) (.slice (some ⟨z0.heap.size, 0, none⟩) 0 0) (z0.alloc (.cells #[] e)) := VOwn.made (α := α) (veil us z0) (B := z0.heap.size) (e := e) z0 (Nat.le_refl _)
  obtain ⟨v1, w1, r1, k1, b1, g1, o1⟩ := appAll ht hinfo hzs hby h0 ((veil_keeps us z0).trans (Keeps.of hb1)) hr (by simp; omega) hb1.size
  rw [List.nil_append] at k1
  have hc1 := hb1.trans b1
  have hb3 := hc1.new (.cells cs e)
  obtain ⟨v2, w2, r2, k2, b2, g2⟩ := appLit ht hinfo hzs hby (k1.below ((Below.refl _ _).new (.cells cs e))) hcs (heap_alloc_new w1 _) (by omega) hb3.size
  have hc2 := hb3.trans b2
  obtain ⟨a2, c2, rfl, hr2⟩ := k2.row hu (veil_toR (Fr.of hc2) fun k hk => .inl hk)
  rw [List.length_append, List.length_singleton] at r2
  exact ⟨v1, w1, a2, c2, w2, r1, r2, hr2, hc1, hc2⟩
end
/-! ### boxes of four cells -/
section
variable {W : World} {k : Nat} {x0 x1 x2 x3 : Value} {T : Nat}
theorem st_cells (h : W.heap[k]? = some (.cells #[x0, x1, x2, x3] T (0, 0))) : W.cell? ⟨k, 0, none⟩ = some x0 ∧ W.cell? ⟨k, 1, none⟩ = some x1 ∧ W.cell? ⟨k, 2, none⟩ = some x2 ∧ W.cell? ⟨k, 3, none⟩ = some x3 :=
  ⟨by rw [cell_of_row W _ 0 _ _ _ h]; rfl, by rw [cell_of_row W _ 1 _ _ _ h]; rfl, by rw [cell_of_row W _ 2 _ _ _ h]; rfl, by rw [cell_of_row W _ 3 _ _ _ h]; rfl⟩
theorem st_free (h : W.heap[k]? = some (.cells #[x0, x1, x2, x3] T (0, 0))) : W.frozen? ⟨k, 0, none⟩ = false ∧ W.frozen? ⟨k, 1, none⟩ = false ∧ W.frozen? ⟨k, 2, none⟩ = false ∧ W.frozen? ⟨k, 3, none⟩ = false :=
  ⟨by simp [World.frozen?, h], by simp [World.frozen?, h], by simp [World.frozen?, h], by simp [World.frozen?, h]⟩
theorem st0_set (h : W.heap[k]? = some (.cells #[x0, x1, x2, x3] T (0, 0))) (v : Value) : (W.setCell ⟨k, 0, none⟩ v).heap[k]? = some (.cells #[v, x1, x2, x3] T (0, 0)) := by
  unfold World.setCell
  rw [Array.getElem?_modify, if_pos rfl, h]
  rfl
theorem st1_set (h : W.heap[k]? = some (.cells #[x0, x1, x2, x3] T (0, 0))) (v : Value) : (W.setCell ⟨k, 1, none⟩ v).heap[k]? = some (.cells #[x0, v, x2, x3] T (0, 0)) := by
  unfold World.setCell
  rw [Array.getElem?_modify, if_pos rfl, h]
  rfl
theorem st2_set (h : W.heap[k]? = some (.cells #[x0, x1, x2, x3] T (0, 0))) (v : Value) : (W.setCell ⟨k, 2, none⟩ v).heap[k]? = some (.cells #[x0, x1, v, x3] T (0, 0)) := by
  unfold World.setCell
  rw [Array.getElem?_modify, if_pos rfl, h]
  rfl
theorem st3_set (h : W.heap[k]? = some (.cells #[x0, x1, x2, x3] T (0, 0))) (v : Value) : (W.setCell ⟨k, 3, none⟩ v).heap[k]? = some (.cells #[x0, x1, x2, v] T (0, 0)) := by
  unfold World.setCell
  rw [Array.getElem?_modify, if_pos rfl, h]
  rfl
/-- all four cells stored -/
theorem st_all (h : W.heap[k]? = some (.cells #[x0, x1, x2, x3] T (0, 0))) (v0 v1 v2 v3 : Value) : ((((W.setCell ⟨k, 0, none⟩ v0).setCell ⟨k, 1, none⟩ v1).setCell ⟨k, 2, none⟩ v2).setCell ⟨k, 3, none⟩ v3).heap[k]? = some (.cells #[v0, v1, v2, v3] T (0, 0)) :=
  st3_set (st2_set (st1_set (st0_set h v0) v1) v2) v3
end
theorem Fr.four {us : List Nat} {w w' : World} (h : Fr us w w') {g : Nat} (hg : g ∈ us) (v0 v1 v2 v3 : Value) : Fr us w ((((w'.setCell ⟨g, 0, none⟩ v0).setCell ⟨g, 1, none⟩ v1).setCell ⟨g, 2, none⟩ v2).setCell ⟨g, 3, none⟩ v3) := (((h.set hg v0).set hg v1).set hg v2).set hg v3
theorem below_four {n : Nat} {w w' : World} (h : Below n w w') {g : Nat} (hg : n ≤ g) (v0 v1 v2 v3 : Value) : Below n w ((((w'.setCell ⟨g, 0, none⟩ v0).setCell ⟨g, 1, none⟩ v1).setCell ⟨g, 2, none⟩ v2).setCell ⟨g, 3, none⟩ v3) :=
  (((h.setCell (p := ⟨g, 0, none⟩) hg v0).setCell (p := ⟨g, 1, none⟩) hg v1).setCell (p := ⟨g, 2, none⟩) hg v2).setCell (p := ⟨g, 3, none⟩) hg v3
theorem wpList_run {P : Program} {w : World} {ops : Array Oper} {rest : List Oper} {o : Oper} {a : Act} {Q : Exit → Act → World → Prop} (hgd : o.guard = none) (s x : Operand) (t : TypeId)
    (ho : o.op = .call { callee := .builtin .append, args := #[s, x], argTypes := #[t, t] }) {v y v' : Value} {w' : World} (hs : a.eval s = v) (hx : a.eval x = y)
    (hr : (Builtin.append_ #[t, t] o.type #[v, y]).run P w = .ok v' w') (h : wpList P ops Q rest (a.put o.dst v') w') : wpList P ops Q (o :: rest) a w :=
  wpList_plain hgd fun K hK => by
    unfold Oper.wp execOp
    simp only [ho, resolve, invoke, builtin, Sem.run_bind, Sem.run_pure, Result.andThen_ok, List.map_toArray, List.map_cons, List.map_nil, hs, hx, hr]
    exact hK _ _ h
end Go.Proofs.Ytnpffificfghpaa
namespace Go.Proofs.Ytnpffificfghpaa
open Go.RowKit

/-! ### rows of rows, and of changes, copied -/
theorem under_veil {B : Nat} {w : World} {vs : List Nat} (h : ∀ k ∈ vs, k < B) : Keeps (under B w) (veil vs w) := fun b o v hc => by
  obtain ⟨h1, h2⟩ := under_cell hc
  exact veil_of (fun e => by have := h b e; omega) h2
section
variable {B e : Nat} {g cap : Nat}
theorem VOwn.form {α : Type} [RepC α] {V w : World} {B e : Nat} {acc : List α} {v : Value} (h : VOwn V B e acc v w) (h0 : 0 < acc.length) : ∃ g cap, v = .slice (some ⟨g, 0, none⟩) acc.length cap ∧ B ≤ g ∧ g < w.heap.size ∧ acc.length ≤ cap ∧ cap ≤ 9223372036854775807 := by
  obtain ⟨vs, ho, _⟩ := h
  exact own_form ho h0
theorem VOwn.slice {α : Type} [RepC α] {V w : World} {B e : Nat} {acc : List α} {v : Value} (h : VOwn V B e acc v w) : ∃ a cap, v = .slice a acc.length cap ∧ acc.length ≤ cap ∧ cap ≤ 9223372036854775807 ∧ (a = none → cap = 0) := by
  obtain ⟨vs, ho, _⟩ := h
  rcases ho.2 with ⟨rfl, h0⟩ | ⟨g, cap, cur, rfl, _, _, hn, hm, _⟩
  · exact ⟨none, 0, by rw [h0], by omega, by omega, fun _ => rfl⟩
  · exact ⟨_, cap, rfl, hn, by unfold maxLen at hm; omega, (fun e => by cases e)⟩
theorem VOwn.view {α : Type} [RepC α] {V V' w : World} {B e : Nat} {acc : List α} {v : Value} (h : VOwn V B e acc v w) (hk : Keeps V V') : VOwn V' B e acc v w := let ⟨vs, ho, hc⟩ := h; ⟨vs, ho, hc.keeps hk⟩
theorem VOwn.at1 {V w : World} {acc : List (List Cel)} (h : VOwn V B e acc (.slice (some ⟨g, 0, none⟩) acc.length cap) w) {k : Nat} (hk : k < acc.length) : ∃ a c, w.cell? ⟨g, k, none⟩ = some (.slice a acc[k].length c) ∧ Row V a c acc[k] := by
  obtain ⟨vs, ho, hc⟩ := h
  obtain ⟨cs, ⟨a, c, rfl, hr⟩, hat⟩ := hc.get hk
  have h0 := hat 0 _ rfl
  rw [show k * Rep.sz (List Cel) + 0 = k from by show k * 1 + 0 = k; omega] at h0
  exact ⟨a, c, own_cells ho _ _ h0, hr⟩
theorem VOwn.at2 {V w : World} {acc : List Lt} (h : VOwn V B e acc (.slice (some ⟨g, 0, none⟩) acc.length cap) w) {k : Nat} (hk : k < acc.length) : ∃ a c, w.cell? ⟨g, k * 2, none⟩ = some (.bool acc[k].neg) ∧ w.cell? ⟨g, k * 2 + 1, none⟩ = some (.slice a acc[k].t.length c) ∧ Row V a c acc[k].t := by
  obtain ⟨vs, ho, hc⟩ := h
  obtain ⟨cs, ⟨a, c, rfl, hr⟩, hat⟩ := hc.get hk
  exact ⟨a, c, own_cells ho _ _ (hat 0 _ rfl), own_cells ho _ _ (hat 1 _ rfl), hr⟩
theorem VOwn.free {α : Type} [RepC α] {V w : World} {acc : List α} (h : VOwn V B e acc (.slice (some ⟨g, 0, none⟩) acc.length cap) w) (j : Nat) : w.frozen? ⟨g, j, none⟩ = false := by
  obtain ⟨vs, ho, _⟩ := h
  exact ho.frozenAt j
theorem VOwn.set1 {V V' w : World} {acc : List (List Cel)} (h : VOwn V B e acc (.slice (some ⟨g, 0, none⟩) acc.length cap) w) {k : Nat} (hk : k < acc.length) (hv : Keeps V V') {a : Option Addr} {c : Nat} {y : List Cel} (hr : Row V' a c y) :
    VOwn V' B e (acc.set k y) (.slice (some ⟨g, 0, none⟩) acc.length cap) (w.setCell ⟨g, k, none⟩ (.slice a y.length c)) := by
  obtain ⟨vs, ho, hc⟩ := h
  have ho1 := (ho.stored k (.slice a y.length c)).1
  have hlen : vs.length = acc.length * 1 := ho.1
  refine ⟨vs.set k (.slice a y.length c), by rw [List.length_set]; exact ho1, ?_⟩
  refine CRows.set (hc.keeps hv) hk (cs := [.slice a y.length c]) ⟨a, c, rfl, hr⟩ (by rw [List.length_set]) (fun q hq => ?_) (fun q hq => ?_)
  · have hq0 : q < 1 := hq
    obtain rfl : q = 0 := by omega
    show (vs.set k (.slice a y.length c))[k * 1 + 0]? = _
    rw [Nat.mul_one, Nat.add_zero, List.getElem?_set_self (by omega)]; rfl
  · have hq0 : q < k * 1 ∨ (k + 1) * 1 ≤ q := hq
    rw [List.getElem?_set_ne (by omega)]
theorem VOwn.set2 {V V' w : World} {acc : List Lt} (h : VOwn V B e acc (.slice (some ⟨g, 0, none⟩) acc.length cap) w) {k : Nat} (hk : k < acc.length) (hv : Keeps V V') {a : Option Addr} {c : Nat} {y : Lt} (hr : Row V' a c y.t) :
    VOwn V' B e (acc.set k y) (.slice (some ⟨g, 0, none⟩) acc.length cap) ((w.setCell ⟨g, k * 2, none⟩ (.bool y.neg)).setCell ⟨g, k * 2 + 1, none⟩ (.slice a y.t.length c)) := by
  obtain ⟨vs, ho, hc⟩ := h
  have ho1 := (ho.stored (k * 2) (.bool y.neg)).1
  have ho2 := (ho1.stored (k * 2 + 1) (.slice a y.t.length c)).1
  have hlen : vs.length = acc.length * 2 := ho.1
  refine ⟨(vs.set (k * 2) (.bool y.neg)).set (k * 2 + 1) (.slice a y.t.length c), by rw [List.length_set]; exact ho2, ?_⟩
  refine CRows.set (hc.keeps hv) hk (cs := [.bool y.neg, .slice a y.t.length c]) ⟨a, c, rfl, hr⟩ (by rw [List.length_set, List.length_set]) (fun q hq => ?_) (fun q hq => ?_)
  · have hq0 : q < 2 := hq
    show ((vs.set (k * 2) (.bool y.neg)).set (k * 2 + 1) (.slice a y.t.length c))[k * 2 + q]? = _
    match q, hq0 with
    | 0, _ => rw [List.getElem?_set_ne (by omega)]; exact (List.getElem?_set_self (by omega)).trans rfl
    | 1, _ => rw [List.getElem?_set_self (by rw [List.length_set]; omega)]; rfl
  · have hq0 : q < k * 2 ∨ (k + 1) * 2 ≤ q := hq
    rw [List.getElem?_set_ne (by omega), List.getElem?_set_ne (by omega)]
end
theorem Try.infoChg : (Try.prog.info? 32).map (fun i => (i.zero, i.size, i.bytes)) = some (some (.agg #[.bool false, .slice none 0 0]), 2, 32) := by kernel_rfl

set_option maxHeartbeats 400000 in
set_option maxRecDepth 100000 in
theorem cloneL_v (V : World) (a : Option Addr) (cap : Nat) (w : World) (xs : List (List Cel)) (hx : Row V a cap xs) (hk : Keeps V w) (hl : xs.length ≤ 1000000) :
    Calls Try.prog 201 #[.slice a xs.length cap] w fun e w' => ∃ v, e = .returned v ∧ VOwn V w.heap.size 30 xs v w' ∧ Below w.heap.size w w' := by
  cases a with
  | none =>
    have hc := hx.nil rfl
    have hle := hx.le
    obtain rfl : xs = [] := List.eq_nil_of_length_eq_zero (by omega)
    subst hc
    have hnil := fun w' : World => Lib.run_eql_slice_nil (P := Try.prog) w' 22 30 none 0 0 0 0 Try.underlying22
    go_enter Try.func201, Try.ntmps201
    go_wp2
    go_ret
    exact ⟨_, rfl, ⟨[], World.ownsRow_nil _ _ _ _, .nil⟩, Below.refl _ _⟩
  | some ad =>
    have hnil := fun w' : World => Lib.run_eql_slice_nil (P := Try.prog) w' 22 30 (some ad) xs.length cap 0 0 Try.underlying22
    have hm0 : VOwn V w.heap.size 30 ([] : List (List Cel)) (.slice (some ⟨w.heap.size, 0, none⟩) 0 0) (w.alloc (.cells #[] 30)) := VOwn.made V w (Nat.le_refl _)
    have hb0 := (Below.refl w.heap.size w).new (.cells #[] 30)
    have hsz := hb0.size
    obtain ⟨v9, w9, hrun, hacc9, hb9, _⟩ := appAll Try.underlying22 Try.infoSl (by decide) (by decide) hm0 (hk.trans (Keeps.of hb0)) hx (by simp; omega) hsz
    go_enter Try.func201, Try.ntmps201
    go_wp2_with (at_builtin; refine wpList_run rfl _ _ 22 rfl rfl rfl hrun ?_)
    go_ret
    exact ⟨_, rfl, by simpa using hacc9, hb0.trans hb9⟩
set_option maxHeartbeats 400000 in
set_option maxRecDepth 100000 in
theorem cloneC_v (V : World) (a : Option Addr) (cap : Nat) (w : World) (xs : List Lt) (hx : Row V a cap xs) (hk : Keeps V w) (hl : xs.length ≤ 1000000) :
    Calls Try.prog 148 #[.slice a xs.length cap] w fun e w' => ∃ v, e = .returned v ∧ VOwn V w.heap.size 32 xs v w' ∧ Below w.heap.size w w' := by
  cases a with
  | none =>
    have hc := hx.nil rfl
    have hle := hx.le
    obtain rfl : xs = [] := List.eq_nil_of_length_eq_zero (by omega)
    subst hc
    have hnil := fun w' : World => Lib.run_eql_slice_nil (P := Try.prog) w' 23 32 none 0 0 0 0 Try.underlying23
    go_enter Try.func148, Try.ntmps148
    go_wp2
    go_ret
    exact ⟨_, rfl, ⟨[], World.ownsRow_nil _ _ _ _, .nil⟩, Below.refl _ _⟩
  | some ad =>
    have hnil := fun w' : World => Lib.run_eql_slice_nil (P := Try.prog) w' 23 32 (some ad) xs.length cap 0 0 Try.underlying23
    have hm0 : VOwn V w.heap.size 32 ([] : List Lt) (.slice (some ⟨w.heap.size, 0, none⟩) 0 0) (w.alloc (.cells #[] 32)) := VOwn.made V w (Nat.le_refl _)
    have hb0 := (Below.refl w.heap.size w).new (.cells #[] 32)
    have hsz := hb0.size
    obtain ⟨v9, w9, hrun, hacc9, hb9, _⟩ := appAll Try.underlying23 Try.infoChg (by decide) (by decide) hm0 (hk.trans (Keeps.of hb0)) hx (by simp; omega) hsz
    go_enter Try.func148, Try.ntmps148
    go_wp2_with (at_builtin; refine wpList_run rfl _ _ 23 rfl rfl rfl hrun ?_)
    go_ret
    exact ⟨_, rfl, by simpa using hacc9, hb0.trans hb9⟩

set_option maxHeartbeats 1600000 in
set_option maxRecDepth 100000 in
theorem copiedRow_any (us : List Nat) (a : Option Addr) (cap : Nat) (w : World) (xs : List (List Cel)) (hu : ∀ k ∈ us, k < w.heap.size) (hx : Row (veil us w) a cap xs) (hl : xs.length ≤ 1000000) (hs : ∀ x ∈ xs, x.length ≤ 1000000) :
    Calls Try.prog 147 #[.slice a xs.length cap] w fun e w' => ∃ a2 cap2, e = .returned (.slice a2 xs.length cap2) ∧ Row (veil us w') a2 cap2 xs ∧ Below w.heap.size w w' := by
  have HS := mkHid hs
  have HU := mkHid hu
  clear hs hu
  go_enter Try.func147, Try.ntmps147
  go_wp2_with (go_at_call 201; refine (cloneL_v (veil us w) a cap _ xs hx (veil_keeps _ _) hl).mono ?_; rintro e w1 ⟨v, rfl, hown, hb1⟩)
  obtain ⟨a1, c1, rfl, hle, hmx, hnl⟩ := hown.slice
  clear hnl
  obtain ⟨bs, hbs⟩ : ∃ bs, bs = (Value.slice a1 xs.length c1).ownBlock.toList := ⟨_, rfl⟩
  have HBS := mkHid hbs
  have HV0 : Hid (VOwn (veil (bs ++ us) w1) w.heap.size 30 xs (.slice a1 xs.length c1) w1) := hown.view (veil_toR (Fr.of hb1) fun k hk => by
    rcases List.mem_append.1 hk with hk | hk
    · right
      rw [hbs] at hk
      exact (hown.lt k (by simpa using hk)).1
    · exact .inl hk)
  clear hown hbs
  go_wp2
  go_simp
  go_wp2
  go_loopw [9] (fun i wr => ∃ k : Nat, k ≤ xs.length ∧ i = .int .i64 k ∧ Hid (VOwn (veil (bs ++ us) wr) w.heap.size 30 xs (.slice a1 xs.length c1) wr) ∧ Below w.heap.size w wr) (fun i wr => xs.length - (intOf i).toNat)
  case atStart => exact ⟨0, Nat.zero_le _, rfl, HV0, hb1⟩
  case round =>
    clear HV0
    obtain ⟨k, hk, rfl, HV, hbl⟩ := hrel
    by_cases hlt : k < xs.length
    · obtain ⟨g, cp, e1, hgB, hgl, _, _⟩ := HV.out.form (by omega)
      injection e1 with e1 _ e3
      subst e1
      obtain rfl : bs = [g] := HBS.out
      clear e3
      obtain ⟨a2, c2, d0, hr2⟩ := HV.out.at1 hlt
      have hr2' : Row wr a2 c2 xs[k] := hr2.keeps (veil_keeps _ _)
      have hlx := HS.out _ (List.getElem_mem hlt)
      go_wp2_with fail
      refine (clone_new2 a2 c2 wr xs[k] hr2' hlx).mono ?_
      rintro e w2 ⟨a3, c3, rfl, hr3, hb2⟩
      have hz := (HV.out.below hb2).free k
      have d2 := keep d0 hb2
      have hn := (HV.out.below hb2).set1 (V' := veil ([g] ++ us) w2) hlt (Fr.keeps (Fr.of hb2)) (hr3.keeps (under_veil fun q hq => by
        rcases List.mem_cons.1 hq with rfl | hq
        · exact hgl
        · exact Nat.lt_of_lt_of_le (HU.out q hq) hbl.size))
      rw [List.set_getElem_self] at hn
      have HN := mkHid (hn.view (Fr.keeps ((Fr.refl ([g] ++ us) w2).set (g := g) (k := k) (by simp) (.slice a3 xs[k].length c3))))
      have hbn := (hbl.then hb2).setCell (p := ⟨g, k, none⟩) hgB (.slice a3 xs[k].length c3)
      have hgl2 : g < w2.heap.size := Nat.lt_of_lt_of_le hgl hb2.size
      clear hn HV
      go_wp2_with fail
      go_round
      case rel => exact ⟨k + 1, by omega, by go_num, HN, hbn⟩
      case measure => simp [intOf]; omega
    · go_wp2
      go_ret
      obtain ⟨a5, c5, e5, hr5⟩ := HV.out.row (us := us) (fun q hq => HU.out q hq) (veil_mono _ fun q hq => List.mem_append_right _ hq)
      injection e5 with e5 _ e6
      subst e5; subst e6
      exact ⟨_, _, rfl, hr5, hbl⟩
end Go.Proofs.Ytnpffificfghpaa
