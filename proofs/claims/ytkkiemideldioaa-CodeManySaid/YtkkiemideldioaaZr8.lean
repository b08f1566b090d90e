import Derived.Test.YtkkiemideldioaaZr7
import Derived.Deep.Slices
import Derived.Deep.Fields
import Derived.ChangeSame
import Derived.ProofKit
import Derived.OpenShut
import Derived.ShutString
import Derived.ChangeOld
import Derived.Lib.SmallJoins
set_option linter.unusedVariables false
namespace Go.Proofs.Ytkkiemideldioaa
open Go.RowKit

/-! ### the document's SameClause -/
theorem lt_neS {xs ys : List Lt} {k : Nat} (hx : k < xs.length) (hy : k < ys.length) (h : ¬ xs[k] = ys[k]) : ¬ xs = ys := fun e => by subst e; exact h rfl
theorem Lt.eq_iffS (x y : Lt) : x = y ↔ x.neg = y.neg ∧ x.t = y.t := by cases x; cases y; simp
theorem Cl.eq_iffS (x y : Cl) : x = y ↔ x.h = y.h ∧ x.b = y.b := by cases x; cases y; simp
theorem take_eq_S {α : Type} {xs ys : List α} {k : Nat} (h : xs.take k = ys.take k) (hx : k < xs.length) (hy : k < ys.length) (e : xs[k] = ys[k]) : xs.take (k + 1) = ys.take (k + 1) := by
  rw [List.take_succ_eq_append_getElem hx, List.take_succ_eq_append_getElem hy, h, e]
set_option maxRecDepth 100000 in
set_option maxHeartbeats 3200000 in
theorem sameclause_any (a : Option Addr) (c : Nat) (a' : Option Addr) (c' : Nat) (b : Option Addr) (d : Nat) (b' : Option Addr) (d' : Nat) (w : World) (x y : Cl) (hx : Row w a c x.h) (hx' : Row w a' c' x.b) (hy : Row w b d y.h) (hy' : Row w b' d' y.b) :
    Calls Try.prog 24 #[.agg #[.slice a x.h.length c, .slice a' x.b.length c'], .agg #[.slice b y.h.length d, .slice b' y.b.length d']] w fun e w' => e = .returned (.bool (decide (x = y))) ∧ Below w.heap.size w w' := by
  have hm := hx'.max
  have hm2 := hx'.le
  have hm3 := hy'.max
  have hm4 := hy'.le
  have hb0 := ((Below.refl w.heap.size w).new (.cells #[.slice a x.h.length c, .slice a' x.b.length c'] 25)).new (.cells #[.slice b y.h.length d, .slice b' y.b.length d'] 25)
  have HB0 := mkHid hb0
  obtain ⟨W, hW⟩ : ∃ W, (w.alloc (.cells #[.slice a x.h.length c, .slice a' x.b.length c'] 25)).alloc (.cells #[.slice b y.h.length d, .slice b' y.b.length d'] 25) = W := ⟨_, rfl⟩
  have p0 : W.cell? ⟨w.heap.size, 0, none⟩ = some (.slice a x.h.length c) := by
    rw [← hW]; exact keep (World.cell?_alloc_at _ _ w.heap.size 0 rfl) ((Below.refl _ _).new _)
  have p1 : W.cell? ⟨w.heap.size, 1, none⟩ = some (.slice a' x.b.length c') := by
    rw [← hW]; exact keep (World.cell?_alloc_at _ _ w.heap.size 1 rfl) ((Below.refl _ _).new _)
  have q0 : W.cell? ⟨w.heap.size + 1, 0, none⟩ = some (.slice b y.h.length d) := by
    rw [← hW]; exact World.cell?_alloc_at _ _ (w.heap.size + 1) 0 (by simp)
  have q1 : W.cell? ⟨w.heap.size + 1, 1, none⟩ = some (.slice b' y.b.length d') := by
    rw [← hW]; exact World.cell?_alloc_at _ _ (w.heap.size + 1) 1 (by simp)
  have HX := mkHid (hx.below hb0)
  have HY := mkHid (hy.below hb0)
  have hx1 := hx'.below hb0
  have hy1 := hy'.below hb0
  rw [hW] at HX HY HB0 hx1 hy1
  have HX1 := mkHid hx1
  have HY1 := mkHid hy1
  clear hx hx' hy hy' hb0 hx1 hy1
  go_enter Try.func24, Try.ntmps24
  go_wp2_with fail
  first | rw [hW] | skip
  clear hW
  by_cases hh : x.h = y.h
  · have HD := mkHid (decide_eq_true hh)
    have HHE := mkHid hh
    clear hh
    refine (refsame_any a c b d W x.h y.h HX.out HY.out).mono ?_
    rintro e w1 ⟨rfl, hb1⟩
    rw [HD.out]
    have HBW := mkHid (HB0.out.then hb1)
    have r0 := keep p0 hb1
    have r1 := keep p1 hb1
    have s0 := keep q0 hb1
    have s1 := keep q1 hb1
    have HX2 := mkHid (HX1.out.below hb1)
    have HY2 := mkHid (HY1.out.below hb1)
    clear p0 p1 q0 q1 HB0 HX1 HY1 hb1
    by_cases hlen : x.b.length = y.b.length
    · have hlt2 : y.b.length ≤ x.b.length := by omega
      have hlt3 : x.b.length ≤ y.b.length := by omega
      have hne : ((x.b.length : Int) != (y.b.length : Int)) = false := by simp [hlen]
      clear hlen
      go_wp2_with fail
      go_loopw [5] (fun i wr => ∃ k : Nat, k ≤ x.b.length ∧ i = .int .i64 k ∧ Below w1.heap.size w1 wr ∧ Hid (x.b.take k = y.b.take k)) (fun i wr => x.b.length - (intOf i).toNat)
      case atStart => exact ⟨0, Nat.zero_le _, rfl, Below.refl _ _, rfl⟩
      case round =>
        obtain ⟨k, hk, rfl, hbl, HS⟩ := hrel
        have t0 := keep r0 hbl
        have t1 := keep r1 hbl
        have u0 := keep s0 hbl
        have u1 := keep s1 hbl
        have T1 : ∀ z : Later wr, z.w'.cell? ⟨w.heap.size, 1, none⟩ = some (.slice a' x.b.length c') := keepL t1
        have U1 : ∀ z : Later wr, z.w'.cell? ⟨w.heap.size + 1, 1, none⟩ = some (.slice b' y.b.length d') := keepL u1
        by_cases hlt : k < x.b.length
        · have hlt' : k < y.b.length := by omega
          obtain ⟨bb, off, hab, hb, hat⟩ := (HX2.out).cases.resolve_left (fun e => by simp [e] at hlt)
          obtain ⟨bb', off', hab', hb', hat'⟩ := (HY2.out).cases.resolve_left (fun e => by simp [e] at hlt')
          subst hab
          subst hab'
          obtain ⟨a1, cap1, c0, c1, hr1⟩ := lt_at hat hbl hlt
          obtain ⟨a2, cap2, d0, d1, hr2⟩ := lt_at hat' hbl hlt'
          have e0 : ∀ z : Later wr, z.w'.cell? ⟨bb, off + k * 2, none⟩ = some (.bool x.b[k].neg) := keepL c0
          have f0 : ∀ z : Later wr, z.w'.cell? ⟨bb', off' + k * 2, none⟩ = some (.bool y.b[k].neg) := keepL d0
          have e1 : ∀ z : Later wr, z.w'.cell? ⟨bb, off + k * 2 + 1, none⟩ = some (.slice a1 x.b[k].t.length cap1) := keepL c1
          have f1 : ∀ z : Later wr, z.w'.cell? ⟨bb', off' + k * 2 + 1, none⟩ = some (.slice a2 y.b[k].t.length cap2) := keepL d1
          by_cases hv : x.b[k].neg = y.b[k].neg
          · have tv : (x.b[k].neg == y.b[k].neg) = true := by simp [hv]
            by_cases he : x.b[k].t = y.b[k].t
            · have HT : Hid (x.b.take (k + 1) = y.b.take (k + 1)) := take_eq_S HS.out hlt hlt' ((Lt.eq_iffS _ _).2 ⟨hv, he⟩)
              have HD2 := mkHid (decide_eq_true he)
              have hcall : ∀ z : Later wr, Calls Try.prog 47 #[.slice a1 x.b[k].t.length cap1, .slice a2 y.b[k].t.length cap2] z.w' fun e w'' => e = .returned (.bool true) ∧ Below z.w'.heap.size z.w' w'' := fun z =>
                (refsame_any a1 cap1 a2 cap2 _ x.b[k].t y.b[k].t (hr1.below z.ok) (hr2.below z.ok)).mono fun e w' ⟨he, hb⟩ => ⟨by rw [he, HD2.out], hb⟩
              clear he HS hv
              go_wp2_with fail
              refine wp_region_calm (by kernel_rfl) (by kernel_rfl) ?_
              repeat (go_big_quiet_step (exact Calls.calm_of (hcall _)))
              refine wpQuiet_nil ?_
              rintro _ ⟨z, rfl⟩
              go_wp2_with fail
              go_round
              case rel => exact ⟨k + 1, by omega, by go_num, hbl.then z.ok, HT⟩
              case measure => simp [intOf]; omega
            · have HE : Hid (false = decide (x = y)) := by
                rw [Hid, decide_eq_false]
                intro e
                exact lt_neS hlt hlt' (fun e => he ((Lt.eq_iffS _ _).1 e).2) ((Cl.eq_iffS _ _).1 e).2
              have HD2 := mkHid (decide_eq_false he)
              have hcall : ∀ z : Later wr, Calls Try.prog 47 #[.slice a1 x.b[k].t.length cap1, .slice a2 y.b[k].t.length cap2] z.w' fun e w'' => e = .returned (.bool false) ∧ Below z.w'.heap.size z.w' w'' := fun z =>
                (refsame_any a1 cap1 a2 cap2 _ x.b[k].t y.b[k].t (hr1.below z.ok) (hr2.below z.ok)).mono fun e w' ⟨he, hb⟩ => ⟨by rw [he, HD2.out], hb⟩
              clear he HS hv
              go_wp2_with fail
              refine wp_region_calm (by kernel_rfl) (by kernel_rfl) ?_
              repeat (go_big_quiet_step (exact Calls.calm_of (hcall _)))
              refine wpQuiet_nil ?_
              rintro _ ⟨z, rfl⟩
              go_wp2_with fail
              go_ret
              exact ⟨ret_bool HE.out, (HBW.out.then hbl).then z.ok⟩
          · have HE : Hid (false = decide (x = y)) := by
              rw [Hid, decide_eq_false]
              intro e
              exact lt_neS hlt hlt' (fun e => hv ((Lt.eq_iffS _ _).1 e).1) ((Cl.eq_iffS _ _).1 e).2
            have tv : (x.b[k].neg == y.b[k].neg) = false := by simp [hv]
            clear HS hv
            go_wp2_with fail
            refine wp_region_calm (by kernel_rfl) (by kernel_rfl) ?_
            repeat (go_big_quiet_step (fail))
            refine wpQuiet_nil ?_
            rintro _ ⟨z, rfl⟩
            go_wp2_with fail
            go_ret
            exact ⟨ret_bool HE.out, (HBW.out.then hbl).then z.ok⟩
        · have HE : Hid (true = decide (x = y)) := by
            rw [Hid, decide_eq_true]
            refine (Cl.eq_iffS _ _).2 ⟨HHE.out, ?_⟩
            have := HS.out
            rwa [List.take_of_length_le (by omega), List.take_of_length_le (by omega)] at this
          clear HS
          go_wp2_with fail
          go_ret
          exact ⟨ret_bool HE.out, HBW.out.then hbl⟩
    · have HE : Hid (false = decide (x = y)) := by
        rw [Hid, decide_eq_false]; intro e; rw [e] at hlen; exact hlen rfl
      have hne : ((x.b.length : Int) != (y.b.length : Int)) = true := by simp; omega
      clear hlen
      go_wp2_with fail
      go_ret
      exact ⟨ret_bool HE.out, HBW.out⟩
  · have HD := mkHid (decide_eq_false hh)
    have HE : Hid (false = decide (x = y)) := by
      rw [Hid, decide_eq_false]; intro e; exact hh ((Cl.eq_iffS _ _).1 e).1
    clear hh
    refine (refsame_any a c b d W x.h y.h HX.out HY.out).mono ?_
    rintro e w1 ⟨rfl, hb1⟩
    rw [HD.out]
    have HBW := mkHid (HB0.out.then hb1)
    clear p0 p1 q0 q1 HB0 HX1 HY1 hb1
    go_wp2_with fail
    go_ret
    exact ⟨ret_bool HE.out, HBW.out⟩
end Go.Proofs.Ytkkiemideldioaa
set_option linter.unusedVariables false
namespace Go.Proofs.Ytkkiemideldioaa
open Go.RowKit

/-! ### code tells one clause alone -/
theorem unisR_det {f : Int → Bool} : ∀ {us : List Ins} {os az : List Tm}, UnisR f us os az → ∀ {os' az' : List Tm}, UnisR f us os' az' → os.length = os'.length ∧ (os = os' → az = az')
  | _, _, _, .nil => fun h => by cases h; exact ⟨rfl, fun _ => rfl⟩
  | _, _, _, .fn h hf hr => fun h' => by
    cases h' with
    | fn h2 hf2 hr2 =>
      obtain ⟨e1, e2⟩ := unisR_det hr hr2
      exact ⟨by simp [e1], fun e => by
        injection e with e3 e4
        rw [e3, e2 e4]⟩
    | vr h2 hf2 hr2 => rw [hf] at hf2; cases hf2
    | vl h2 hr2 => omega
    | int h2 hr2 => omega
  | _, _, _, .vr h hf hr => fun h' => by
    cases h' with
    | fn h2 hf2 hr2 => rw [hf] at hf2; cases hf2
    | vr h2 hf2 hr2 =>
      obtain ⟨e1, e2⟩ := unisR_det hr hr2
      exact ⟨e1, fun e => by rw [e2 e]⟩
    | vl h2 hr2 => omega
    | int h2 hr2 => omega
  | _, _, _, .vl h hr => fun h' => by
    cases h' with
    | fn h2 hf2 hr2 => omega
    | vr h2 hf2 hr2 => omega
    | vl h2 hr2 =>
      obtain ⟨e1, e2⟩ := unisR_det hr hr2
      exact ⟨e1, fun e => by rw [e2 e]⟩
    | int h2 hr2 => omega
  | _, _, _, .int h hr => fun h' => by
    cases h' with
    | fn h2 hf2 hr2 => omega
    | vr h2 hf2 hr2 => omega
    | vl h2 hr2 => omega
    | int h2 hr2 =>
      obtain ⟨e1, e2⟩ := unisR_det hr hr2
      exact ⟨e1, fun e => by rw [e2 e]⟩
theorem headR_nil {f : Int → Bool} {l : List Ins} (h : HeadR f l []) : l = [] := by
  cases h
  rfl
theorem headR_det {f : Int → Bool} {l : List Ins} {ts : List Tm} (h : HeadR f l ts) : ∀ {l' : List Ins} {ts' : List Tm} {r r' : List Ins}, HeadR f l' ts' → l ++ r = l' ++ r' → ts.length = ts'.length → l = l' ∧ ts = ts' := by
  induction h with
  | nil =>
    intro l' ts' r r' h' e hl
    have : ts' = [] := by cases ts'; rfl; simp at hl
    subst this
    exact ⟨(headR_nil h').symm, rfl⟩
  | vr h hr ih =>
    intro l' ts' r r' h' e hl
    cases h' with
    | nil => simp at hl
    | vr h2 hr2 =>
      rw [List.cons_append, List.cons_append] at e
      injection e with e1 e2
      obtain ⟨e3, e4⟩ := ih hr2 e2 (by simpa using hl)
      subst e1
      exact ⟨by rw [e3], by rw [e4]⟩
    | int h2 hr2 =>
      rw [List.cons_append, List.cons_append] at e
      injection e with e1 e2
      subst e1
      omega
    | fn h2 hn2 hu2 hr2 =>
      rw [List.cons_append, List.cons_append] at e
      injection e with e1 e2
      subst e1
      omega
  | int h hr ih =>
    intro l' ts' r r' h' e hl
    cases h' with
    | nil => simp at hl
    | vr h2 hr2 =>
      rw [List.cons_append, List.cons_append] at e
      injection e with e1 e2
      subst e1
      omega
    | int h2 hr2 =>
      rw [List.cons_append, List.cons_append] at e
      injection e with e1 e2
      obtain ⟨e3, e4⟩ := ih hr2 e2 (by simpa using hl)
      subst e1
      exact ⟨by rw [e3], by rw [e4]⟩
    | fn h2 hn2 hu2 hr2 =>
      rw [List.cons_append, List.cons_append] at e
      injection e with e1 e2
      subst e1
      omega
  | fn h hn hu hr ih =>
    intro l' ts' r r' h' e hl
    cases h' with
    | nil => simp at hl
    | vr h2 hr2 =>
      rw [List.cons_append, List.cons_append] at e
      injection e with e1 e2
      subst e1
      omega
    | int h2 hr2 =>
      rw [List.cons_append, List.cons_append] at e
      injection e with e1 e2
      subst e1
      omega
    | fn h2 hn2 hu2 hr2 =>
      rw [List.cons_append, List.cons_append, List.append_assoc, List.append_assoc] at e
      injection e with e1 e2
      subst e1
      obtain ⟨e3, e4⟩ := List.append_inj e2 (by omega)
      subst e3
      obtain ⟨g1, g2⟩ := unisR_det hu hu2
      have hl2 := hl
      rw [List.length_cons, List.length_cons] at hl2
      obtain ⟨e5, e6⟩ := ih hr2 e4 (by rw [List.length_append, List.length_append]; omega)
      obtain ⟨e7, e8⟩ := List.append_inj e6 (by omega)
      subst e5
      subst e7
      exact ⟨rfl, by rw [g2 e8]⟩
theorem setsR_det {us : List Ins} {B B' : Blt} {ts : List Tm} (h : SetsR us B ts B') : ∀ {ts2 : List Tm} {B2 : Blt}, SetsR us B ts2 B2 → ts = ts2 ∧ B' = B2 := by
  induction h with
  | nil => intro ts2 B2 h2; cases h2; exact ⟨rfl, rfl⟩
  | cons h hs ih =>
    intro ts2 B2 h2
    cases h2 with
    | cons h3 hs3 =>
      rw [h] at h3
      injection h3 with h3
      injection h3 with e1 e2
      subst e1
      subst e2
      obtain ⟨e3, e4⟩ := ih hs3
      exact ⟨by rw [e3], e4⟩
theorem bodyR_det {l : List Ins} {B : Blt} {bs : List (Bool × Tm)} (h : BodyR l B bs) : ∀ {l' : List Ins} {bs' : List (Bool × Tm)}, BodyR l' B bs' → l = l' → bs = bs' := by
  induction h with
  | nil =>
    intro l' bs' h' e
    subst e
    cases h'
    rfl
  | put h hn hs hr ih =>
    intro l' bs' h' e
    cases h' with
    | nil => simp at e
    | put h2 hn2 hs2 hr2 =>
      injection e with e1 e2
      subst e1
      obtain ⟨e3, e4⟩ := List.append_inj e2 (by omega)
      subst e3
      obtain ⟨e5, e6⟩ := setsR_det hs hs2
      subst e5
      subst e6
      exact ih hr2 e4
    | call h2 ht2 hr2 =>
      injection e with e1 e2
      subst e1
      omega
  | call h ht hr ih =>
    intro l' bs' h' e
    cases h' with
    | nil => simp at e
    | put h2 hn2 hs2 hr2 =>
      injection e with e1 e2
      subst e1
      omega
    | call h2 ht2 hr2 =>
      injection e with e1 e2
      subst e1
      rw [ht] at ht2
      injection ht2 with e3
      subst e3
      rw [ih hr2 e2]
/-- two clauses of the same code are the same, numbered -/
theorem code_num {xa xb : Cl} {ha hb : Tm} {ba bb : List (Bool × Tm)} (hA : ClT xa ha ba) (hB : ClT xb hb bb) (e : compS ha ba = compS hb bb) : numCl ha ba = numCl hb bb := by
  obtain ⟨ch, e1, _, _⟩ := compS_calls ha ba
  obtain ⟨_, _, c1, us1, bs1, r1, p1, p2, p3, p4, p5⟩ := told_is hA e1
  obtain ⟨_, _, c2, us2, bs2, r2, q1, q2, q3, q4, q5⟩ := told_is hB (e.symm.trans e1)
  obtain ⟨f1, f2⟩ := headR_det p2 q2 (r := r1) (r' := r2) (p1.symm.trans q1) (p3.trans q3.symm)
  subst f1
  have f3 : r1 = r2 := List.append_cancel_left (p1.symm.trans q1)
  have f4 := bodyR_det p4 q4 f3
  rw [← p5, ← q5, f2, f4]
/-- clauses that are the same, numbered, have the same code -/
theorem num_code {xa xb : Cl} {ha hb : Tm} {ba bb : List (Bool × Tm)} (hA : ClT xa ha ba) (hB : ClT xb hb bb) (e : numCl ha ba = numCl hb bb) : compS ha ba = compS hb bb := by
  obtain ⟨G, g1, g2⟩ := num_clT hA
  obtain ⟨G', g3, g4⟩ := num_clT hB
  rw [e] at g1
  obtain ⟨e1, e2⟩ := ClT.one g1 g3
  rw [← g2, ← g4, e1, e2]
theorem code_iff {xa xb : Cl} {ha hb : Tm} {ba bb : List (Bool × Tm)} (hA : ClT xa ha ba) (hB : ClT xb hb bb) : decide (compS ha ba = compS hb bb) = decide (numClL xa = numClL xb) := by
  rw [numCl_L hA, numCl_L hB]
  by_cases h : compS ha ba = compS hb bb
  · rw [decide_eq_true h, decide_eq_true (code_num hA hB h)]
  · rw [decide_eq_false h, decide_eq_false fun e => h (num_code hA hB e)]
end Go.Proofs.Ytkkiemideldioaa
set_option linter.unusedVariables false
namespace Go.Proofs.Ytkkiemideldioaa
open Go.RowKit

/-! ### the law's great -/
def bad10 (i : Ins) : Bool := decide (i.x < 0) || decide (i.a < 0) || decide (1000000 < i.x) || decide (1000000 < i.a)
def greatI (l : List Ins) : Bool := decide (3000 < l.length) || l.any bad10
theorem greatI_hit {l : List Ins} {k : Nat} (hk : k < l.length) (h : bad10 l[k] = true) : greatI l = true := by
  unfold greatI
  rw [List.any_eq_true.2 ⟨l[k], List.getElem_mem hk, h⟩]; simp
theorem greatI_no {l : List Ins} (h : greatI l = false) : l.length ≤ 3000 ∧ ∀ i ∈ l, 0 ≤ i.x ∧ 0 ≤ i.a ∧ i.x ≤ 1000000 ∧ i.a ≤ 1000000 := by
  unfold greatI at h
  rw [Bool.or_eq_false_iff] at h
  refine ⟨by simpa using h.1, fun i hi => ?_⟩
  have h2 := List.any_eq_false.1 h.2 i hi
  simp [bad10] at h2
  omega
set_option maxRecDepth 100000 in
set_option maxHeartbeats 3200000 in
theorem greati_any (a : Option Addr) (cap : Nat) (w : World) (l : List Ins) (hr : Row w a cap l) :
    Calls Try.prog 16 #[.slice a l.length cap] w fun e w' => e = .returned (.bool (greatI l)) ∧ w = w' := by
  have hm := hr.max
  have hm2 := hr.le
  by_cases h70 : l.length ≤ 3000
  · go_enter Try.func16, Try.ntmps16
    go_wp2
    go_loop [3] (fun i => ∃ k : Nat, k ≤ l.length ∧ i = .int .i64 k ∧ Hid ((l.take k).all (fun c => !bad10 c) = true)) (fun i => l.length - (intOf i).toNat)
    case atStart => exact ⟨0, Nat.zero_le _, rfl, rfl⟩
    case round =>
      obtain ⟨k, hk, rfl, HS⟩ := hrel
      by_cases hlt : k < l.length
      · obtain ⟨b, off, rfl, hb, hat⟩ := hr.cases.resolve_left (fun e => by simp [e] at hlt)
        obtain ⟨c0, c1, c2, c3, c4, c5, hf⟩ := ins_at hat (Below.refl _ _) hlt
        clear c0 c3 c4 c5
        have q1 := hf.x1
        have q2 := hf.x2
        have q3 := hf.a1
        have q4 := hf.a2
        by_cases h1 : l[k].x < 0
        · have HT : Hid (greatI l = true) := greatI_hit hlt (by simp [bad10, h1])
          clear HS
          go_wp2
          go_ret
          exact ⟨ret_bool HT.out.symm, rfl⟩
        · by_cases h2 : l[k].a < 0
          · have HT : Hid (greatI l = true) := greatI_hit hlt (by simp [bad10, h2])
            clear HS
            go_wp2
            go_ret
            exact ⟨ret_bool HT.out.symm, rfl⟩
          · by_cases h3 : 1000000 < l[k].x
            · have HT : Hid (greatI l = true) := greatI_hit hlt (by simp [bad10, h3])
              clear HS
              go_wp2
              go_ret
              exact ⟨ret_bool HT.out.symm, rfl⟩
            · by_cases h4 : 1000000 < l[k].a
              · have HT : Hid (greatI l = true) := greatI_hit hlt (by simp [bad10, h4])
                clear HS
                go_wp2
                go_ret
                exact ⟨ret_bool HT.out.symm, rfl⟩
              · have HT := mkHid (scan_next (p := fun c => !bad10 c) HS.out hlt (by simp [bad10]; omega))
                clear HS
                go_wp2
                go_round
                case rel => exact ⟨k + 1, by omega, by go_num, HT⟩
                case measure => simp [intOf]; omega
      · have HT : Hid (greatI l = false) := by
          rw [Hid, greatI, all_any10 (scan_end HS.out (by omega))]; simp; omega
        clear HS
        go_wp2
        go_ret
        exact ⟨ret_bool HT.out.symm, rfl⟩
  · have HT : Hid (greatI l = true) := by rw [Hid, greatI]; simp; omega
    go_enter Try.func16, Try.ntmps16
    go_wp2
    go_ret
    exact ⟨ret_bool HT.out.symm, rfl⟩
end Go.Proofs.Ytkkiemideldioaa
namespace Go.Proofs.Ytkkiemideldioaa
open Go.RowKit Go.ChangeShapes Go.WideShapes Go.Deep Go.ChangeAt

theorem Try.own : ownKnob Try.prog.godebug = none := by kernel_rfl
theorem Try.laidOut : laidOutB Try.prog = true := by kernel_rfl
theorem Try.cells45 : Try.prog.cellsOf 45 = 3 := by kernel_rfl
theorem Try.cells22 : Try.prog.cellsOf 22 = 1 := by kernel_rfl
theorem Try.cells3 : Try.prog.cellsOf 3 = 1 := by kernel_rfl
theorem Try.cells9 : Try.prog.cellsOf 9 = 1 := by kernel_rfl

theorem i64_wf {n : Int} (h : (Lit.int .i64 n).wf = true) : -9223372036854775808 ≤ n ∧ n ≤ 9223372036854775807 := by
  simp [Lit.wf, IntKind.min, IntKind.max, IntKind.signed, IntKind.bits] at h
  omega
theorem add_lit (b o j : Nat) : (Addr.mk b o none).add j = ⟨b, o + j, none⟩ := by unfold Addr.add; split <;> simp_all

section
variable {H : Type} {enc : TypeId × Value → H} {w : World} {spare : Nat → Bool} {held : Bool}
set_option maxRecDepth 100000 in
/-- three cells that read as a cell of a term -/
theorem open_cell {n : Nat} {cs : List Value} {x : DataW H × List MemPlace} (h : DataW.trod enc Try.prog w 0 spare held n 45 cs = some x) :
    ∃ c : Cel, cs = [.int .i64 c.k, .string c.s, .int .i64 c.n] ∧ c.fit := by
  obtain ⟨ys, m, _, _, hlen, hyl, hf⟩ := DataW.trod_struct Try.underlying45 h
  rw [Try.cells45] at hlen
  match cs, hlen with
  | [v0, v1, v2], _ =>
    have h0 : DataW.trod enc Try.prog w 0 spare held m 3 (([v0, v1, v2].drop 0).take (Try.prog.cellsOf 3)) = ys[0]? := hf 0 _ rfl
    have h1 : DataW.trod enc Try.prog w 0 spare held m 9 (([v0, v1, v2].drop 1).take (Try.prog.cellsOf 9)) = ys[1]? := hf 1 _ rfl
    have h2 : DataW.trod enc Try.prog w 0 spare held m 3 (([v0, v1, v2].drop 2).take (Try.prog.cellsOf 3)) = ys[2]? := hf 2 _ rfl
    rw [Try.cells3] at h0 h2
    rw [Try.cells9] at h1
    have hy : ∀ i : Nat, i < 3 → ∃ y, ys[i]? = some y := fun i hi => ⟨_, List.getElem?_eq_getElem (by rw [hyl]; exact hi)⟩
    obtain ⟨y0, e0⟩ := hy 0 (by omega)
    obtain ⟨y1, e1⟩ := hy 1 (by omega)
    obtain ⟨y2, e2⟩ := hy 2 (by omega)
    rw [e0] at h0
    rw [e1] at h1
    rw [e2] at h2
    obtain ⟨a0, q0, _, f0⟩ := DataW.trod_int Try.underlying3 h0
    obtain ⟨a1, q1, _, f1⟩ := DataW.trod_string Try.underlying9 h1
    obtain ⟨a2, q2, _, f2⟩ := DataW.trod_int Try.underlying3 h2
    simp at q0 q1 q2
    refine ⟨⟨a0, a1, a2⟩, by rw [q0, q1, q2], ⟨(i64_wf f0).1, (i64_wf f0).2, (i64_wf f2).1, (i64_wf f2).2, by unfold maxLen at f1; exact f1⟩⟩

/-- what rows of a kind are made of -/
theorem open_rows {α : Type} [Rep α] {t e : TypeId} (ht : Try.prog.underlying t = some (.slice e)) (hC : Try.prog.cellsOf e = Rep.sz α)
    (hE : ∀ (n : Nat) (a : Addr) (cs : List Value) (x : DataW H × List MemPlace), w.cells? 0 a (Rep.sz α) = some cs → DataW.trod enc Try.prog w 0 (fun _ => true) held n e cs = some x → ∃ (b o : Nat) (y : α), a = ⟨b, o, none⟩ ∧ Rep.E w b o y)
    {fuel : Nat} {a : Option Addr} {len cap : Nat} {x : DataW H × List MemPlace} (h : DataW.trod enc Try.prog w 0 (fun _ => true) held fuel t [.slice a len cap] = some x) :
    ∃ xs : List α, xs.length = len ∧ Row w a cap xs := by
  rcases open_slice ht h with ⟨hcs, _⟩ | ⟨ad, l, c, m, n, D, Pl, hcs, _, hl, hm, hmm, _, hi⟩
  · simp at hcs
    obtain ⟨rfl, rfl, rfl⟩ := hcs
    exact ⟨[], rfl, Row.empty _ _ _ (by omega) (fun _ => rfl)⟩
  · simp at hcs
    obtain ⟨rfl, rfl, rfl⟩ := hcs
    simp only [if_true] at hmm
    subst hmm
    have key : ∀ i, i < len → ∃ (b o : Nat) (y : α), ad.add (i * Rep.sz α) = ⟨b, o, none⟩ ∧ Rep.E w b o y := by
      intro i hil
      obtain ⟨cs', hc, ht'⟩ := hi i (by omega)
      rw [hC] at hc
      exact hE n _ cs' _ hc ht'
    have hy : ∀ i : Fin len, ∃ y : α, ∃ b o, ad.add (i.val * Rep.sz α) = ⟨b, o, none⟩ ∧ Rep.E w b o y := fun i => by
      obtain ⟨b, o, y, e1, e2⟩ := key i.val i.isLt
      exact ⟨y, b, o, e1, e2⟩
    let f : Fin len → α := fun i => Classical.choose (hy i)
    have hf : ∀ i : Fin len, ∃ b o, ad.add (i.val * Rep.sz α) = ⟨b, o, none⟩ ∧ Rep.E w b o (f i) := fun i => Classical.choose_spec (hy i)
    refine ⟨List.ofFn f, List.length_ofFn, ⟨by rw [List.length_ofFn]; exact hl, by unfold maxLen at hm; omega, (fun e => by cases e), fun i x hx => ?_⟩⟩
    have hil : i < len := by
      have := (List.getElem?_eq_some_iff.1 hx).1; rwa [List.length_ofFn] at this
    have hx' : f ⟨i, hil⟩ = x := by
      rw [List.getElem?_eq_getElem (by rw [List.length_ofFn]; exact hil), List.getElem_ofFn] at hx
      exact Option.some.inj hx
    obtain ⟨b, o, e1, e2⟩ := hf ⟨i, hil⟩
    obtain ⟨b0, o0, s0⟩ := ad
    have hz := hf ⟨0, by omega⟩
    obtain ⟨b1, o1, e3, _⟩ := hz
    simp only [Nat.zero_mul, Addr.add, if_true] at e3
    injection e3 with e3 e4 e5
    subst e5
    rw [add_lit] at e1
    injection e1 with e1 e6
    subst e1
    refine ⟨b0, o0, rfl, ?_⟩
    rw [hx'] at e2
    rw [← e6] at e2
    exact e2

theorem spot_none {a : Addr} {v : Value} (h : w.cell? a = some v) : ∃ b o, a = ⟨b, o, none⟩ := by
  have := World.cell?_spot h
  obtain ⟨b, o, s⟩ := a
  simp at this
  subst this
  exact ⟨b, o, rfl⟩
theorem E_cell (n : Nat) (a : Addr) (cs : List Value) (x : DataW H × List MemPlace) (hc : w.cells? 0 a 3 = some cs) (h : DataW.trod enc Try.prog w 0 spare held n 45 cs = some x) : ∃ (b o : Nat) (y : Cel), a = ⟨b, o, none⟩ ∧ Rep.E w b o y := by
  obtain ⟨c, rfl, hf⟩ := open_cell h
  obtain ⟨_, _, hat⟩ := World.cells?_some hc
  have h0 := hat 0 (by omega)
  obtain ⟨b, o, rfl⟩ : ∃ b o, a = ⟨b, o, none⟩ := spot_none (by simpa [Addr.add] using h0)
  refine ⟨b, o, c, rfl, ?_⟩
  have h1 := hat 1 (by omega)
  have h2 := hat 2 (by omega)
  rw [add_lit] at h0 h1 h2
  exact ⟨h0, h1, h2, hf⟩
/-- []Cell -/
theorem open_cells {fuel : Nat} {a : Option Addr} {len cap : Nat} {x : DataW H × List MemPlace} (h : DataW.trod enc Try.prog w 0 (fun _ => true) held fuel 22 [.slice a len cap] = some x) :
    ∃ xs : List Cel, xs.length = len ∧ Row w a cap xs :=
  open_rows Try.underlying22 Try.cells45 (fun n a cs x h1 h2 => E_cell n a cs x h1 h2) h
theorem E_list {α : Type} [Rep α] {e : TypeId} {el : TypeId} (he : Try.prog.underlying e = some (.slice el))
    (hop : ∀ {fuel : Nat} {a : Option Addr} {len cap : Nat} {x : DataW H × List MemPlace}, DataW.trod enc Try.prog w 0 (fun _ => true) held fuel e [.slice a len cap] = some x → ∃ xs : List α, xs.length = len ∧ Row w a cap xs)
    (n : Nat) (a : Addr) (cs : List Value) (x : DataW H × List MemPlace) (hc : w.cells? 0 a 1 = some cs) (h : DataW.trod enc Try.prog w 0 (fun _ => true) held n e cs = some x) : ∃ (b o : Nat) (y : List α), a = ⟨b, o, none⟩ ∧ Rep.E w b o y := by
  obtain ⟨_, hl, hat⟩ := World.cells?_some hc
  have h0 := hat 0 (by omega)
  match cs, hl with
  | [v], _ =>
    have hv : ∃ a' len cap, v = .slice a' len cap := by
      rcases open_slice he h with ⟨hcs, _⟩ | ⟨ad, l, c, m, n, D, Pl, hcs, _⟩
      · simp at hcs; exact ⟨_, _, _, hcs⟩
      · simp at hcs; exact ⟨_, _, _, hcs⟩
    obtain ⟨a', len, cap, rfl⟩ := hv
    obtain ⟨xs, rfl, hr⟩ := hop h
    obtain ⟨b, o, rfl⟩ : ∃ b o, a = ⟨b, o, none⟩ := spot_none (by simpa [Addr.add] using h0)
    rw [add_lit] at h0
    exact ⟨b, o, xs, rfl, ⟨a', cap, h0, hr⟩⟩
/-- [][]Cell -/
theorem open_cellss {fuel : Nat} {a : Option Addr} {len cap : Nat} {x : DataW H × List MemPlace} (h : DataW.trod enc Try.prog w 0 (fun _ => true) held fuel 52 [.slice a len cap] = some x) :
    ∃ xs : List (List Cel), xs.length = len ∧ Row w a cap xs :=
  open_rows Try.underlying52 Try.cells22 (fun n a cs x h1 h2 => E_list (α := Cel) Try.underlying22 open_cells n a cs x h1 h2) h
end
end Go.Proofs.Ytkkiemideldioaa
namespace Go.Proofs.Ytkkiemideldioaa
open Go.RowKit Go.ChangeShapes Go.WideShapes Go.Deep Go.ChangeAt

theorem Try.cells4 : Try.prog.cellsOf 4 = 1 := by kernel_rfl
theorem Try.cells55 : Try.prog.cellsOf 55 = 2 := by kernel_rfl
theorem Try.cells23 : Try.prog.cellsOf 23 = 1 := by kernel_rfl
theorem Try.cells25 : Try.prog.cellsOf 25 = 2 := by kernel_rfl
section
variable {H : Type} {enc : TypeId × Value → H} {w : World} {held : Bool}
theorem open_slv {fuel : Nat} {t e : TypeId} (he : Try.prog.underlying t = some (.slice e)) {v : Value} {x : DataW H × List MemPlace} (h : DataW.trod enc Try.prog w 0 (fun _ => true) held fuel t [v] = some x) : ∃ a len cap, v = .slice a len cap := by
  rcases open_slice he h with ⟨hcs, _⟩ | ⟨ad, l, c, m, n, D, Pl, hcs, _⟩
  · simp at hcs; exact ⟨_, _, _, hcs⟩
  · simp at hcs; exact ⟨_, _, _, hcs⟩
set_option maxRecDepth 100000 in
theorem open_lit7 {n : Nat} {cs : List Value} {x : DataW H × List MemPlace} (h : DataW.trod enc Try.prog w 0 (fun _ => true) held n 55 cs = some x) :
    ∃ (v : Bool) (t : List Cel) (a : Option Addr) (cap : Nat), cs = [.bool v, .slice a t.length cap] ∧ Row w a cap t := by
  obtain ⟨ys, m, _, _, hlen, hyl, hf⟩ := DataW.trod_struct Try.underlying55 h
  rw [Try.cells55] at hlen
  match cs, hlen with
  | [v0, v1], _ =>
    have h0 : DataW.trod enc Try.prog w 0 (fun _ => true) held m 4 (([v0, v1].drop 0).take (Try.prog.cellsOf 4)) = ys[0]? := hf 0 _ rfl
    have h1 : DataW.trod enc Try.prog w 0 (fun _ => true) held m 22 (([v0, v1].drop 1).take (Try.prog.cellsOf 22)) = ys[1]? := hf 1 _ rfl
    rw [Try.cells4] at h0
    rw [Try.cells22] at h1
    have hy : ∀ i : Nat, i < 2 → ∃ y, ys[i]? = some y := fun i hi => ⟨_, List.getElem?_eq_getElem (by rw [hyl]; exact hi)⟩
    obtain ⟨y0, e0⟩ := hy 0 (by omega)
    obtain ⟨y1, e1⟩ := hy 1 (by omega)
    rw [e0] at h0
    rw [e1] at h1
    obtain ⟨a0, q0, _⟩ := DataW.trod_bool Try.underlying4 h0
    simp at q0
    have h1' : DataW.trod enc Try.prog w 0 (fun _ => true) held m 22 [v1] = some y1 := by simpa using h1
    obtain ⟨a', len, cap, rfl⟩ := open_slv Try.underlying22 h1'
    obtain ⟨xs, rfl, hr⟩ := open_cells h1'
    exact ⟨a0, xs, a', cap, by rw [q0], hr⟩
set_option maxRecDepth 100000 in
theorem E_lit7 (n : Nat) (a : Addr) (cs : List Value) (x : DataW H × List MemPlace) (hc : w.cells? 0 a 2 = some cs) (h : DataW.trod enc Try.prog w 0 (fun _ => true) held n 55 cs = some x) : ∃ (b o : Nat) (y : Lt), a = ⟨b, o, none⟩ ∧ Rep.E w b o y := by
  obtain ⟨v, t, a', cap, rfl, hr⟩ := open_lit7 h
  obtain ⟨_, _, hat⟩ := World.cells?_some hc
  have h0 := hat 0 (by omega)
  obtain ⟨b, o, rfl⟩ : ∃ b o, a = ⟨b, o, none⟩ := spot_none (by simpa [Addr.add] using h0)
  refine ⟨b, o, ⟨v, t⟩, rfl, ?_⟩
  have h1 := hat 1 (by omega)
  rw [add_lit] at h0 h1
  exact ⟨a', cap, h0, h1, hr⟩
theorem open_lits7 {fuel : Nat} {a : Option Addr} {len cap : Nat} {x : DataW H × List MemPlace} (h : DataW.trod enc Try.prog w 0 (fun _ => true) held fuel 23 [.slice a len cap] = some x) :
    ∃ xs : List Lt, xs.length = len ∧ Row w a cap xs :=
  open_rows Try.underlying23 Try.cells55 (fun n a cs x h1 h2 => E_lit7 n a cs x h1 h2) h
set_option maxRecDepth 100000 in
theorem open_clause7 {n : Nat} {cs : List Value} {x : DataW H × List MemPlace} (h : DataW.trod enc Try.prog w 0 (fun _ => true) held n 25 cs = some x) :
    ∃ (c : Cl) (a : Option Addr) (cap : Nat) (a' : Option Addr) (cap' : Nat), cs = [.slice a c.h.length cap, .slice a' c.b.length cap'] ∧ Row w a cap c.h ∧ Row w a' cap' c.b := by
  obtain ⟨ys, m, _, _, hlen, hyl, hf⟩ := DataW.trod_struct Try.underlying25 h
  rw [Try.cells25] at hlen
  match cs, hlen with
  | [v0, v1], _ =>
    have h0 : DataW.trod enc Try.prog w 0 (fun _ => true) held m 22 (([v0, v1].drop 0).take (Try.prog.cellsOf 22)) = ys[0]? := hf 0 _ rfl
    have h1 : DataW.trod enc Try.prog w 0 (fun _ => true) held m 23 (([v0, v1].drop 1).take (Try.prog.cellsOf 23)) = ys[1]? := hf 1 _ rfl
    rw [Try.cells22] at h0
    rw [Try.cells23] at h1
    have hy : ∀ i : Nat, i < 2 → ∃ y, ys[i]? = some y := fun i hi => ⟨_, List.getElem?_eq_getElem (by rw [hyl]; exact hi)⟩
    obtain ⟨y0, e0⟩ := hy 0 (by omega)
    obtain ⟨y1, e1⟩ := hy 1 (by omega)
    rw [e0] at h0
    rw [e1] at h1
    have h0' : DataW.trod enc Try.prog w 0 (fun _ => true) held m 22 [v0] = some y0 := by simpa using h0
    have h1' : DataW.trod enc Try.prog w 0 (fun _ => true) held m 23 [v1] = some y1 := by simpa using h1
    obtain ⟨a, len, cap, rfl⟩ := open_slv Try.underlying22 h0'
    obtain ⟨a', len', cap', rfl⟩ := open_slv Try.underlying23 h1'
    obtain ⟨xs, rfl, hr⟩ := open_cells h0'
    obtain ⟨ls, rfl, hr'⟩ := open_lits7 h1'
    exact ⟨⟨xs, ls⟩, a, cap, a', cap', rfl, hr, hr'⟩
set_option maxRecDepth 100000 in
theorem E_clause7 (n : Nat) (a : Addr) (cs : List Value) (x : DataW H × List MemPlace) (hc : w.cells? 0 a 2 = some cs) (h : DataW.trod enc Try.prog w 0 (fun _ => true) held n 25 cs = some x) : ∃ (b o : Nat) (y : Cl), a = ⟨b, o, none⟩ ∧ Rep.E w b o y := by
  obtain ⟨c, a1, cap, a', cap', rfl, hr, hr'⟩ := open_clause7 h
  obtain ⟨_, _, hat⟩ := World.cells?_some hc
  have h0 := hat 0 (by omega)
  obtain ⟨b, o, rfl⟩ : ∃ b o, a = ⟨b, o, none⟩ := spot_none (by simpa [Addr.add] using h0)
  refine ⟨b, o, c, rfl, ?_⟩
  have h1 := hat 1 (by omega)
  rw [add_lit] at h0 h1
  exact ⟨a1, cap, a', cap', h0, h1, hr, hr'⟩
theorem open_clauses7 {fuel : Nat} {a : Option Addr} {len cap : Nat} {x : DataW H × List MemPlace} (h : DataW.trod enc Try.prog w 0 (fun _ => true) held fuel 29 [.slice a len cap] = some x) :
    ∃ xs : List Cl, xs.length = len ∧ Row w a cap xs :=
  open_rows Try.underlying29 Try.cells25 (fun n a cs x h1 h2 => E_clause7 n a cs x h1 h2) h
set_option maxRecDepth 100000 in
theorem agg_clause {base : Nat} {v : Value} (hk : Value.okWide Try.prog w .any base 25 v) : ∃ cs, v = .agg cs := by
  simp only [Value.okWide, Try.underlying25] at hk
  obtain ⟨cs, h1, _⟩ := hk
  exact ⟨cs, h1⟩
end
end Go.Proofs.Ytkkiemideldioaa
namespace Go.Proofs.Ytkkiemideldioaa
open Go.RowKit Go.ChangeShapes Go.WideShapes

theorem Try.cells48 : Try.prog.cellsOf 48 = 6 := by kernel_rfl
section
variable {w : World} {H : Type} {enc : TypeId × Value → H} {held : Bool}
set_option maxRecDepth 100000 in
theorem open_ins10 {n : Nat} {cs : List Value} {x : DataW H × List MemPlace} (h : DataW.trod enc Try.prog w 0 (fun _ => true) held n 48 cs = some x) :
    ∃ c : Ins, cs = [.int .i64 c.op, .int .i64 c.x, .int .i64 c.a, .string c.s, .int .i64 c.n, .bool c.neg] ∧ c.fit := by
  obtain ⟨ys, m, _, _, hlen, hyl, hf⟩ := DataW.trod_struct Try.underlying48 h
  rw [Try.cells48] at hlen
  match cs, hlen with
  | [v0, v1, v2, v3, v4, v5], _ =>
    have h0 : DataW.trod enc Try.prog w 0 (fun _ => true) held m 3 (([v0, v1, v2, v3, v4, v5].drop 0).take (Try.prog.cellsOf 3)) = ys[0]? := hf 0 _ rfl
    have h1 : DataW.trod enc Try.prog w 0 (fun _ => true) held m 3 (([v0, v1, v2, v3, v4, v5].drop 1).take (Try.prog.cellsOf 3)) = ys[1]? := hf 1 _ rfl
    have h2 : DataW.trod enc Try.prog w 0 (fun _ => true) held m 3 (([v0, v1, v2, v3, v4, v5].drop 2).take (Try.prog.cellsOf 3)) = ys[2]? := hf 2 _ rfl
    have h3 : DataW.trod enc Try.prog w 0 (fun _ => true) held m 9 (([v0, v1, v2, v3, v4, v5].drop 3).take (Try.prog.cellsOf 9)) = ys[3]? := hf 3 _ rfl
    have h4 : DataW.trod enc Try.prog w 0 (fun _ => true) held m 3 (([v0, v1, v2, v3, v4, v5].drop 4).take (Try.prog.cellsOf 3)) = ys[4]? := hf 4 _ rfl
    have h5 : DataW.trod enc Try.prog w 0 (fun _ => true) held m 4 (([v0, v1, v2, v3, v4, v5].drop 5).take (Try.prog.cellsOf 4)) = ys[5]? := hf 5 _ rfl
    rw [Try.cells3] at h0 h1 h2 h4
    rw [Try.cells9] at h3
    rw [Try.cells4] at h5
    have hy : ∀ i : Nat, i < 6 → ∃ y, ys[i]? = some y := fun i hi => ⟨_, List.getElem?_eq_getElem (by rw [hyl]; exact hi)⟩
    obtain ⟨y0, e0⟩ := hy 0 (by omega)
    obtain ⟨y1, e1⟩ := hy 1 (by omega)
    obtain ⟨y2, e2⟩ := hy 2 (by omega)
    obtain ⟨y3, e3⟩ := hy 3 (by omega)
    obtain ⟨y4, e4⟩ := hy 4 (by omega)
    obtain ⟨y5, e5⟩ := hy 5 (by omega)
    rw [e0] at h0
    rw [e1] at h1
    rw [e2] at h2
    rw [e3] at h3
    rw [e4] at h4
    rw [e5] at h5
    obtain ⟨a0, q0, _, f0⟩ := DataW.trod_int Try.underlying3 h0
    obtain ⟨a1, q1, _, f1⟩ := DataW.trod_int Try.underlying3 h1
    obtain ⟨a2, q2, _, f2⟩ := DataW.trod_int Try.underlying3 h2
    obtain ⟨a3, q3, _, f3⟩ := DataW.trod_string Try.underlying9 h3
    obtain ⟨a4, q4, _, f4⟩ := DataW.trod_int Try.underlying3 h4
    obtain ⟨a5, q5, _⟩ := DataW.trod_bool Try.underlying4 h5
    simp at q0 q1 q2 q3 q4 q5
    exact ⟨⟨a0, a1, a2, a3, a4, a5⟩, by rw [q0, q1, q2, q3, q4, q5], ⟨(i64_wf f0).1, (i64_wf f0).2, (i64_wf f1).1, (i64_wf f1).2, (i64_wf f2).1, (i64_wf f2).2, by unfold maxLen at f3; exact f3, (i64_wf f4).1, (i64_wf f4).2⟩⟩
set_option maxRecDepth 100000 in
theorem E_ins10 (n : Nat) (a : Addr) (cs : List Value) (x : DataW H × List MemPlace) (hc : w.cells? 0 a 6 = some cs) (h : DataW.trod enc Try.prog w 0 (fun _ => true) held n 48 cs = some x) : ∃ (b o : Nat) (y : Ins), a = ⟨b, o, none⟩ ∧ Rep.E w b o y := by
  obtain ⟨c, rfl, hf⟩ := open_ins10 h
  obtain ⟨_, _, hat⟩ := World.cells?_some hc
  have h0 := hat 0 (by omega)
  obtain ⟨b, o, rfl⟩ : ∃ b o, a = ⟨b, o, none⟩ := spot_none (by simpa [Addr.add] using h0)
  refine ⟨b, o, c, rfl, ?_⟩
  have h1 := hat 1 (by omega)
  have h2 := hat 2 (by omega)
  have h3 := hat 3 (by omega)
  have h4 := hat 4 (by omega)
  have h5 := hat 5 (by omega)
  rw [add_lit] at h0 h1 h2 h3 h4 h5
  exact ⟨h0, h1, h2, h3, h4, h5, hf⟩
/-- []Instr -/
theorem open_inss10 {fuel : Nat} {a : Option Addr} {len cap : Nat} {x : DataW H × List MemPlace} (h : DataW.trod enc Try.prog w 0 (fun _ => true) held fuel 26 [.slice a len cap] = some x) :
    ∃ xs : List Ins, xs.length = len ∧ Row w a cap xs :=
  open_rows Try.underlying26 Try.cells48 (fun n a cs x h1 h2 => E_ins10 n a cs x h1 h2) h
end
end Go.Proofs.Ytkkiemideldioaa

