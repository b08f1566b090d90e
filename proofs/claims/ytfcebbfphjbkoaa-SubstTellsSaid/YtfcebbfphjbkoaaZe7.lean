/-
  Of layer 2 of sorrel: whatever two rows of bindings, and a term and variables, come in, the law SubstTells returns true, and all reads as it did: whether bindings are right, and what right ones make of a right term, alone, and composed with others, which are kept, and whether twice is once, is as the document answers. No condition.
-/
import Derived.Test.YtfcebbfphjbkoaaZe6
import Derived.Deep.RegionHeld3
import Derived.Deep.Slices
import Derived.Deep.Fields
import Derived.ChangeSame
import Derived.ProofKit
import Derived.OpenShut
import Derived.ShutString
import Derived.ChangeOld
import Derived.Lib.SmallJoins
namespace Go.Proofs.Ytfcebbfphjbkoaa
open Go.RowKit

/-- what the document's May says -/
structure MayS (s : List Bnd) (t : List Cel) : Prop where
  rs : rightS s = true
  rt : rightB t = true
  l : t.length ≤ 200
  n : s.length ≤ 30
  T : ∀ b ∈ s, b.t.length ≤ 200
  e : lookL s = look s
  ok : okF (look s)
theorem right_le {t : List Cel} (h : rightB t = true) : t.length ≤ 200 := (right_iff.1 h).1
theorem rightS_T {s : List Bnd} (h : rightS s = true) : ∀ b ∈ s, b.t.length ≤ 200 := fun b hb => right_le (rightG_mem h b hb).2.2.1
theorem may_spec {s : List Bnd} {t : List Cel} (h : mayB s t = true) : MayS s t := by
  unfold mayB fewB at h
  simp only [Bool.and_eq_true, decide_eq_true_eq] at h
  exact ⟨h.1.2, h.2, right_le h.2, h.1.1.2.2, rightS_T h.1.2, lookL_eq (rightG_rise h.1.2), okF_look h.1.2⟩
theorem putC_le2 {s : List Bnd} (h : ∀ b ∈ s, b.t.length ≤ 200) (c : Cel) : (putC (look s) c).length ≤ 200 := by
  unfold putC
  split
  · cases hl : look s c.n with
    | none => simp
    | some t =>
      obtain ⟨b, hb, _, rfl⟩ := look_mem hl
      simpa using h b hb
  · simp
theorem putL_le2 {s : List Bnd} (h : ∀ b ∈ s, b.t.length ≤ 200) (t : List Cel) : (putL (look s) t).length ≤ 200 * t.length := by
  induction t with
  | nil => simp [putL]
  | cons c t ih =>
    have := putC_le2 h c
    rw [putL_cons, List.length_append, List.length_cons]; omega
section lit
variable {w : World} {a a' : Option Addr} {cap cap' : Nat}
theorem may_lit {xs : List Bnd} {ys : List Cel} {b : Bool} (hx : Row w a cap xs) (hy : Row w a' cap' ys) (hb : mayB xs ys = b) :
    Calls Try.prog 20 #[.slice a xs.length cap, .slice a' ys.length cap'] w fun e w' => e = .returned (.bool b) ∧ Below w.heap.size w w' := by
  subst hb; exact may2_any a cap a' cap' w xs ys hx hy
/-- put in, in terms of the first binding -/
theorem apply_yes {xs : List Bnd} {ys : List Cel} (hx : Row w a cap xs) (hy : Row w a' cap' ys) (hl : xs.length ≤ 1000000) (hl2 : ys.length ≤ 10000) (he : lookL xs = look xs) (ho : outB (look xs) ys = true) :
    Calls Try.prog 21 #[.slice a xs.length cap, .slice a' ys.length cap'] w fun e w' => ∃ a2 cap2, e = .returned (.tuple #[.slice a2 (putL (look xs) ys).length cap2, .bool true]) ∧ NewRow w.heap.size w' a2 cap2 (putL (look xs) ys) ∧ Below w.heap.size w w' := by
  have h := applysub_any a cap a' cap' w xs ys hx hy hl hl2
  rw [he, ho, show outL (look xs) ys = putL (look xs) ys by unfold outL; rw [if_pos ho]] at h
  exact h
theorem apply_no {xs : List Bnd} {ys : List Cel} (hx : Row w a cap xs) (hy : Row w a' cap' ys) (hl : xs.length ≤ 1000000) (hl2 : ys.length ≤ 10000) (he : lookL xs = look xs) (ho : outB (look xs) ys = false) :
    Calls Try.prog 21 #[.slice a xs.length cap, .slice a' ys.length cap'] w fun e w' => ∃ a2 cap2, e = .returned (.tuple #[.slice a2 0 cap2, .bool false]) ∧ NewRow w.heap.size w' a2 cap2 ([] : List Cel) ∧ Below w.heap.size w w' := by
  have h := applysub_any a cap a' cap' w xs ys hx hy hl hl2
  rw [he, ho, show outL (look xs) ys = [] by unfold outL; rw [if_neg (by simp [ho])]] at h
  exact h
end lit

set_option maxHeartbeats 4000000 in
set_option maxRecDepth 100000 in
theorem lawLong_any (w : World) (xs : List Bnd) (ys : List Cel) (a : Option Addr) (cap : Nat) (a' : Option Addr) (cap' : Nat) (hx : Row w a cap xs) (hy : Row w a' cap' ys) :
    Calls Try.prog 11 #[.slice a xs.length cap, .slice a' ys.length cap'] w fun e w' => e = .returned (.bool true) ∧ Below w.heap.size w w' := by
  cases hM : mayB xs ys with
  | false =>
    have HM := mkHid hM
    clear hM
    go_enter Try.func11, Try.ntmps11
    go_wp2_with (first
      | (go_at_call 16; refine (head2_any _).mono ?_; rintro e w1 ⟨rfl, hb1⟩)
      | (go_at_call 20; refine (may_lit (hx.below hb1) (hy.below hb1) HM.out).mono ?_; rintro e w2 ⟨rfl, hb2⟩))
    go_ret
    exact ⟨rfl, hb1.then hb2⟩
  | true =>
    have hS := may_spec hM
    have HM := mkHid hM
    have HS := mkHid hS
    have hl := hS.l
    have hn := hS.n
    clear hM hS
    go_enter Try.func11, Try.ntmps11
    go_wp2_with (first
      | (go_at_call 16; refine (head2_any _).mono ?_; rintro e w1 ⟨rfl, hb1⟩)
      | (go_at_call 20; refine (may_lit (hx.below hb1) (hy.below hb1) HM.out).mono ?_; rintro e w2 ⟨rfl, hb2⟩; have hb02 := hb1.then hb2))
    go_loopw [6, 7, 8] (fun n i at_ wr => ∃ k : Nat, k ≤ ys.length ∧ i = .int .i64 k ∧ n = .int .i64 (putL (look xs) (ys.take k)).length ∧ Below w.heap.size w wr) (fun n i at_ wr => ys.length - (intOf i).toNat)
    case atStart => exact ⟨0, Nat.zero_le _, rfl, rfl, hb02⟩
    case round =>
      obtain ⟨k, hk, rfl, rfl, hbl⟩ := hrel
      have hle := putL_le2 HS.out.T (ys.take k)
      have hlk : (ys.take k).length ≤ k := List.length_take_le _ _
      by_cases hlt : k < ys.length
      · obtain ⟨b, off, rfl, hb, hat⟩ := hy.cases.resolve_left (fun e => by simp [e] at hlt)
        obtain ⟨c0, c1, c2, hf⟩ := cel_at hat hbl hlt
        have HP := mkHid (putL_snoc (look xs) ys k hlt)
        by_cases h1 : ys[k].k = 1
        · have t1 : (ys[k].k == 1) = true := by simp [h1]
          rcases place_look xs ys[k].n with ⟨hp, hlk2, _⟩ | ⟨i, hi, hp, _, hlk2⟩
          · have HC : Hid ((putL (look xs) (ys.take (k + 1))).length = (putL (look xs) (ys.take k)).length + 1) := by
              rw [Hid, HP.out, List.length_append]; unfold putC; rw [if_pos h1, hlk2]; rfl
            have HQ := mkHid hp
            clear h1 hp hlk2
            go_wp2_with (go_at_call 36; refine (place2_any _ cap _ _ xs (hx.below hbl)).mono ?_; rintro e w3 ⟨rfl, hb3⟩; rw [HQ.out])
            go_round
            case rel => exact ⟨k + 1, by omega, by go_num, by rw [HC.out]; go_num, hbl.then hb3⟩
            case measure => simp [intOf]; omega
          · have HC : Hid ((putL (look xs) (ys.take (k + 1))).length = (putL (look xs) (ys.take k)).length + xs[i].t.length) := by
              rw [Hid, HP.out, List.length_append]; unfold putC; rw [if_pos h1, hlk2]; rfl
            have HQ := mkHid hp
            have hTi := HS.out.T xs[i] (List.getElem_mem hi)
            obtain ⟨b', off', rfl, hb', hat'⟩ := hx.cases.resolve_left (fun e => by simp [e] at hi)
            clear h1 hp hlk2
            go_wp2_with (go_at_call 36; refine (place2_any _ cap _ _ xs (hx.below hbl)).mono ?_; rintro e w3 ⟨rfl, hb3⟩; rw [HQ.out]; obtain ⟨a1, cap1, d0, d1, hr1, _, _⟩ := bnd_at hat' (hbl.then hb3) hi)
            go_round
            case rel => exact ⟨k + 1, by omega, by go_num, by rw [HC.out]; go_num, hbl.then hb3⟩
            case measure => simp [intOf]; omega
        · have t1 : (ys[k].k == 1) = false := by simp [h1]
          have HC : Hid ((putL (look xs) (ys.take (k + 1))).length = (putL (look xs) (ys.take k)).length + 1) := by
            rw [Hid, HP.out, List.length_append]; unfold putC; rw [if_neg h1]; rfl
          clear h1
          go_wp2
          go_round
          case rel => exact ⟨k + 1, by omega, by go_num, by rw [HC.out]; go_num, hbl⟩
          case measure => simp [intOf]; omega
      · rw [List.take_of_length_le (by omega)] at *
        cases hO : outB (look xs) ys with
        | true =>
          have h200 := outB_iff.1 hO
          have HO := mkHid hO
          clear hO
          go_wp2_with (go_at_call 21; refine (apply_yes (hx.below hbl) (hy.below hbl) (by omega) (by omega) HS.out.e HO.out).mono ?_; rintro e w3 ⟨a3, cap3, rfl, r3, hb3⟩)
          go_ret
          exact ⟨rfl, hbl.then hb3⟩
        | false =>
          have h200 : ¬ (putL (look xs) ys).length ≤ 200 := fun h => by rw [outB_iff.2 h] at hO; cases hO
          have HO := mkHid hO
          clear hO
          go_wp2_with (go_at_call 21; refine (apply_no (hx.below hbl) (hy.below hbl) (by omega) (by omega) HS.out.e HO.out).mono ?_; rintro e w3 ⟨a3, cap3, rfl, r3, hb3⟩)
          go_ret
          exact ⟨ret_bool (by simp; omega), hbl.then hb3⟩
end Go.Proofs.Ytfcebbfphjbkoaa
namespace Go.Proofs.Ytfcebbfphjbkoaa
open Go.RowKit

/-! ### the mathematics of composing -/
theorem look_inj {s s' : List Bnd} (h : s.Pairwise fun x y => x.v < y.v) (h' : s'.Pairwise fun x y => x.v < y.v) (e : look s = look s') : s = s' :=
  rise_ext h h' fun ⟨n, t⟩ => by rw [← look_iff h, ← look_iff h', e]
/-- a composition and what it is -/
structure CmS (a b L : List Bnd) : Prop where
  rs : rightS L = true
  e : lookL L = look L
  k : look L = cleanF (compF (look a) (look b))
  n : L.length ≤ a.length + b.length
  T : ∀ b ∈ L, b.t.length ≤ 200
  ok : okF (look L)
theorem cm_length (a b : List Bnd) : (cmL a b).length ≤ a.length + b.length := by
  unfold cmL cleanL restB
  refine Nat.le_trans (List.length_filter_le _ _) ?_
  rw [List.length_append, List.length_map]
  have := List.length_filter_le (fun x : Bnd => !(lookL a x.v).isSome) b
  have := List.length_filter_le (fun x : Bnd => (lookL a x.v).isNone) b
  first
    | omega
    | exact Nat.add_le_add_left (List.length_filter_le _ _) _
theorem cm_spec {a b L : List Bnd} (ha : rightS a = true) (hb : rightS b = true) (hB : cmB a b = true) (hp : L.Perm (cmL a b)) (hr : risesB L) : CmS a b L := by
  have hL := cm_right ha hb hB hp hr
  exact ⟨hL, lookL_eq (rightG_rise hL), cm_look (rightG_rise ha) (rightG_rise hb) hp hr, by rw [hp.length_eq]; exact cm_length a b, rightS_T hL, okF_look hL⟩
theorem CmS.put {a b L : List Bnd} (h : CmS a b L) {l : List Cel} (hl : ∀ c ∈ l, cellOk c = true) : putL (look L) l = putL (look b) (putL (look a) l) :=
  put_put (fun n _ _ => by rw [h.k, sub_clean, sub_comp]) hl
theorem CmS.ext {a b L a' b' L' : List Bnd} (h : CmS a b L) (h' : CmS a' b' L') (e : cleanF (compF (look a) (look b)) = cleanF (compF (look a') (look b'))) : L = L' :=
  look_inj (rightG_rise h.rs) (rightG_rise h'.rs) (by rw [h.k, h'.k, e])
theorem clean_sub (f : Int → Option (List Cel)) (n : Int) : cleanF f n = if subF f n = [varC n] then none else some (subF f n) := by
  unfold cleanF subF ownB
  cases f n with
  | none => simp
  | some t => simp
theorem clean_ext {f g : Int → Option (List Cel)} (h : ∀ n, subF f n = subF g n) : cleanF f = cleanF g := by
  funext n; rw [clean_sub, clean_sub, h]
theorem comp_assoc {f g h : Int → Option (List Cel)} (hf : okF f) : cleanF (compF (cleanF (compF f g)) h) = cleanF (compF f (cleanF (compF g h))) := by
  refine clean_ext fun n => ?_
  rw [sub_comp, sub_clean, sub_comp, sub_comp]
  cases hn : f n with
  | none =>
    have e : subF f n = [varC n] := by unfold subF; rw [hn]; rfl
    rw [e, put_var, put_var, sub_clean, sub_comp]
  | some t =>
    have e : subF f n = t := by unfold subF; rw [hn]; rfl
    rw [e]
    exact (put_put (fun m _ _ => by rw [sub_clean, sub_comp]) (right_cells (hf n t hn))).symm
theorem put_none (t : List Cel) : putL (look []) t = t := by
  induction t with
  | nil => rfl
  | cons c t ih =>
    rw [putL_cons, ih]
    unfold putC; split <;> rfl
theorem clean_look {a : List Bnd} (ha : rightS a = true) : cleanF (look a) = look a := by
  funext n
  unfold cleanF
  cases h : look a n with
  | none => rfl
  | some t =>
    have := (rightG_mem ha _ (look_some h)).2.2.2
    simp [this]
theorem comp_nil {a : List Bnd} : compF (look a) (look []) = look a := by
  funext n
  unfold compF
  cases look a n with
  | none => rfl
  | some t => simp [put_none]
theorem nil_comp {a : List Bnd} : compF (look []) (look a) = look a := by
  funext n; rfl
theorem CmS.nil_right {a L : List Bnd} (ha : rightS a = true) (h : CmS a [] L) : L = a :=
  look_inj (rightG_rise h.rs) (rightG_rise ha) (by rw [h.k, comp_nil, clean_look ha])
theorem CmS.nil_left {a L : List Bnd} (ha : rightS a = true) (h : CmS [] a L) : L = a :=
  look_inj (rightG_rise h.rs) (rightG_rise ha) (by rw [h.k, nil_comp, clean_look ha])
theorem cmB_nil {a : List Bnd} (ha : rightS a = true) : cmB a [] = true := by
  unfold cmB
  refine List.all_eq_true.2 fun x hx => ?_
  rw [show lookL [] = look [] from rfl, outB_iff, put_none]
  exact rightS_T ha x hx
section lit
variable {w : World} {a a' : Option Addr} {cap cap' n m : Nat}
theorem compose_yes {xs ys : List Bnd} (hn : n = xs.length) (hx : Row w a cap xs) (hm : m = ys.length) (hy : Row w a' cap' ys) (ha : rightS xs = true) (hb : rightS ys = true) (hl : xs.length ≤ 1000) (hl2 : ys.length ≤ 1000) (hB : cmB xs ys = true) :
    Calls Try.prog 23 #[.slice a n cap, .slice a' m cap'] w fun e w' => ∃ a2 cap2 L, e = .returned (.tuple #[.slice a2 (List.length L) cap2, .bool true]) ∧ Row w' a2 cap2 L ∧ CmS xs ys L ∧ Below w.heap.size w w' := by
  subst hn; subst hm
  refine (composesub_any a cap a' cap' w xs ys hx hy (by omega) (by omega) (fun b h => by have := rightS_T ha b h; omega) (fun b h => by have := rightS_T hb b h; omega)).mono fun e w' ⟨hb2, h⟩ => ?_
  rcases h with ⟨h, _⟩ | ⟨_, a2, cap2, L, he, hrow, hpl, hri⟩
  · rw [hB] at h; cases h
  · exact ⟨a2, cap2, L, he, hrow, cm_spec ha hb hB hpl hri, hb2⟩
theorem compose_no {xs ys : List Bnd} (hn : n = xs.length) (hx : Row w a cap xs) (hm : m = ys.length) (hy : Row w a' cap' ys) (ha : rightS xs = true) (hb : rightS ys = true) (hl : xs.length ≤ 1000) (hl2 : ys.length ≤ 1000) (hB : cmB xs ys = false) :
    Calls Try.prog 23 #[.slice a n cap, .slice a' m cap'] w fun e w' => e = .returned (.tuple #[.slice none 0 0, .bool false]) ∧ Below w.heap.size w w' := by
  subst hn; subst hm
  refine (composesub_any a cap a' cap' w xs ys hx hy (by omega) (by omega) (fun b h => by have := rightS_T ha b h; omega) (fun b h => by have := rightS_T hb b h; omega)).mono fun e w' ⟨hb2, h⟩ => ?_
  rcases h with ⟨_, h⟩ | ⟨h, _⟩
  · exact ⟨h, hb2⟩
  · rw [hB] at h; cases h
end lit
end Go.Proofs.Ytfcebbfphjbkoaa
namespace Go.Proofs.Ytfcebbfphjbkoaa
open Go.RowKit

/-! ### the mathematics of what is put in twice -/
/-- no cell is changed -/
def calm (f : Int → Option (List Cel)) (t : List Cel) : Prop := ∀ c ∈ t, putC f c = [c]
theorem put_calm {f : Int → Option (List Cel)} {t : List Cel} (h : calm f t) : putL f t = t := by
  induction t with
  | nil => rfl
  | cons c t ih => rw [putL_cons, h c (by simp), ih fun d hd => h d (by simp [hd])]; rfl
theorem calm_put {f : Int → Option (List Cel)} (hf : okF f) {t : List Cel} (h : putL f t = t) : calm f t := by
  induction t with
  | nil => intro c hc; simp at hc
  | cons c t ih =>
    rw [putL_cons] at h
    have h1 := putC_pos hf c
    have h2 := put_grows hf t
    have h3 : (putC f c).length + (putL f t).length = t.length + 1 := by rw [← List.length_append, h]; rfl
    have h4 : (putC f c).length = 1 := by omega
    obtain ⟨d, hd⟩ := List.length_eq_one_iff.1 h4
    rw [hd] at h
    have h5 := List.cons.inj h
    have h6 := ih h5.2
    intro e he
    rcases List.mem_cons.1 he with rfl | he
    · rw [hd, h5.1]
    · exact h6 e he
theorem calm_free {s : List Bnd} (hs : rightS s = true) {t : List Cel} (ht : ∀ c ∈ t, cellOk c = true) : calm (look s) t ↔ freeB s t = true := by
  unfold calm freeB
  rw [List.all_eq_true]
  refine forall_congr' fun c => forall_congr' fun hc => ?_
  by_cases h1 : c.k = 1
  · have hv := cellOk_var (ht c hc) h1
    unfold putC
    rw [if_pos h1]
    cases h : look s c.n with
    | none => simp
    | some u =>
      simp only [Option.getD_some, h1, BEq.rfl, Option.isSome_some, Bool.and_self, Bool.not_true, Bool.false_eq_true, iff_false]
      intro e
      have := (rightG_mem hs _ (look_some h)).2.2.2
      rw [e, hv] at this
      simp [ownB, varC] at this
  · unfold putC
    rw [if_neg h1]
    simp [h1]
theorem free_vars (s : List Bnd) (t : List Cel) : freeB s t = !anyV (look s) (varsL t) := by
  rw [Bool.eq_iff_iff]
  unfold freeB anyV
  simp only [List.all_eq_true, Bool.not_eq_true', Bool.and_eq_false_iff, List.any_eq_false, beq_eq_false_iff_ne, ne_eq]
  constructor
  · intro h n hn
    rcases mem_vars_of t [] n hn with hn | ⟨c, hc, h1, rfl⟩
    · simp at hn
    · rcases h c hc with h2 | h2
      · exact absurd h1 h2
      · simp [h2]
  · intro h c hc
    by_cases h1 : c.k = 1
    · right
      have := h c.n (mem_varsL hc h1)
      simpa using this
    · exact .inl h1
theorem idem_same {s : List Bnd} (hs : rightS s = true) : idemL s = idemB s := by
  rw [idem_eq]
  unfold idemL
  rw [lookL_eq (rightG_rise hs)]
  congr 1
  funext b
  rw [free_vars]
/-- just those of which each part stays -/
theorem idem_iff {s : List Bnd} (hs : rightS s = true) : idemL s = true ↔ ∀ b ∈ s, putL (look s) b.t = b.t := by
  rw [idem_same hs, idem_eq, List.all_eq_true]
  refine forall_congr' fun b => forall_congr' fun hb => ?_
  rw [← calm_free hs (right_cells (rightG_mem hs b hb).2.2.1)]
  exact ⟨put_calm, calm_put (okF_look hs)⟩
theorem idem_sub {s : List Bnd} (h : ∀ b ∈ s, putL (look s) b.t = b.t) (n : Int) : putL (look s) (subF (look s) n) = subF (look s) n := by
  cases hn : look s n with
  | none =>
    have e : subF (look s) n = [varC n] := by unfold subF; rw [hn]; rfl
    rw [e, put_var, e]
  | some t =>
    have e : subF (look s) n = t := by unfold subF; rw [hn]; rfl
    rw [e]; exact h _ (look_some hn)
theorem idem_twice {s : List Bnd} (h : ∀ b ∈ s, putL (look s) b.t = b.t) {t : List Cel} (ht : ∀ c ∈ t, cellOk c = true) : putL (look s) (putL (look s) t) = putL (look s) t :=
  (put_put (fun n _ _ => (idem_sub h n).symm) ht).symm
theorem idem_cmB {s : List Bnd} (hs : rightS s = true) (h : ∀ b ∈ s, putL (look s) b.t = b.t) : cmB s s = true := by
  unfold cmB
  refine List.all_eq_true.2 fun x hx => ?_
  rw [lookL_eq (rightG_rise hs), outB_iff, h x hx]
  exact rightS_T hs x hx
theorem CmS.idem {s L : List Bnd} (hs : rightS s = true) (h : ∀ b ∈ s, putL (look s) b.t = b.t) (hC : CmS s s L) : L = s := by
  refine look_inj (rightG_rise hC.rs) (rightG_rise hs) ?_
  have e : cleanF (compF (look s) (look s)) = cleanF (look s) := clean_ext fun n => by rw [sub_comp, idem_sub h]
  rw [hC.k, e, clean_look hs]
end Go.Proofs.Ytfcebbfphjbkoaa
namespace Go.Proofs.Ytfcebbfphjbkoaa
open Go.RowKit

/-! ### the document's composing is the project's -/
theorem apB_out (s : List Bnd) (t : List Cel) : apB s t = outB (look s) t := by
  unfold apB outB
  rw [Bool.eq_iff_iff, decide_eq_true_eq, decide_eq_true_eq]; omega
theorem apL_out (s : List Bnd) (t : List Cel) : apL s t = outL (look s) t := by
  unfold apL outL; rw [apB_out]
theorem comp_at (a b : List Bnd) (v : Int) : compAt a b v = compF (look a) (look b) v := rfl
theorem compB_same {a b : List Bnd} (ha : rightS a = true) (hb : rightS b = true) : compB a b = cmB a b := by
  unfold compB cmB
  rw [Bool.eq_iff_iff, List.all_eq_true, List.all_eq_true, lookL_eq (rightG_rise hb)]
  constructor
  · intro h x hx
    have hr := rightG_mem ha x hx
    have h1 := h x.v.toNat (List.mem_range.2 (by omega))
    unfold fitAt at h1
    rw [show ((x.v.toNat : Nat) : Int) = x.v by omega, look_of_mem (rightG_rise ha) hx] at h1
    rw [← apB_out]; exact h1
  · intro h v _
    unfold fitAt
    cases hl : look a (v : Int) with
    | none => rfl
    | some t => show apB b t = true; rw [apB_out]; exact h _ (look_some hl)
theorem comp_mem {a b : List Bnd} {x : Bnd} {k : Nat} : x ∈ compUp a b k ↔ 0 ≤ x.v ∧ x.v < k ∧ compF (look a) (look b) x.v = some x.t ∧ ownR x.v x.t = false := by
  unfold compUp
  rw [List.mem_flatMap]
  have key : ∀ v : Int, x ∈ compOut a b v ↔ v = x.v ∧ compF (look a) (look b) x.v = some x.t ∧ ownR x.v x.t = false := by
    intro v
    unfold compOut
    rw [comp_at]
    cases h : compF (look a) (look b) v with
    | none =>
      simp only [List.not_mem_nil, false_iff]
      rintro ⟨rfl, h2, _⟩; rw [h] at h2; cases h2
    | some t =>
      by_cases ho : ownR v t = true
      · simp only [ho, if_true, List.not_mem_nil, false_iff]
        rintro ⟨rfl, h2, h3⟩
        rw [h] at h2
        rw [Option.some.inj h2, h3] at ho; cases ho
      · simp only [ho, Bool.false_eq_true, if_false, List.mem_singleton]
        constructor
        · rintro rfl; exact ⟨rfl, h, by simpa using ho⟩
        · rintro ⟨rfl, h2, _⟩
          rw [h] at h2
          exact ((Bnd.eq_iff _ _).2 ⟨rfl, (Option.some.inj h2).symm⟩)
  constructor
  · rintro ⟨v, hv, h⟩
    have hv := List.mem_range.1 hv
    obtain ⟨e, h2⟩ := (key _).1 h
    exact ⟨by omega, by omega, h2⟩
  · rintro ⟨h0, h1, h2⟩
    exact ⟨x.v.toNat, List.mem_range.2 (by omega), (key _).2 ⟨by omega, h2⟩⟩
theorem comp_rise (a b : List Bnd) (k : Nat) : (compUp a b k).Pairwise fun x y => x.v < y.v := by
  induction k with
  | zero => exact List.Pairwise.nil
  | succ k ih =>
    rw [compUp_succ, List.pairwise_append]
    refine ⟨ih, ?_, ?_⟩
    · unfold compOut
      split
      · split
        · exact List.Pairwise.nil
        · exact List.pairwise_singleton _ _
      · exact List.Pairwise.nil
    · intro x hx y hy
      have h1 := (comp_mem.1 hx).2.1
      have h2 : y.v = (k : Int) := by
        unfold compOut at hy
        split at hy
        · split at hy
          · simp at hy
          · simp at hy; rw [hy]
        · simp at hy
      omega
theorem compL_same {a b L : List Bnd} (ha : rightS a = true) (hb : rightS b = true) (hB : cmB a b = true) (hC : CmS a b L) : compL a b = L := by
  unfold compL
  rw [compB_same ha hb, if_pos hB]
  have hrise := rightG_rise hC.rs
  have hright : ∀ n t, compF (look a) (look b) n = some t → rightB t = true := by
    intro n t h
    unfold compF at h
    cases hl : look a n with
    | none => rw [hl] at h; exact okF_look hb n t h
    | some u =>
      rw [hl] at h
      rw [← Option.some.inj h]
      have hx := look_some hl
      have h1 := List.all_eq_true.1 hB _ hx
      rw [lookL_eq (rightG_rise hb)] at h1
      exact put_right (okF_look hb) (rightG_mem ha _ hx).2.2.1 (outB_iff.1 h1)
  refine rise_ext (comp_rise _ _ _) hrise fun x => ?_
  rw [comp_mem]
  have hm : x ∈ L ↔ cleanF (compF (look a) (look b)) x.v = some x.t := by
    rw [← hC.k]
    exact (look_iff hrise (n := x.v) (t := x.t)).symm
  rw [hm]
  constructor
  · rintro ⟨_, _, h2, h3⟩
    unfold cleanF
    rw [h2]
    have : ownB ⟨x.v, x.t⟩ = false := by rw [← h3]; exact (ownR_own (hright _ _ h2)).symm
    simp [this]
  · intro h
    have hmem := hm.2 h
    have hr := rightG_mem hC.rs x hmem
    refine ⟨hr.1, by omega, ?_⟩
    unfold cleanF at h
    cases hc : compF (look a) (look b) x.v with
    | none => rw [hc] at h; cases h
    | some t =>
      rw [hc] at h
      by_cases ho : ownB ⟨x.v, t⟩ = true
      · simp [ho] at h
      · simp [ho] at h
        subst h
        exact ⟨rfl, by rw [ownR_own (hright _ _ hc)]; simpa using ho⟩
end Go.Proofs.Ytfcebbfphjbkoaa
namespace Go.Proofs.Ytfcebbfphjbkoaa
open Go.RowKit

set_option maxHeartbeats 8000000 in
set_option maxRecDepth 100000 in
theorem lawCompose_any (w : World) (xs ys : List Bnd) (ts : List Cel) (a : Option Addr) (cap : Nat) (a' : Option Addr) (cap' : Nat) (a'' : Option Addr) (cap'' : Nat) (hx : Row w a cap xs) (hy : Row w a' cap' ys) (ht : Row w a'' cap'' ts) :
    Calls Try.prog 5 #[.slice a xs.length cap, .slice a' ys.length cap', .slice a'' ts.length cap''] w fun e w' => e = .returned (.bool true) ∧ Below w.heap.size w w' := by
  cases hM : mayB xs ts with
  | false =>
    have HM := mkHid hM
    clear hM
    go_enter Try.func5, Try.ntmps5
    go_wp2_with (first
      | (go_at_call 16; refine (head2_any _).mono ?_; rintro e w1 ⟨rfl, hb1⟩)
      | (go_at_call 20; refine (may_lit (hx.below hb1) (ht.below hb1) HM.out).mono ?_; rintro e w2 ⟨rfl, hb2⟩))
    go_ret
    exact ⟨rfl, hb1.then hb2⟩
  | true =>
  have hS := may_spec hM
  have HM := mkHid hM
  cases hM2 : mayB ys ts with
  | false =>
    have HM2 := mkHid hM2
    clear hM hM2 hS
    go_enter Try.func5, Try.ntmps5
    go_wp2_with fail
    refine (head2_any _).mono ?_; rintro e w1 ⟨rfl, hb1⟩
    go_wp2_with fail
    refine (may_lit (hx.below hb1) (ht.below hb1) HM.out).mono ?_; rintro e w2 ⟨rfl, hb2⟩
    have hb02 := hb1.then hb2
    go_wp2_with fail
    refine (may_lit (hy.below hb02) (ht.below hb02) HM2.out).mono ?_; rintro e w3 ⟨rfl, hb3⟩
    go_wp2_with fail
    go_ret
    exact ⟨rfl, hb02.then hb3⟩
  | true =>
  have hS2 := may_spec hM2
  have HM2 := mkHid hM2
  have HS := mkHid hS
  have HS2 := mkHid hS2
  have hl := hS.l
  have hn := hS.n
  have hn2 := hS2.n
  clear hM hM2 hS hS2
  cases hB : cmB xs ys with
  | false =>
    have HB := mkHid hB
    clear hB
    go_enter Try.func5, Try.ntmps5
    go_wp2_with fail
    refine (head2_any _).mono ?_; rintro e w1 ⟨rfl, hb1⟩
    go_wp2_with fail
    refine (may_lit (hx.below hb1) (ht.below hb1) HM.out).mono ?_; rintro e w2 ⟨rfl, hb2⟩
    have hb02 := hb1.then hb2
    go_wp2_with fail
    refine (may_lit (hy.below hb02) (ht.below hb02) HM2.out).mono ?_; rintro e w3 ⟨rfl, hb3⟩
    have hb03 := hb02.then hb3
    go_wp2_with fail
    refine (compose_no rfl (hx.below hb03) rfl (hy.below hb03) HS.out.rs HS2.out.rs (by omega) (by omega) HB.out).mono ?_; rintro e w4 ⟨rfl, hb4⟩
    go_wp2_with fail
    go_ret
    exact ⟨rfl, hb03.then hb4⟩
  | true =>
    have HB := mkHid hB
    clear hB
    go_enter Try.func5, Try.ntmps5
    go_wp2_with fail
    refine (head2_any _).mono ?_; rintro e w1 ⟨rfl, hb1⟩
    go_wp2_with fail
    refine (may_lit (hx.below hb1) (ht.below hb1) HM.out).mono ?_; rintro e w2 ⟨rfl, hb2⟩
    have hb02 := hb1.then hb2
    go_wp2_with fail
    refine (may_lit (hy.below hb02) (ht.below hb02) HM2.out).mono ?_; rintro e w3 ⟨rfl, hb3⟩
    have hb03 := hb02.then hb3
    go_wp2_with fail
    refine (compose_yes rfl (hx.below hb03) rfl (hy.below hb03) HS.out.rs HS2.out.rs (by omega) (by omega) HB.out).mono ?_; rintro e w4 ⟨a4, cap4, L, rfl, r4, hC, hb4⟩
    have HC := mkHid hC
    have hnL := hC.n
    have hb04 := hb03.then hb4
    have hput := hC.put (right_cells HS.out.rt)
    have HR := mkHid hC.rs
    have hlen := Nat.le_trans (putL_le2 HS.out.T ts) (Nat.mul_le_mul_left 200 hl)
    cases hO : outB (look xs) ts with
    | false =>
      have HO := mkHid hO
      have HL : Hid (outB (look L) ts = false) := by
        rw [Hid, Bool.eq_false_iff, Ne, outB_iff, hput]
        have h1 := put_grows HS2.out.ok (putL (look xs) ts)
        have h2 : ¬ (putL (look xs) ts).length ≤ 200 := fun h => by rw [outB_iff.2 h] at hO; cases hO
        omega
      clear hO hput hC
      go_wp2_with fail
      refine (apply_no (hx.below hb04) (ht.below hb04) (by omega) (by omega) HS.out.e HO.out).mono ?_; rintro e w5 ⟨a5, cap5, rfl, r5, hb5⟩
      have hb05 := hb04.then hb5
      have r45 := r4.below hb5
      clear r5
      go_wp2_with fail
      have hb15 := hb05.new (.cells #[] 24)
      have r46 := r45.below ((Below.refl _ _).new (.cells #[] 24))
      refine (apply_no r46 (ht.below hb15) (by omega) (by omega) HC.out.e HL.out).mono ?_; rintro e w6 ⟨a6, cap6, rfl, r6, hb6⟩
      have hb06 := hb15.then hb6
      have r47 := r46.below hb6
      clear r6
      go_wp2_with fail
      refine (rights_lit rfl r47 HR.out).mono ?_; rintro e w7 ⟨rfl, hb7⟩
      go_wp2_with fail
      go_ret
      exact ⟨rfl, hb06.then hb7⟩
    | true =>
      have h200 := outB_iff.1 hO
      have HO := mkHid hO
      have HPP := mkHid hput
      clear hO
      cases hO2 : outB (look ys) (putL (look xs) ts) with
      | false =>
        have HO2 := mkHid hO2
        have HL : Hid (outB (look L) ts = false) := by
          rw [Hid, ← hO2]; unfold outB; rw [hput]
        clear hO2 hput hC
        go_wp2_with fail
        refine (apply_yes (hx.below hb04) (ht.below hb04) (by omega) (by omega) HS.out.e HO.out).mono ?_; rintro e w5 ⟨a5, cap5, rfl, r5, hb5⟩
        have hb05 := hb04.then hb5
        have r45 := r4.below hb5
        have r5' := r5.row
        clear r5
        go_wp2_with fail
        have hb15 := hb05.new (.cells #[] 24)
        have hbn : ∀ {z : World}, Below z.heap.size z (z.alloc (.cells #[] 24)) := fun {z} => (Below.refl _ _).new _
        have r46 := r45.below hbn
        have r5a := r5'.below hbn
        refine (apply_no (hy.below hb15) r5a (by omega) (by omega) HS2.out.e HO2.out).mono ?_; rintro e w6 ⟨a6, cap6, rfl, r6, hb6⟩
        have hb06 := hb15.then hb6
        have r47 := r46.below hb6
        clear r6
        go_wp2_with fail
        refine (apply_no r47 (ht.below hb06) (by omega) (by omega) HC.out.e HL.out).mono ?_; rintro e w7 ⟨a7, cap7, rfl, r7, hb7⟩
        have hb07 := hb06.then hb7
        have r48 := r47.below hb7
        clear r7
        go_wp2_with fail
        refine (rights_lit rfl r48 HR.out).mono ?_; rintro e w8 ⟨rfl, hb8⟩
        go_wp2_with fail
        go_ret
        exact ⟨rfl, hb07.then hb8⟩
      | true =>
        have HO2 := mkHid hO2
        have HL : Hid (outB (look L) ts = true) := by
          rw [Hid, ← hO2]; unfold outB; rw [hput]
        clear hO2 hput hC
        go_wp2_with fail
        refine (apply_yes (hx.below hb04) (ht.below hb04) (by omega) (by omega) HS.out.e HO.out).mono ?_; rintro e w5 ⟨a5, cap5, rfl, r5, hb5⟩
        have hb05 := hb04.then hb5
        have r45 := r4.below hb5
        have r5' := r5.row
        clear r5
        go_wp2_with fail
        have hb15 := hb05.new (.cells #[] 24)
        have hbn : ∀ {z : World}, Below z.heap.size z (z.alloc (.cells #[] 24)) := fun {z} => (Below.refl _ _).new _
        have r46 := r45.below hbn
        have r5a := r5'.below hbn
        refine (apply_yes (hy.below hb15) r5a (by omega) (by omega) HS2.out.e HO2.out).mono ?_; rintro e w6 ⟨a6, cap6, rfl, r6, hb6⟩
        have hb06 := hb15.then hb6
        have r47 := r46.below hb6
        have r6' := r6.row
        clear r6
        go_wp2_with fail
        refine (apply_yes r47 (ht.below hb06) (by omega) (by omega) HC.out.e HL.out).mono ?_; rintro e w7 ⟨a7, cap7, rfl, r7, hb7⟩
        have hb07 := hb06.then hb7
        have r48 := r47.below hb7
        have r67 := r6'.below hb7
        have r7' := r7.row
        clear r7
        go_wp2_with fail
        refine (rights_lit rfl r48 HR.out).mono ?_; rintro e w8 ⟨rfl, hb8⟩
        go_wp2_with fail
        refine (refsame1_lit rfl (r67.below hb8) rfl (r7'.below hb8) (b := true) (by rw [HPP.out]; simp)).mono ?_; rintro e w9 ⟨rfl, hb9⟩
        go_wp2_with fail
        go_ret
        exact ⟨rfl, (hb07.then hb8).then hb9⟩
end Go.Proofs.Ytfcebbfphjbkoaa
namespace Go.Proofs.Ytfcebbfphjbkoaa
open Go.RowKit

section lit
variable {w : World} {a a' : Option Addr} {cap cap' n m : Nat}
theorem few_lit {xs : List Bnd} {b : Bool} (hx : Row w a cap xs) (hb : fewB xs = b) :
    Calls Try.prog 17 #[.slice a xs.length cap] w fun e w' => e = .returned (.bool b) ∧ Below w.heap.size w w' := by
  subst hb; exact few_any a cap w xs hx
theorem right2_lit {xs : List Bnd} {b : Bool} (hx : Row w a cap xs) (hb : rightS xs = b) :
    Calls Try.prog 19 #[.slice a xs.length cap] w fun e w' => e = .returned (.bool b) ∧ Below w.heap.size w w' := by
  subst hb; exact refright2_any a cap w xs hx
theorem compose_nilr {xs : List Bnd} (hx : Row w a cap xs) (ha : rightS xs = true) (hl : xs.length ≤ 1000) :
    Calls Try.prog 23 #[.slice a xs.length cap, .slice none 0 0] w fun e w' => ∃ a2 cap2, e = .returned (.tuple #[.slice a2 xs.length cap2, .bool true]) ∧ Row w' a2 cap2 xs ∧ Below w.heap.size w w' :=
  (compose_yes (ys := []) rfl hx rfl (nilRow w) ha rfl hl (by simp) (cmB_nil ha)).mono fun e w' ⟨a2, cap2, L, he, hr, hC, hb⟩ => by
    have e2 := hC.nil_right ha
    subst e2
    exact ⟨a2, cap2, he, hr, hb⟩
theorem compose_nill {xs : List Bnd} (hx : Row w a cap xs) (ha : rightS xs = true) (hl : xs.length ≤ 1000) :
    Calls Try.prog 23 #[.slice none 0 0, .slice a xs.length cap] w fun e w' => ∃ a2 cap2, e = .returned (.tuple #[.slice a2 xs.length cap2, .bool true]) ∧ Row w' a2 cap2 xs ∧ Below w.heap.size w w' :=
  (compose_yes (xs := []) rfl (nilRow w) rfl hx rfl ha (by simp) hl rfl).mono fun e w' ⟨a2, cap2, L, he, hr, hC, hb⟩ => by
    have e2 := hC.nil_left ha
    subst e2
    exact ⟨a2, cap2, he, hr, hb⟩
end lit

set_option maxHeartbeats 16000000 in
set_option maxRecDepth 100000 in
theorem lawThree_any (w : World) (xs ys zs : List Bnd) (a : Option Addr) (cap : Nat) (a' : Option Addr) (cap' : Nat) (a'' : Option Addr) (cap'' : Nat) (hx : Row w a cap xs) (hy : Row w a' cap' ys) (hz : Row w a'' cap'' zs) :
    Calls Try.prog 6 #[.slice a xs.length cap, .slice a' ys.length cap', .slice a'' zs.length cap''] w fun e w' => e = .returned (.bool true) ∧ Below w.heap.size w w' := by
  cases h : fewB xs with
  | false =>
    have F0 := mkHid h
    clear h
    go_enter Try.func6, Try.ntmps6
    go_wp2_with fail
    refine (head2_any _).mono ?_; rintro e w0 ⟨rfl, hb⟩
    go_wp2_with fail
    refine (few_lit (hx.below hb) F0.out).mono ?_; rintro e w1 ⟨rfl, hb1⟩
    replace hb := hb.then hb1
    go_wp2_with fail
    go_ret
    exact ⟨rfl, hb⟩
  | true =>
  have F0 := mkHid h
  have l0 : xs.length ≤ 30 := by unfold fewB at h; simp only [Bool.and_eq_true, decide_eq_true_eq] at h; exact h.2
  clear h
  cases h : fewB ys with
  | false =>
    have F1 := mkHid h
    clear h
    go_enter Try.func6, Try.ntmps6
    go_wp2_with fail
    refine (head2_any _).mono ?_; rintro e w0 ⟨rfl, hb⟩
    go_wp2_with fail
    refine (few_lit (hx.below hb) F0.out).mono ?_; rintro e w1 ⟨rfl, hb1⟩
    replace hb := hb.then hb1
    go_wp2_with fail
    refine (few_lit (hy.below hb) F1.out).mono ?_; rintro e w2 ⟨rfl, hb2⟩
    replace hb := hb.then hb2
    go_wp2_with fail
    go_ret
    exact ⟨rfl, hb⟩
  | true =>
  have F1 := mkHid h
  have l1 : ys.length ≤ 30 := by unfold fewB at h; simp only [Bool.and_eq_true, decide_eq_true_eq] at h; exact h.2
  clear h
  cases h : fewB zs with
  | false =>
    have F2 := mkHid h
    clear h
    go_enter Try.func6, Try.ntmps6
    go_wp2_with fail
    refine (head2_any _).mono ?_; rintro e w0 ⟨rfl, hb⟩
    go_wp2_with fail
    refine (few_lit (hx.below hb) F0.out).mono ?_; rintro e w1 ⟨rfl, hb1⟩
    replace hb := hb.then hb1
    go_wp2_with fail
    refine (few_lit (hy.below hb) F1.out).mono ?_; rintro e w2 ⟨rfl, hb2⟩
    replace hb := hb.then hb2
    go_wp2_with fail
    refine (few_lit (hz.below hb) F2.out).mono ?_; rintro e w3 ⟨rfl, hb3⟩
    replace hb := hb.then hb3
    go_wp2_with fail
    go_ret
    exact ⟨rfl, hb⟩
  | true =>
  have F2 := mkHid h
  have l2 : zs.length ≤ 30 := by unfold fewB at h; simp only [Bool.and_eq_true, decide_eq_true_eq] at h; exact h.2
  clear h
  cases h : rightS xs with
  | false =>
    have R0 := mkHid h
    clear h
    go_enter Try.func6, Try.ntmps6
    go_wp2_with fail
    refine (head2_any _).mono ?_; rintro e w0 ⟨rfl, hb⟩
    go_wp2_with fail
    refine (few_lit (hx.below hb) F0.out).mono ?_; rintro e w1 ⟨rfl, hb1⟩
    replace hb := hb.then hb1
    go_wp2_with fail
    refine (few_lit (hy.below hb) F1.out).mono ?_; rintro e w2 ⟨rfl, hb2⟩
    replace hb := hb.then hb2
    go_wp2_with fail
    refine (few_lit (hz.below hb) F2.out).mono ?_; rintro e w3 ⟨rfl, hb3⟩
    replace hb := hb.then hb3
    go_wp2_with fail
    refine (right2_lit (hx.below hb) R0.out).mono ?_; rintro e w4 ⟨rfl, hb4⟩
    replace hb := hb.then hb4
    go_wp2_with fail
    go_ret
    exact ⟨rfl, hb⟩
  | true =>
  have R0 := mkHid h
  clear h
  cases h : rightS ys with
  | false =>
    have R1 := mkHid h
    clear h
    go_enter Try.func6, Try.ntmps6
    go_wp2_with fail
    refine (head2_any _).mono ?_; rintro e w0 ⟨rfl, hb⟩
    go_wp2_with fail
    refine (few_lit (hx.below hb) F0.out).mono ?_; rintro e w1 ⟨rfl, hb1⟩
    replace hb := hb.then hb1
    go_wp2_with fail
    refine (few_lit (hy.below hb) F1.out).mono ?_; rintro e w2 ⟨rfl, hb2⟩
    replace hb := hb.then hb2
    go_wp2_with fail
    refine (few_lit (hz.below hb) F2.out).mono ?_; rintro e w3 ⟨rfl, hb3⟩
    replace hb := hb.then hb3
    go_wp2_with fail
    refine (right2_lit (hx.below hb) R0.out).mono ?_; rintro e w4 ⟨rfl, hb4⟩
    replace hb := hb.then hb4
    go_wp2_with fail
    refine (right2_lit (hy.below hb) R1.out).mono ?_; rintro e w5 ⟨rfl, hb5⟩
    replace hb := hb.then hb5
    go_wp2_with fail
    go_ret
    exact ⟨rfl, hb⟩
  | true =>
  have R1 := mkHid h
  clear h
  cases h : rightS zs with
  | false =>
    have R2 := mkHid h
    clear h
    go_enter Try.func6, Try.ntmps6
    go_wp2_with fail
    refine (head2_any _).mono ?_; rintro e w0 ⟨rfl, hb⟩
    go_wp2_with fail
    refine (few_lit (hx.below hb) F0.out).mono ?_; rintro e w1 ⟨rfl, hb1⟩
    replace hb := hb.then hb1
    go_wp2_with fail
    refine (few_lit (hy.below hb) F1.out).mono ?_; rintro e w2 ⟨rfl, hb2⟩
    replace hb := hb.then hb2
    go_wp2_with fail
    refine (few_lit (hz.below hb) F2.out).mono ?_; rintro e w3 ⟨rfl, hb3⟩
    replace hb := hb.then hb3
    go_wp2_with fail
    refine (right2_lit (hx.below hb) R0.out).mono ?_; rintro e w4 ⟨rfl, hb4⟩
    replace hb := hb.then hb4
    go_wp2_with fail
    refine (right2_lit (hy.below hb) R1.out).mono ?_; rintro e w5 ⟨rfl, hb5⟩
    replace hb := hb.then hb5
    go_wp2_with fail
    refine (right2_lit (hz.below hb) R2.out).mono ?_; rintro e w6 ⟨rfl, hb6⟩
    replace hb := hb.then hb6
    go_wp2_with fail
    go_ret
    exact ⟨rfl, hb⟩
  | true =>
  have R2 := mkHid h
  clear h
  cases h : cmB xs ys with
  | false =>
    have B1 := mkHid h; clear h
    cases h : cmB ys zs with
    | false =>
      have B2 := mkHid h; clear h
      go_enter Try.func6, Try.ntmps6
      go_wp2_with fail
      refine (head2_any _).mono ?_; rintro e w0 ⟨rfl, hb⟩
      go_wp2_with fail
      refine (few_lit (hx.below hb) F0.out).mono ?_; rintro e w1 ⟨rfl, hb1⟩
      replace hb := hb.then hb1
      go_wp2_with fail
      refine (few_lit (hy.below hb) F1.out).mono ?_; rintro e w2 ⟨rfl, hb2⟩
      replace hb := hb.then hb2
      go_wp2_with fail
      refine (few_lit (hz.below hb) F2.out).mono ?_; rintro e w3 ⟨rfl, hb3⟩
      replace hb := hb.then hb3
      go_wp2_with fail
      refine (right2_lit (hx.below hb) R0.out).mono ?_; rintro e w4 ⟨rfl, hb4⟩
      replace hb := hb.then hb4
      go_wp2_with fail
      refine (right2_lit (hy.below hb) R1.out).mono ?_; rintro e w5 ⟨rfl, hb5⟩
      replace hb := hb.then hb5
      go_wp2_with fail
      refine (right2_lit (hz.below hb) R2.out).mono ?_; rintro e w6 ⟨rfl, hb6⟩
      replace hb := hb.then hb6
      go_wp2_with fail
      refine (compose_nilr (hx.below hb) R0.out (by omega)).mono ?_; rintro e v1 ⟨p1, c1, rfl, s1, hb7⟩
      replace hb := hb.then hb7
      go_wp2_with fail
      refine (compose_nill (hx.below hb) R0.out (by omega)).mono ?_; rintro e v2 ⟨p2, c2, rfl, s2, hb8⟩
      replace hb := hb.then hb8; replace s1 := s1.below hb8
      go_wp2_with fail
      refine (compose_no rfl (hx.below hb) rfl (hy.below hb) R0.out R1.out (by omega) (by omega) B1.out).mono ?_; rintro e v3 ⟨rfl, hb9⟩
      replace hb := hb.then hb9; replace s1 := s1.below hb9; replace s2 := s2.below hb9
      go_wp2_with fail
      refine (compose_no rfl (hy.below hb) rfl (hz.below hb) R1.out R2.out (by omega) (by omega) B2.out).mono ?_; rintro e v4 ⟨rfl, hb10⟩
      replace hb := hb.then hb10; replace s1 := s1.below hb10; replace s2 := s2.below hb10
      go_wp2_with fail
      refine (refsame2_lit rfl s1 rfl (hx.below hb) (b := true) (by simp)).mono ?_; rintro e v5 ⟨rfl, hb11⟩
      replace hb := hb.then hb11; replace s2 := s2.below hb11
      go_wp2_with fail
      refine (refsame2_lit rfl s2 rfl (hx.below hb) (b := true) (by simp)).mono ?_; rintro e v6 ⟨rfl, hb12⟩
      replace hb := hb.then hb12
      clear s1 s2
      go_wp2_with fail
      go_ret
      exact ⟨rfl, hb⟩
    | true =>
      have B2 := mkHid h; clear h
      go_enter Try.func6, Try.ntmps6
      go_wp2_with fail
      refine (head2_any _).mono ?_; rintro e w0 ⟨rfl, hb⟩
      go_wp2_with fail
      refine (few_lit (hx.below hb) F0.out).mono ?_; rintro e w1 ⟨rfl, hb1⟩
      replace hb := hb.then hb1
      go_wp2_with fail
      refine (few_lit (hy.below hb) F1.out).mono ?_; rintro e w2 ⟨rfl, hb2⟩
      replace hb := hb.then hb2
      go_wp2_with fail
      refine (few_lit (hz.below hb) F2.out).mono ?_; rintro e w3 ⟨rfl, hb3⟩
      replace hb := hb.then hb3
      go_wp2_with fail
      refine (right2_lit (hx.below hb) R0.out).mono ?_; rintro e w4 ⟨rfl, hb4⟩
      replace hb := hb.then hb4
      go_wp2_with fail
      refine (right2_lit (hy.below hb) R1.out).mono ?_; rintro e w5 ⟨rfl, hb5⟩
      replace hb := hb.then hb5
      go_wp2_with fail
      refine (right2_lit (hz.below hb) R2.out).mono ?_; rintro e w6 ⟨rfl, hb6⟩
      replace hb := hb.then hb6
      go_wp2_with fail
      refine (compose_nilr (hx.below hb) R0.out (by omega)).mono ?_; rintro e v1 ⟨p1, c1, rfl, s1, hb7⟩
      replace hb := hb.then hb7
      go_wp2_with fail
      refine (compose_nill (hx.below hb) R0.out (by omega)).mono ?_; rintro e v2 ⟨p2, c2, rfl, s2, hb8⟩
      replace hb := hb.then hb8; replace s1 := s1.below hb8
      go_wp2_with fail
      refine (compose_no rfl (hx.below hb) rfl (hy.below hb) R0.out R1.out (by omega) (by omega) B1.out).mono ?_; rintro e v3 ⟨rfl, hb9⟩
      replace hb := hb.then hb9; replace s1 := s1.below hb9; replace s2 := s2.below hb9
      go_wp2_with fail
      refine (compose_yes rfl (hy.below hb) rfl (hz.below hb) R1.out R2.out (by omega) (by omega) B2.out).mono ?_; rintro e v4 ⟨p4, c4, L2, rfl, s4, hC2, hb10⟩; have nL2 := hC2.n; have HC2 := mkHid hC2; clear hC2
      replace hb := hb.then hb10; replace s1 := s1.below hb10; replace s2 := s2.below hb10
      go_wp2_with fail
      refine (refsame2_lit rfl s1 rfl (hx.below hb) (b := true) (by simp)).mono ?_; rintro e v5 ⟨rfl, hb11⟩
      replace hb := hb.then hb11; replace s2 := s2.below hb11
      replace s4 := s4.below hb11
      go_wp2_with fail
      refine (refsame2_lit rfl s2 rfl (hx.below hb) (b := true) (by simp)).mono ?_; rintro e v6 ⟨rfl, hb12⟩
      replace hb := hb.then hb12
      replace s4 := s4.below hb12
      clear s1 s2
      go_wp2_with fail
      go_ret
      exact ⟨rfl, hb⟩
  | true =>
    have B1 := mkHid h; clear h
    cases h : cmB ys zs with
    | false =>
      have B2 := mkHid h; clear h
      go_enter Try.func6, Try.ntmps6
      go_wp2_with fail
      refine (head2_any _).mono ?_; rintro e w0 ⟨rfl, hb⟩
      go_wp2_with fail
      refine (few_lit (hx.below hb) F0.out).mono ?_; rintro e w1 ⟨rfl, hb1⟩
      replace hb := hb.then hb1
      go_wp2_with fail
      refine (few_lit (hy.below hb) F1.out).mono ?_; rintro e w2 ⟨rfl, hb2⟩
      replace hb := hb.then hb2
      go_wp2_with fail
      refine (few_lit (hz.below hb) F2.out).mono ?_; rintro e w3 ⟨rfl, hb3⟩
      replace hb := hb.then hb3
      go_wp2_with fail
      refine (right2_lit (hx.below hb) R0.out).mono ?_; rintro e w4 ⟨rfl, hb4⟩
      replace hb := hb.then hb4
      go_wp2_with fail
      refine (right2_lit (hy.below hb) R1.out).mono ?_; rintro e w5 ⟨rfl, hb5⟩
      replace hb := hb.then hb5
      go_wp2_with fail
      refine (right2_lit (hz.below hb) R2.out).mono ?_; rintro e w6 ⟨rfl, hb6⟩
      replace hb := hb.then hb6
      go_wp2_with fail
      refine (compose_nilr (hx.below hb) R0.out (by omega)).mono ?_; rintro e v1 ⟨p1, c1, rfl, s1, hb7⟩
      replace hb := hb.then hb7
      go_wp2_with fail
      refine (compose_nill (hx.below hb) R0.out (by omega)).mono ?_; rintro e v2 ⟨p2, c2, rfl, s2, hb8⟩
      replace hb := hb.then hb8; replace s1 := s1.below hb8
      go_wp2_with fail
      refine (compose_yes rfl (hx.below hb) rfl (hy.below hb) R0.out R1.out (by omega) (by omega) B1.out).mono ?_; rintro e v3 ⟨p3, c3, L1, rfl, s3, hC1, hb9⟩; have nL1 := hC1.n; have HC1 := mkHid hC1; clear hC1
      replace hb := hb.then hb9; replace s1 := s1.below hb9; replace s2 := s2.below hb9
      go_wp2_with fail
      refine (compose_no rfl (hy.below hb) rfl (hz.below hb) R1.out R2.out (by omega) (by omega) B2.out).mono ?_; rintro e v4 ⟨rfl, hb10⟩
      replace hb := hb.then hb10; replace s1 := s1.below hb10; replace s2 := s2.below hb10
      replace s3 := s3.below hb10
      go_wp2_with fail
      refine (refsame2_lit rfl s1 rfl (hx.below hb) (b := true) (by simp)).mono ?_; rintro e v5 ⟨rfl, hb11⟩
      replace hb := hb.then hb11; replace s2 := s2.below hb11
      replace s3 := s3.below hb11
      go_wp2_with fail
      refine (refsame2_lit rfl s2 rfl (hx.below hb) (b := true) (by simp)).mono ?_; rintro e v6 ⟨rfl, hb12⟩
      replace hb := hb.then hb12
      replace s3 := s3.below hb12
      clear s1 s2
      go_wp2_with fail
      go_ret
      exact ⟨rfl, hb⟩
    | true =>
      have B2 := mkHid h; clear h
      go_enter Try.func6, Try.ntmps6
      go_wp2_with fail
      refine (head2_any _).mono ?_; rintro e w0 ⟨rfl, hb⟩
      go_wp2_with fail
      refine (few_lit (hx.below hb) F0.out).mono ?_; rintro e w1 ⟨rfl, hb1⟩
      replace hb := hb.then hb1
      go_wp2_with fail
      refine (few_lit (hy.below hb) F1.out).mono ?_; rintro e w2 ⟨rfl, hb2⟩
      replace hb := hb.then hb2
      go_wp2_with fail
      refine (few_lit (hz.below hb) F2.out).mono ?_; rintro e w3 ⟨rfl, hb3⟩
      replace hb := hb.then hb3
      go_wp2_with fail
      refine (right2_lit (hx.below hb) R0.out).mono ?_; rintro e w4 ⟨rfl, hb4⟩
      replace hb := hb.then hb4
      go_wp2_with fail
      refine (right2_lit (hy.below hb) R1.out).mono ?_; rintro e w5 ⟨rfl, hb5⟩
      replace hb := hb.then hb5
      go_wp2_with fail
      refine (right2_lit (hz.below hb) R2.out).mono ?_; rintro e w6 ⟨rfl, hb6⟩
      replace hb := hb.then hb6
      go_wp2_with fail
      refine (compose_nilr (hx.below hb) R0.out (by omega)).mono ?_; rintro e v1 ⟨p1, c1, rfl, s1, hb7⟩
      replace hb := hb.then hb7
      go_wp2_with fail
      refine (compose_nill (hx.below hb) R0.out (by omega)).mono ?_; rintro e v2 ⟨p2, c2, rfl, s2, hb8⟩
      replace hb := hb.then hb8; replace s1 := s1.below hb8
      go_wp2_with fail
      refine (compose_yes rfl (hx.below hb) rfl (hy.below hb) R0.out R1.out (by omega) (by omega) B1.out).mono ?_; rintro e v3 ⟨p3, c3, L1, rfl, s3, hC1, hb9⟩; have nL1 := hC1.n; have HC1 := mkHid hC1; clear hC1
      replace hb := hb.then hb9; replace s1 := s1.below hb9; replace s2 := s2.below hb9
      go_wp2_with fail
      refine (compose_yes rfl (hy.below hb) rfl (hz.below hb) R1.out R2.out (by omega) (by omega) B2.out).mono ?_; rintro e v4 ⟨p4, c4, L2, rfl, s4, hC2, hb10⟩; have nL2 := hC2.n; have HC2 := mkHid hC2; clear hC2
      replace hb := hb.then hb10; replace s1 := s1.below hb10; replace s2 := s2.below hb10
      replace s3 := s3.below hb10
      go_wp2_with fail
      refine (refsame2_lit rfl s1 rfl (hx.below hb) (b := true) (by simp)).mono ?_; rintro e v5 ⟨rfl, hb11⟩
      replace hb := hb.then hb11; replace s2 := s2.below hb11
      replace s3 := s3.below hb11
      replace s4 := s4.below hb11
      go_wp2_with fail
      refine (refsame2_lit rfl s2 rfl (hx.below hb) (b := true) (by simp)).mono ?_; rintro e v6 ⟨rfl, hb12⟩
      replace hb := hb.then hb12
      replace s3 := s3.below hb12
      replace s4 := s4.below hb12
      clear s1 s2
      have q1 := HC1.out.rs; have q2 := HC2.out.rs; have Q1 := mkHid q1; have Q2 := mkHid q2; clear q1 q2
      go_wp2_with fail
      cases h : cmB L1 zs with
      | false =>
        have D := mkHid h; clear h
        cases h : cmB xs L2 with
        | false =>
          have E := mkHid h; clear h
          refine (compose_no rfl s3 rfl (hz.below hb) Q1.out R2.out (by omega) (by omega) D.out).mono ?_; rintro e v7 ⟨rfl, hb13⟩
          replace hb := hb.then hb13; replace s4 := s4.below hb13
          go_wp2_with fail
          refine (compose_no rfl (hx.below hb) rfl s4 R0.out Q2.out (by omega) (by omega) E.out).mono ?_; rintro e v8 ⟨rfl, hb14⟩
          replace hb := hb.then hb14
          go_wp2_with fail
          go_ret
          exact ⟨rfl, hb⟩
        | true =>
          have E := mkHid h; clear h
          refine (compose_no rfl s3 rfl (hz.below hb) Q1.out R2.out (by omega) (by omega) D.out).mono ?_; rintro e v7 ⟨rfl, hb13⟩
          replace hb := hb.then hb13; replace s4 := s4.below hb13
          go_wp2_with fail
          refine (compose_yes rfl (hx.below hb) rfl s4 R0.out Q2.out (by omega) (by omega) E.out).mono ?_; rintro e v8 ⟨p8, c8, L4, rfl, s8, hC4, hb14⟩; have HC4 := mkHid hC4; clear hC4
          replace hb := hb.then hb14
          go_wp2_with fail
          go_ret
          exact ⟨rfl, hb⟩
      | true =>
        have D := mkHid h; clear h
        cases h : cmB xs L2 with
        | false =>
          have E := mkHid h; clear h
          refine (compose_yes rfl s3 rfl (hz.below hb) Q1.out R2.out (by omega) (by omega) D.out).mono ?_; rintro e v7 ⟨p7, c7, L3, rfl, s7, hC3, hb13⟩; have HC3 := mkHid hC3; clear hC3
          replace hb := hb.then hb13; replace s4 := s4.below hb13
          go_wp2_with fail
          refine (compose_no rfl (hx.below hb) rfl s4 R0.out Q2.out (by omega) (by omega) E.out).mono ?_; rintro e v8 ⟨rfl, hb14⟩
          replace hb := hb.then hb14
          replace s7 := s7.below hb14
          go_wp2_with fail
          go_ret
          exact ⟨rfl, hb⟩
        | true =>
          have E := mkHid h; clear h
          refine (compose_yes rfl s3 rfl (hz.below hb) Q1.out R2.out (by omega) (by omega) D.out).mono ?_; rintro e v7 ⟨p7, c7, L3, rfl, s7, hC3, hb13⟩; have HC3 := mkHid hC3; clear hC3
          replace hb := hb.then hb13; replace s4 := s4.below hb13
          go_wp2_with fail
          refine (compose_yes rfl (hx.below hb) rfl s4 R0.out Q2.out (by omega) (by omega) E.out).mono ?_; rintro e v8 ⟨p8, c8, L4, rfl, s8, hC4, hb14⟩; have HC4 := mkHid hC4; clear hC4
          replace hb := hb.then hb14
          replace s7 := s7.below hb14
          go_wp2_with fail
          have HE : Hid (L3 = L4) := HC3.out.ext HC4.out (by rw [HC1.out.k, HC2.out.k]; exact comp_assoc (okF_look R0.out))
          refine (refsame2_lit rfl s7 rfl s8 (b := true) (by rw [HE.out]; simp)).mono ?_; rintro e v9 ⟨rfl, hb15⟩
          replace hb := hb.then hb15
          go_wp2_with fail
          go_ret
          exact ⟨rfl, hb⟩
end Go.Proofs.Ytfcebbfphjbkoaa
namespace Go.Proofs.Ytfcebbfphjbkoaa
open Go.RowKit

/-! ### the mathematics of what is kept -/
theorem look_kept (s : List Bnd) (V : List Int) (n : Int) : look (keptL s V) n = if n ∈ V then look s n else none := by
  induction s with
  | nil => simp [keptL, look_nil]
  | cons b s ih =>
    by_cases hb : b.v ∈ V
    · have e : keptL (b :: s) V = b :: keptL s V := by unfold keptL; simp [hb]
      rw [e, look_cons, look_cons, ih]
      by_cases h : b.v = n
      · subst h; simp [hb]
      · simp [h]
    · have e : keptL (b :: s) V = keptL s V := by unfold keptL; simp [hb]
      rw [e, look_cons, ih]
      by_cases h : b.v = n
      · subst h; simp [hb]
      · simp [h]
theorem kept_right {s : List Bnd} (hs : rightS s = true) (V : List Int) : rightS (keptL s V) = true :=
  rightG_of (fun b hb => rightG_mem hs b (List.mem_filter.1 hb).1) ((rightG_rise hs).filter _)
theorem kept_le (s : List Bnd) (V : List Int) : (keptL s V).length ≤ s.length := List.length_filter_le _ _
theorem put_ext {f g : Int → Option (List Cel)} {t : List Cel} (h : ∀ c ∈ t, c.k = 1 → f c.n = g c.n) : putL f t = putL g t := by
  induction t with
  | nil => rfl
  | cons c t ih =>
    rw [putL_cons, putL_cons, ih fun d hd => h d (by simp [hd])]
    congr 1
    unfold putC
    by_cases h1 : c.k = 1
    · rw [if_pos h1, if_pos h1, h c (by simp) h1]
    · rw [if_neg h1, if_neg h1]
/-- kept by a term's variables -/
theorem put_kept (s : List Bnd) (t : List Cel) : putL (look (keptL s (varsL t))) t = putL (look s) t :=
  put_ext fun c hc h1 => by rw [look_kept, if_pos (mem_varsL hc h1)]
/-- the variables that a term has not -/
def othersL (s : List Bnd) (V : List Int) : List Int := (s.filter fun b => !decide (b.v ∈ V)).map Bnd.v
theorem mem_others {s : List Bnd} {V : List Int} {n : Int} : n ∈ othersL s V ↔ n ∉ V ∧ ∃ b ∈ s, b.v = n := by
  unfold othersL
  simp only [List.mem_map, List.mem_filter, Bool.not_eq_true', decide_eq_false_iff_not]
  constructor
  · rintro ⟨b, ⟨h1, h2⟩, rfl⟩; exact ⟨h2, b, h1, rfl⟩
  · rintro ⟨h1, b, h2, rfl⟩; exact ⟨b, ⟨h2, h1⟩, rfl⟩
theorem put_others (s : List Bnd) (t : List Cel) : putL (look (keptL s (othersL s (varsL t)))) t = t := by
  rw [put_ext (g := look []) (fun c hc h1 => by
    rw [look_kept, if_neg (fun h => (mem_others.1 h).1 (mem_varsL hc h1))]; rfl), put_none]
theorem kept_others {s : List Bnd} (V : List Int) : keptL s (othersL s V) = s.filter fun b => !decide (b.v ∈ V) := by
  unfold keptL
  refine List.filter_congr fun b hb => ?_
  rw [Bool.eq_iff_iff]
  simp only [decide_eq_true_eq, Bool.not_eq_true', decide_eq_false_iff_not, mem_others]
  exact ⟨fun h => h.1, fun h => ⟨h, b, hb, rfl⟩⟩
theorem kept_sum (s : List Bnd) (V : List Int) : (keptL s V).length + (keptL s (othersL s V)).length = s.length := by
  rw [kept_others]
  unfold keptL
  induction s with
  | nil => rfl
  | cons b s ih =>
    by_cases h : b.v ∈ V
    · simp only [List.filter_cons, h, decide_true, if_true, Bool.not_true, Bool.false_eq_true, if_false, List.length_cons]; omega
    · simp only [List.filter_cons, h, decide_false, Bool.false_eq_true, if_false, Bool.not_false, if_true, List.length_cons]; omega
theorem kept_twice (s : List Bnd) (V : List Int) : keptL (keptL s V) V = keptL s V := by
  unfold keptL; rw [List.filter_filter]; simp
theorem kept_none (s : List Bnd) : keptL s [] = [] := by
  unfold keptL; simp
theorem others_take {s : List Bnd} {V : List Int} {k : Nat} (hk : k < s.length) : othersL (s.take (k + 1)) V = othersL (s.take k) V ++ (if s[k].v ∈ V then [] else [s[k].v]) := by
  unfold othersL
  rw [List.take_succ_eq_append_getElem hk, List.filter_append, List.map_append]
  congr 1
  by_cases h : s[k].v ∈ V <;> simp [h]
end Go.Proofs.Ytfcebbfphjbkoaa
namespace Go.Proofs.Ytfcebbfphjbkoaa
open Go.RowKit

section lit
variable {w : World} {a a' : Option Addr} {cap cap' n m : Nat}
/-- kept, of a right row -/
theorem keep_yes2 {xs K : List Bnd} {V : List Int} (hx : Row w a cap xs) (hV : Row w a' cap' V) (hl : xs.length ≤ 1000) (hT : ∀ b ∈ xs, b.t.length ≤ 200) (hK : keptL xs V = K) :
    Calls Try.prog 27 #[.slice a xs.length cap, .slice a' V.length cap'] w fun e w' => ∃ a2 cap2, e = .returned (.slice a2 K.length cap2) ∧ Row w' a2 cap2 K ∧ Below w.heap.size w w' :=
  keep_lit rfl hx rfl hV (by omega) (fun b hb => by have := hT b hb; omega) hK rfl
theorem keep_nil {xs : List Bnd} (hx : Row w a cap xs) (hl : xs.length ≤ 1000) (hT : ∀ b ∈ xs, b.t.length ≤ 200) :
    Calls Try.prog 27 #[.slice a xs.length cap, .slice none 0 0] w fun e w' => ∃ a2 cap2, e = .returned (.slice a2 0 cap2) ∧ Below w.heap.size w w' :=
  (keep_yes2 (V := []) hx (nilRow w) hl hT (kept_none xs)).mono fun _ _ ⟨a2, cap2, he, _, hb⟩ => ⟨a2, cap2, he, hb⟩
end lit
theorem others_le (s : List Bnd) (V : List Int) : (othersL s V).length ≤ s.length := by
  unfold othersL; rw [List.length_map]; exact List.length_filter_le _ _
/-- what is kept, and what was asked of it -/
structure KeptS (xs K : List Bnd) : Prop where
  rs : rightS K = true
  n : K.length ≤ xs.length
  T : ∀ b ∈ K, b.t.length ≤ 200
  e : lookL K = look K
theorem kept_spec {xs : List Bnd} (hs : rightS xs = true) (V : List Int) : KeptS xs (keptL xs V) :=
  ⟨kept_right hs V, kept_le xs V, rightS_T (kept_right hs V), lookL_eq (rightG_rise (kept_right hs V))⟩

set_option maxHeartbeats 16000000 in
set_option maxRecDepth 100000 in
theorem lawKeep_any (w : World) (xs : List Bnd) (ts : List Cel) (a : Option Addr) (cap : Nat) (a' : Option Addr) (cap' : Nat) (hx : Row w a cap xs) (ht : Row w a' cap' ts) :
    Calls Try.prog 8 #[.slice a xs.length cap, .slice a' ts.length cap'] w fun e w' => e = .returned (.bool true) ∧ Below w.heap.size w w' := by
  cases hM : mayB xs ts with
  | false =>
    have HM := mkHid hM
    clear hM
    go_enter Try.func8, Try.ntmps8
    go_wp2_with fail
    refine (head2_any _).mono ?_; rintro e w1 ⟨rfl, hb⟩
    go_wp2_with fail
    refine (may_lit (hx.below hb) (ht.below hb) HM.out).mono ?_; rintro e w2 ⟨rfl, hb2⟩
    go_wp2_with fail
    go_ret
    exact ⟨rfl, hb.then hb2⟩
  | true =>
  have hS := may_spec hM
  have HM := mkHid hM
  have HS := mkHid hS
  have hl := hS.l
  have hn := hS.n
  clear hM hS
  have hm := hx.max
  have hm2 := hx.le
  have HT : Hid (∀ b ∈ xs, b.t.length ≤ 1000) := by rw [Hid]; intro b hb; have := HS.out.T b hb; omega
  go_enter Try.func8, Try.ntmps8
  go_wp2_with fail
  refine (head2_any _).mono ?_; rintro e w1 ⟨rfl, hb⟩
  go_wp2_with fail
  refine (may_lit (hx.below hb) (ht.below hb) HM.out).mono ?_; rintro e w2 ⟨rfl, hb2⟩
  replace hb := hb.then hb2
  go_wp2_with fail
  refine (refvars_any a' cap' _ ts (ht.below hb) (by omega)).mono ?_; rintro e w3 ⟨av, capv, rfl, hrv, hb3⟩
  replace hb := hb.then hb3
  have hx3 := hx.below hb
  have hvl : (varsL ts).length ≤ 200 := by have := varsGo_length ts []; simp only [List.length_nil, Nat.zero_add] at this; unfold varsL; omega
  have HK := mkHid (kept_spec HS.out.rs (varsL ts))
  have HO := mkHid (kept_spec HS.out.rs (othersL xs (varsL ts)))
  have HKP := mkHid (put_kept xs ts)
  have HOP := mkHid (put_others xs ts)
  have HSum := mkHid (kept_sum xs (varsL ts))
  have HTw := mkHid (kept_twice xs (varsL ts))
  have HTake : Hid (∀ k (hk : k < xs.length), othersL (xs.take (k + 1)) (varsL ts) = othersL (xs.take k) (varsL ts) ++ (if xs[k].v ∈ varsL ts then [] else [xs[k].v])) := fun k hk => others_take hk
  have hol := others_le xs (varsL ts)
  generalize varsL ts = V at *
  have hm0 := AccInv.made (α := Int) (B := w3.heap.size) (e := 3) w3 (Nat.le_refl _) rfl
  have hb0 := (Below.refl w3.heap.size w3).new (.cells #[] 3)
  go_wp2_with fail
  go_loopw [7, 8] (fun v i wr => ∃ k : Nat, k ≤ xs.length ∧ i = .int .i64 k ∧ AccInv w3.heap.size 3 (othersL (xs.take k) V) v wr ∧ Below w3.heap.size w3 wr) (fun v i wr => xs.length - (intOf i).toNat)
  case atStart => exact ⟨0, Nat.zero_le _, rfl, by simpa [othersL] using hm0, hb0⟩
  case round =>
    clear hm0 hb0
    obtain ⟨k, hk, rfl, hacc, hbl⟩ := hrel
    by_cases hlt : k < xs.length
    · obtain ⟨b, off, rfl, hb', hat⟩ := hx3.cases.resolve_left (fun e => by simp [e] at hlt)
      obtain ⟨a1, cap1, z0, z1, hr0, hv1, hv2⟩ := bnd_at hat (Below.refl _ _) hlt
      have c0 := keep z0 hbl
      have Z0 := mkHid z0
      have hle : (othersL (xs.take k) V).length ≤ k := by have := others_le (xs.take k) V; simp at this; omega
      clear z0 z1 hr0
      by_cases hin : xs[k].v ∈ V
      · have HD := mkHid (decide_eq_true hin)
        have HS2 : Hid (othersL (xs.take (k + 1)) V = othersL (xs.take k) V) := by rw [Hid, HTake.out k hlt, if_pos hin]; simp
        clear hin
        go_wp2_with (go_at_call 33; refine (in2_any _ _ _ _ V (hrv.below hbl)).mono ?_; rintro e w5 ⟨rfl, hb5⟩; rw [HD.out]; have hbl2 := hbl.then hb5; have hacc2 := hacc.below hb5)
        go_round
        case rel => exact ⟨k + 1, by omega, by go_num, hacc2.lit HS2.out.symm, hbl2⟩
        case measure => simp [intOf]; omega
      · have HD := mkHid (decide_eq_false hin)
        have HS2 : Hid (othersL (xs.take (k + 1)) V = othersL (xs.take k) V ++ [xs[k].v]) := by rw [Hid, HTake.out k hlt, if_neg hin]
        clear hin
        go_wp2_with (first
          | (go_at_call 33; refine (in2_any _ _ _ _ V (hrv.below hbl)).mono ?_; rintro e w5 ⟨rfl, hb5⟩; rw [HD.out]; have hbl2 := hbl.then hb5; have hacc2 := hacc.below hb5; have d0 := keep Z0.out hbl2; clear c0)
          | (at_builtin; refine wpList_acc (α := Int) rfl _ _ 29 rfl w3.heap.size 3 8 _ Try.underlying29 Try.infoInt rfl (by decide) _ (othersL (xs.take k) V) hacc2 (by rfl) _ #[.int .i64 xs[k].v] xs[k].v ⟨rfl, hv1, hv2⟩ (by rfl) (by omega) hbl2.size ?_; intro v' w6 hacc3 hb6))
        go_round
        case rel => exact ⟨k + 1, by omega, by go_num, hacc3.lit HS2.out.symm, hbl2.trans hb6⟩
        case measure => simp [intOf]; omega
    · have HL : Hid (xs.take k = xs) := List.take_of_length_le (by omega)
      obtain ⟨ao, capo, rfl, hro⟩ := hacc.row
      rw [HL.out] at hro ⊢
      clear hacc
      have hx4 := hx3.below hbl
      replace hb := hb.then hbl
      have ht4 := ht.below hb
      have hrv4 := hrv.below hbl
      clear hx3 hbl hrv
      generalize othersL xs V = OV at *
      obtain ⟨K, HKe⟩ : ∃ K, Hid (keptL xs V = K) := ⟨_, rfl⟩
      obtain ⟨O, HOe⟩ : ∃ O, Hid (keptL xs OV = O) := ⟨_, rfl⟩
      rw [HKe.out] at HK HKP HSum HTw
      rw [HOe.out] at HO HOP HSum
      have hKn := HK.out.n
      have hOn := HO.out.n
      have hKm : K.length ≤ 30 := by omega
      have hOm : O.length ≤ 30 := by omega
      have hsum : ((K.length : Int) + (O.length : Int) == (xs.length : Int)) = true := by have := HSum.out; simp; omega
      clear hKn hOn
      go_wp2_with fail
      refine (keep_yes2 hx4 hrv4 (by omega) HS.out.T HKe.out).mono ?_; rintro e w5 ⟨aK, capK, rfl, rK, hb5⟩
      replace hb := hb.then hb5
      replace hx4 := hx4.below hb5
      replace ht4 := ht4.below hb5
      replace hrv4 := hrv4.below hb5
      replace hro := hro.below hb5
      go_wp2_with fail
      with_reducible refine (keep_yes2 hx4 hro (by omega) HS.out.T HOe.out).mono ?_
      rintro e w6 ⟨aO, capO, rfl, rO, hb6⟩
      replace hb := hb.then hb6
      replace hx4 := hx4.below hb6
      replace ht4 := ht4.below hb6
      replace hrv4 := hrv4.below hb6
      replace rK := rK.below hb6
      clear hro
      cases hB : outB (look xs) ts with
      | false =>
        have HB := mkHid hB
        have HB2 : Hid (outB (look K) ts = false) := by rw [Hid, ← hB]; unfold outB; rw [HKP.out]
        have HB3 : Hid (outB (look O) ts = true) := by rw [Hid, outB_iff, HOP.out]; exact hl
        clear hB
        go_wp2_with fail
        refine (apply_no hx4 ht4 (by omega) (by omega) HS.out.e HB.out).mono ?_; rintro e w7 ⟨a7, cap7, rfl, r7, hb7⟩
        replace hb := hb.then hb7
        replace hx4 := hx4.below hb7
        replace ht4 := ht4.below hb7
        replace hrv4 := hrv4.below hb7
        replace rK := rK.below hb7
        replace rO := rO.below hb7
        replace r7 := r7.row
        go_wp2_with fail
        with_reducible refine (apply_no rK ht4 (by omega) (by omega) HK.out.e HB2.out).mono ?_
        rintro e w8 ⟨a8, cap8, rfl, r8, hb8⟩
        replace hb := hb.then hb8
        replace hx4 := hx4.below hb8
        replace ht4 := ht4.below hb8
        replace hrv4 := hrv4.below hb8
        replace rK := rK.below hb8
        replace rO := rO.below hb8
        replace r7 := r7.below hb8
        replace r8 := r8.row
        go_wp2_with fail
        with_reducible refine (apply_yes rO ht4 (by omega) (by omega) HO.out.e HB3.out).mono ?_
        rintro e w9 ⟨a9, cap9, rfl, r9, hb9⟩
        rw [HOP.out] at r9 ⊢
        replace hb := hb.then hb9
        replace hx4 := hx4.below hb9
        replace ht4 := ht4.below hb9
        replace hrv4 := hrv4.below hb9
        replace rK := rK.below hb9
        replace rO := rO.below hb9
        replace r7 := r7.below hb9
        replace r8 := r8.below hb9
        replace r9 := r9.row
        go_wp2_with fail
        refine (rights_lit rfl rK HK.out.rs).mono ?_; rintro e w10 ⟨rfl, hb10⟩
        replace hb := hb.then hb10
        replace hx4 := hx4.below hb10
        replace ht4 := ht4.below hb10
        replace hrv4 := hrv4.below hb10
        replace rK := rK.below hb10
        replace rO := rO.below hb10
        replace r7 := r7.below hb10
        replace r8 := r8.below hb10
        replace r9 := r9.below hb10
        go_wp2_with fail
        with_reducible refine (rights_lit rfl rO HO.out.rs).mono ?_
        rintro e w11 ⟨rfl, hb11⟩
        replace hb := hb.then hb11
        replace hx4 := hx4.below hb11
        replace ht4 := ht4.below hb11
        replace hrv4 := hrv4.below hb11
        replace rK := rK.below hb11
        clear rO
        replace r7 := r7.below hb11
        replace r8 := r8.below hb11
        replace r9 := r9.below hb11
        go_wp2_with fail
        refine (refsame1_lit (xs := []) (ys := []) rfl r7 rfl r8 (b := true) (by simp)).mono ?_; rintro e w12 ⟨rfl, hb12⟩
        replace hb := hb.then hb12
        replace hx4 := hx4.below hb12
        replace ht4 := ht4.below hb12
        replace hrv4 := hrv4.below hb12
        replace rK := rK.below hb12
        replace r9 := r9.below hb12
        clear r7 r8
        go_wp2_with fail
        with_reducible refine (refsame1_lit rfl r9 rfl ht4 (b := true) (by simp)).mono ?_
        rintro e w13 ⟨rfl, hb13⟩
        replace hb := hb.then hb13
        replace hx4 := hx4.below hb13
        replace hrv4 := hrv4.below hb13
        replace rK := rK.below hb13
        clear r9 ht4
        go_wp2_with fail
        with_reducible refine (keep_yes2 rK hrv4 (by omega) HK.out.T HTw.out).mono ?_
        rintro e w14 ⟨aK2, capK2, rfl, rK2, hb14⟩
        replace hb := hb.then hb14
        replace hx4 := hx4.below hb14
        replace rK := rK.below hb14
        go_wp2_with fail
        refine (refsame2_lit rfl rK2 rfl rK (b := true) (by simp)).mono ?_; rintro e w15 ⟨rfl, hb15⟩
        replace hb := hb.then hb15
        replace hx4 := hx4.below hb15
        clear rK rK2
        go_wp2_with fail
        with_reducible refine (keep_nil hx4 (by omega) HS.out.T).mono ?_
        rintro e w16 ⟨aN, capN, rfl, hb16⟩
        go_wp2_with fail
        go_ret
        exact ⟨rfl, hb.then hb16⟩
      | true =>
        have h200 := outB_iff.1 hB
        have HB := mkHid hB
        have HB2 : Hid (outB (look K) ts = true) := by rw [Hid, ← hB]; unfold outB; rw [HKP.out]
        have HB3 : Hid (outB (look O) ts = true) := by rw [Hid, outB_iff, HOP.out]; exact hl
        clear hB
        go_wp2_with fail
        refine (apply_yes hx4 ht4 (by omega) (by omega) HS.out.e HB.out).mono ?_; rintro e w7 ⟨a7, cap7, rfl, r7, hb7⟩
        replace hb := hb.then hb7
        replace hx4 := hx4.below hb7
        replace ht4 := ht4.below hb7
        replace hrv4 := hrv4.below hb7
        replace rK := rK.below hb7
        replace rO := rO.below hb7
        replace r7 := r7.row
        go_wp2_with fail
        with_reducible refine (apply_yes rK ht4 (by omega) (by omega) HK.out.e HB2.out).mono ?_
        rintro e w8 ⟨a8, cap8, rfl, r8, hb8⟩
        rw [HKP.out] at r8 ⊢
        replace hb := hb.then hb8
        replace hx4 := hx4.below hb8
        replace ht4 := ht4.below hb8
        replace hrv4 := hrv4.below hb8
        replace rK := rK.below hb8
        replace rO := rO.below hb8
        replace r7 := r7.below hb8
        replace r8 := r8.row
        go_wp2_with fail
        with_reducible refine (apply_yes rO ht4 (by omega) (by omega) HO.out.e HB3.out).mono ?_
        rintro e w9 ⟨a9, cap9, rfl, r9, hb9⟩
        rw [HOP.out] at r9 ⊢
        replace hb := hb.then hb9
        replace hx4 := hx4.below hb9
        replace ht4 := ht4.below hb9
        replace hrv4 := hrv4.below hb9
        replace rK := rK.below hb9
        replace rO := rO.below hb9
        replace r7 := r7.below hb9
        replace r8 := r8.below hb9
        replace r9 := r9.row
        go_wp2_with fail
        refine (rights_lit rfl rK HK.out.rs).mono ?_; rintro e w10 ⟨rfl, hb10⟩
        replace hb := hb.then hb10
        replace hx4 := hx4.below hb10
        replace ht4 := ht4.below hb10
        replace hrv4 := hrv4.below hb10
        replace rK := rK.below hb10
        replace rO := rO.below hb10
        replace r7 := r7.below hb10
        replace r8 := r8.below hb10
        replace r9 := r9.below hb10
        go_wp2_with fail
        with_reducible refine (rights_lit rfl rO HO.out.rs).mono ?_
        rintro e w11 ⟨rfl, hb11⟩
        replace hb := hb.then hb11
        replace hx4 := hx4.below hb11
        replace ht4 := ht4.below hb11
        replace hrv4 := hrv4.below hb11
        replace rK := rK.below hb11
        clear rO
        replace r7 := r7.below hb11
        replace r8 := r8.below hb11
        replace r9 := r9.below hb11
        go_wp2_with fail
        refine (refsame1_lit rfl r7 rfl r8 (b := true) (by simp)).mono ?_; rintro e w12 ⟨rfl, hb12⟩
        replace hb := hb.then hb12
        replace hx4 := hx4.below hb12
        replace ht4 := ht4.below hb12
        replace hrv4 := hrv4.below hb12
        replace rK := rK.below hb12
        replace r9 := r9.below hb12
        clear r7 r8
        go_wp2_with fail
        with_reducible refine (refsame1_lit rfl r9 rfl ht4 (b := true) (by simp)).mono ?_
        rintro e w13 ⟨rfl, hb13⟩
        replace hb := hb.then hb13
        replace hx4 := hx4.below hb13
        replace hrv4 := hrv4.below hb13
        replace rK := rK.below hb13
        clear r9 ht4
        go_wp2_with fail
        with_reducible refine (keep_yes2 rK hrv4 (by omega) HK.out.T HTw.out).mono ?_
        rintro e w14 ⟨aK2, capK2, rfl, rK2, hb14⟩
        replace hb := hb.then hb14
        replace hx4 := hx4.below hb14
        replace rK := rK.below hb14
        go_wp2_with fail
        refine (refsame2_lit rfl rK2 rfl rK (b := true) (by simp)).mono ?_; rintro e w15 ⟨rfl, hb15⟩
        replace hb := hb.then hb15
        replace hx4 := hx4.below hb15
        clear rK rK2
        go_wp2_with fail
        with_reducible refine (keep_nil hx4 (by omega) HS.out.T).mono ?_
        rintro e w16 ⟨aN, capN, rfl, hb16⟩
        go_wp2_with fail
        go_ret
        exact ⟨rfl, hb.then hb16⟩
end Go.Proofs.Ytfcebbfphjbkoaa
namespace Go.Proofs.Ytfcebbfphjbkoaa
open Go.RowKit

section lit
variable {w : World} {a a' : Option Addr} {cap cap' : Nat}
/-- composed, in one sentence -/
theorem compose_uni {xs ys : List Bnd} (hx : Row w a cap xs) (hy : Row w a' cap' ys) (ha : rightS xs = true) (hb : rightS ys = true) (hl : xs.length ≤ 1000) (hl2 : ys.length ≤ 1000) :
    Calls Try.prog 23 #[.slice a xs.length cap, .slice a' ys.length cap'] w fun e w' => ∃ a2 cap2, e = .returned (.tuple #[.slice a2 (compL xs ys).length cap2, .bool (cmB xs ys)]) ∧ Row w' a2 cap2 (compL xs ys) ∧ Below w.heap.size w w' := by
  cases hB : cmB xs ys with
  | true =>
    refine (compose_yes rfl hx rfl hy ha hb hl hl2 hB).mono fun e w' ⟨a2, cap2, L, he, hr, hC, hb2⟩ => ?_
    rw [compL_same ha hb hB hC]
    exact ⟨a2, cap2, he, hr, hb2⟩
  | false =>
    refine (compose_no rfl hx rfl hy ha hb hl hl2 hB).mono fun e w' ⟨he, hb2⟩ => ?_
    have e0 : compL xs ys = [] := by unfold compL; rw [compB_same ha hb, hB]; rfl
    rw [e0]
    exact ⟨none, 0, he, nilRow _, hb2⟩
theorem refcompose_uni {xs ys : List Bnd} (hx : Row w a cap xs) (hy : Row w a' cap' ys) (ha : rightS xs = true) (hb : rightS ys = true) (_hl : xs.length ≤ 1000) (_hl2 : ys.length ≤ 1000) (hT : ∀ b ∈ xs, b.t.length ≤ 1000) :
    Calls Try.prog 24 #[.slice a xs.length cap, .slice a' ys.length cap'] w fun e w' => ∃ a2 cap2, e = .returned (.tuple #[.slice a2 (compL xs ys).length cap2, .bool (cmB xs ys)]) ∧ Row w' a2 cap2 (compL xs ys) ∧ Below w.heap.size w w' := by
  rw [← compB_same ha hb]
  exact (refcompose_any a cap a' cap' w xs ys hx hy hT (fun b h => by have := rightS_T hb b h; omega))
theorem apply_uni {xs : List Bnd} {ys : List Cel} (hx : Row w a cap xs) (hy : Row w a' cap' ys) (hl : xs.length ≤ 1000000) (hl2 : ys.length ≤ 10000) (he : lookL xs = look xs) :
    Calls Try.prog 21 #[.slice a xs.length cap, .slice a' ys.length cap'] w fun e w' => ∃ a2 cap2, e = .returned (.tuple #[.slice a2 (apL xs ys).length cap2, .bool (apB xs ys)]) ∧ Row w' a2 cap2 (apL xs ys) ∧ Below w.heap.size w w' := by
  have h := applysub_any a cap a' cap' w xs ys hx hy hl hl2
  rw [he, ← apB_out, ← apL_out] at h
  exact h.mono fun e w' ⟨a2, cap2, he, hr, hb⟩ => ⟨a2, cap2, he, hr.row, hb⟩
theorem refidem_uni {xs : List Bnd} (hx : Row w a cap xs) (hs : rightS xs = true) :
    Calls Try.prog 30 #[.slice a xs.length cap] w fun e w' => e = .returned (.bool (idemL xs)) ∧ Below w.heap.size w w' := by
  rw [idem_same hs]; exact refidem_any a cap w xs hx
theorem may_no {xs : List Bnd} {ts : List Cel} (h : rightS xs = false) : mayB xs ts = false := by
  unfold mayB; simp [h]
end lit

set_option maxHeartbeats 16000000 in
set_option maxRecDepth 100000 in
theorem lawTells2_any (w : World) (xs bs : List Bnd) (ts : List Cel) (vs : List Int) (a : Option Addr) (cap : Nat) (a' : Option Addr) (cap' : Nat) (a2 : Option Addr) (cap2 : Nat) (a3 : Option Addr) (cap3 : Nat) (hx : Row w a cap xs) (hy : Row w a' cap' bs) (ht : Row w a2 cap2 ts) (hv : Row w a3 cap3 vs) :
    Calls Try.prog 4 #[.slice a xs.length cap, .slice a' bs.length cap', .agg #[.slice a2 ts.length cap2, .slice a3 vs.length cap3]] w fun e w' => e = .returned (.bool true) ∧ Below w.heap.size w w' := by
  have hb0 := (Below.refl w.heap.size w).new (.cells #[.slice a2 ts.length cap2, .slice a3 vs.length cap3] 31)
  have f0 : (w.alloc (.cells #[.slice a2 ts.length cap2, .slice a3 vs.length cap3] 31)).cell? ⟨w.heap.size, 0, none⟩ = some (.slice a2 ts.length cap2) := World.cell?_alloc_at _ _ _ 0 rfl
  have f1 : (w.alloc (.cells #[.slice a2 ts.length cap2, .slice a3 vs.length cap3] 31)).cell? ⟨w.heap.size, 1, none⟩ = some (.slice a3 vs.length cap3) := World.cell?_alloc_at _ _ _ 1 rfl
  have hm := hx.max
  have hm2 := hx.le
  have hvm := hv.max
  have hvm2 := hv.le
  cases h : fewB xs with
  | false =>
    have F0 := mkHid h
    clear h
    go_enter Try.func4, Try.ntmps4
    go_wp2_with fail
    refine (head2_any _).mono ?_; rintro e w1 ⟨rfl, hb1⟩
    replace f0 := keep f0 hb1; replace f1 := keep f1 hb1; have hb := hb0.then hb1
    clear hb1 hb0
    go_wp2_with fail
    refine (few_lit (hx.below hb) F0.out).mono ?_; rintro e w2 ⟨rfl, hb2⟩
    replace f0 := keep f0 hb2; replace f1 := keep f1 hb2; replace hb := hb.then hb2
    clear hb2
    go_wp2_with fail
    go_ret
    exact ⟨rfl, hb⟩
  | true =>
  have F0 := mkHid h
  have hn : xs.length ≤ 30 := by unfold fewB at h; simp only [Bool.and_eq_true, decide_eq_true_eq] at h; exact h.2
  clear h
  by_cases hv30 : 30 < vs.length
  · have t1 : decide (30 < (vs.length : Int)) = true := by simp; omega
    go_enter Try.func4, Try.ntmps4
    go_wp2_with fail
    refine (head2_any _).mono ?_; rintro e w1 ⟨rfl, hb1⟩
    replace f0 := keep f0 hb1; replace f1 := keep f1 hb1; have hb := hb0.then hb1
    clear hb1 hb0
    go_wp2_with fail
    refine (few_lit (hx.below hb) F0.out).mono ?_; rintro e w2 ⟨rfl, hb2⟩
    replace f0 := keep f0 hb2; replace f1 := keep f1 hb2; replace hb := hb.then hb2
    clear hb2
    go_wp2_with fail
    go_ret
    exact ⟨rfl, hb⟩
  have t1 : decide (30 < (vs.length : Int)) = false := by simp; omega
  cases h : rightS xs with
  | false =>
    have R0 := mkHid h
    have HM := mkHid (may_no (ts := ts) h)
    clear h
    go_enter Try.func4, Try.ntmps4
    go_wp2_with fail
    refine (head2_any _).mono ?_; rintro e w1 ⟨rfl, hb1⟩
    replace f0 := keep f0 hb1; replace f1 := keep f1 hb1; have hb := hb0.then hb1
    clear hb1 hb0
    go_wp2_with fail
    refine (few_lit (hx.below hb) F0.out).mono ?_; rintro e w2 ⟨rfl, hb2⟩
    replace f0 := keep f0 hb2; replace f1 := keep f1 hb2; replace hb := hb.then hb2
    clear hb2
    go_wp2_with fail
    refine (rights_lit rfl (hx.below hb) R0.out).mono ?_; rintro e w3 ⟨rfl, hb3⟩
    replace f0 := keep f0 hb3; replace f1 := keep f1 hb3; replace hb := hb.then hb3
    clear hb3
    go_wp2_with fail
    refine (right2_lit (hx.below hb) R0.out).mono ?_; rintro e w4 ⟨rfl, hb4⟩
    replace f0 := keep f0 hb4; replace f1 := keep f1 hb4; replace hb := hb.then hb4
    clear hb4
    go_wp2_with fail
    refine (may_lit (hx.below hb) (ht.below hb) HM.out).mono ?_; rintro e w5 ⟨rfl, hb5⟩
    replace f0 := keep f0 hb5; replace f1 := keep f1 hb5; replace hb := hb.then hb5
    clear hb5
    go_wp2_with fail
    go_ret
    exact ⟨rfl, hb⟩
  | true =>
  have R0 := mkHid h
  clear h
  cases h : mayB xs ts with
  | false =>
    have HM := mkHid h
    clear h
    go_enter Try.func4, Try.ntmps4
    go_wp2_with fail
    refine (head2_any _).mono ?_; rintro e w1 ⟨rfl, hb1⟩
    replace f0 := keep f0 hb1; replace f1 := keep f1 hb1; have hb := hb0.then hb1
    clear hb1 hb0
    go_wp2_with fail
    refine (few_lit (hx.below hb) F0.out).mono ?_; rintro e w2 ⟨rfl, hb2⟩
    replace f0 := keep f0 hb2; replace f1 := keep f1 hb2; replace hb := hb.then hb2
    clear hb2
    go_wp2_with fail
    refine (rights_lit rfl (hx.below hb) R0.out).mono ?_; rintro e w3 ⟨rfl, hb3⟩
    replace f0 := keep f0 hb3; replace f1 := keep f1 hb3; replace hb := hb.then hb3
    clear hb3
    go_wp2_with fail
    refine (right2_lit (hx.below hb) R0.out).mono ?_; rintro e w4 ⟨rfl, hb4⟩
    replace f0 := keep f0 hb4; replace f1 := keep f1 hb4; replace hb := hb.then hb4
    clear hb4
    go_wp2_with fail
    refine (may_lit (hx.below hb) (ht.below hb) HM.out).mono ?_; rintro e w5 ⟨rfl, hb5⟩
    replace f0 := keep f0 hb5; replace f1 := keep f1 hb5; replace hb := hb.then hb5
    clear hb5
    go_wp2_with fail
    go_ret
    exact ⟨rfl, hb⟩
  | true =>
  have HM := mkHid h
  have HS := mkHid (may_spec h)
  have hl := HS.out.l
  clear h
  cases h : mayB bs ts with
  | false =>
    have HM2 := mkHid h
    clear h
    go_enter Try.func4, Try.ntmps4
    go_wp2_with fail
    refine (head2_any _).mono ?_; rintro e w1 ⟨rfl, hb1⟩
    replace f0 := keep f0 hb1; replace f1 := keep f1 hb1; have hb := hb0.then hb1
    clear hb1 hb0
    go_wp2_with fail
    refine (few_lit (hx.below hb) F0.out).mono ?_; rintro e w2 ⟨rfl, hb2⟩
    replace f0 := keep f0 hb2; replace f1 := keep f1 hb2; replace hb := hb.then hb2
    clear hb2
    go_wp2_with fail
    refine (rights_lit rfl (hx.below hb) R0.out).mono ?_; rintro e w3 ⟨rfl, hb3⟩
    replace f0 := keep f0 hb3; replace f1 := keep f1 hb3; replace hb := hb.then hb3
    clear hb3
    go_wp2_with fail
    refine (right2_lit (hx.below hb) R0.out).mono ?_; rintro e w4 ⟨rfl, hb4⟩
    replace f0 := keep f0 hb4; replace f1 := keep f1 hb4; replace hb := hb.then hb4
    clear hb4
    go_wp2_with fail
    refine (may_lit (hx.below hb) (ht.below hb) HM.out).mono ?_; rintro e w5 ⟨rfl, hb5⟩
    replace f0 := keep f0 hb5; replace f1 := keep f1 hb5; replace hb := hb.then hb5
    clear hb5
    go_wp2_with fail
    with_reducible refine (may_lit (hy.below hb) (ht.below hb) HM2.out).mono ?_
    rintro e w6 ⟨rfl, hb6⟩
    replace f0 := keep f0 hb6; replace f1 := keep f1 hb6; replace hb := hb.then hb6
    go_wp2_with fail
    go_ret
    exact ⟨rfl, hb⟩
  | true =>
  have HM2 := mkHid h
  have HS2 := mkHid (may_spec h)
  have hn2 := HS2.out.n
  clear h
  have HT : Hid (∀ b ∈ xs, b.t.length ≤ 1000) := by rw [Hid]; intro b hb; have := HS.out.T b hb; omega
  go_enter Try.func4, Try.ntmps4
  go_wp2_with fail
  refine (head2_any _).mono ?_; rintro e w1 ⟨rfl, hb1⟩
  replace f0 := keep f0 hb1; replace f1 := keep f1 hb1; have hb := hb0.then hb1
  clear hb1 hb0
  go_wp2_with fail
  refine (few_lit (hx.below hb) F0.out).mono ?_; rintro e w2 ⟨rfl, hb2⟩
  replace f0 := keep f0 hb2; replace f1 := keep f1 hb2; replace hb := hb.then hb2
  clear hb2
  go_wp2_with fail
  refine (rights_lit rfl (hx.below hb) R0.out).mono ?_; rintro e w3 ⟨rfl, hb3⟩
  replace f0 := keep f0 hb3; replace f1 := keep f1 hb3; replace hb := hb.then hb3
  clear hb3
  go_wp2_with fail
  refine (right2_lit (hx.below hb) R0.out).mono ?_; rintro e w4 ⟨rfl, hb4⟩
  replace f0 := keep f0 hb4; replace f1 := keep f1 hb4; replace hb := hb.then hb4
  clear hb4
  go_wp2_with fail
  refine (may_lit (hx.below hb) (ht.below hb) HM.out).mono ?_; rintro e w5 ⟨rfl, hb5⟩
  replace f0 := keep f0 hb5; replace f1 := keep f1 hb5; replace hb := hb.then hb5
  clear hb5
  go_wp2_with fail
  with_reducible refine (may_lit (hy.below hb) (ht.below hb) HM2.out).mono ?_
  rintro e w6 ⟨rfl, hb6⟩
  replace f0 := keep f0 hb6; replace f1 := keep f1 hb6; replace hb := hb.then hb6
  clear hb6
  go_wp2_with fail
  have HAe : Hid (lookL xs = look xs) := HS.out.e
  refine (apply_uni (hx.below hb) (ht.below hb) (by omega) (by omega) HAe.out).mono ?_; rintro e w7 ⟨aX, caX, rfl, rX, hb7⟩
  replace f0 := keep f0 hb7; replace f1 := keep f1 hb7; replace hb := hb.then hb7
  clear hb7
  go_wp2_with fail
  refine (refapply_any _ _ _ _ _ xs ts (hx.below hb) (ht.below hb) HT.out (by omega)).mono ?_; rintro e w8 ⟨aY, caY, rfl, rY0, hb8⟩
  replace f0 := keep f0 hb8; replace f1 := keep f1 hb8; replace hb := hb.then hb8
  replace rX := rX.below hb8
  clear hb8
  have rY := rY0.row
  clear rY0
  go_wp2_with fail
  refine (compose_uni (hx.below hb) (hy.below hb) R0.out HS2.out.rs (by omega) (by omega)).mono ?_; rintro e w9 ⟨aC, caC, rfl, rC, hb9⟩
  replace f0 := keep f0 hb9; replace f1 := keep f1 hb9; replace hb := hb.then hb9
  replace rX := rX.below hb9
  replace rY := rY.below hb9
  clear hb9
  go_wp2_with fail
  refine (refcompose_uni (hx.below hb) (hy.below hb) R0.out HS2.out.rs (by omega) (by omega) HT.out).mono ?_; rintro e w10 ⟨aD, caD, rfl, rD, hb10⟩
  replace f0 := keep f0 hb10; replace f1 := keep f1 hb10; replace hb := hb.then hb10
  replace rX := rX.below hb10
  replace rY := rY.below hb10
  replace rC := rC.below hb10
  clear hb10
  generalize apL xs ts = X at *
  generalize apB xs ts = B1 at *
  generalize compL xs bs = L at *
  generalize cmB xs bs = B2 at *
  go_wp2_with fail
  replace hb : Below w.heap.size w w10.drew := hb.trans (Below.refl _ _).drew
  replace rX : Row w10.drew _ _ _ := rX.below (Below.refl _ _).drew
  replace rY : Row w10.drew _ _ _ := rY.below (Below.refl _ _).drew
  replace rC : Row w10.drew _ _ _ := rC.below (Below.refl _ _).drew
  replace rD : Row w10.drew _ _ _ := rD.below (Below.refl _ _).drew
  replace f1 : w10.drew.cell? ⟨w.heap.size, 1, none⟩ = some (.slice a3 vs.length cap3) := f1
  clear f0
  go_region_held3 (fun w' => w'.cell? ⟨w.heap.size, 1, none⟩ = some (.slice a3 vs.length cap3))
    (first | exact f1 | assumption)
    (first
      | (go_at_call 25; (refine (refsame1_lit rfl rX rfl rY (b := true) (by simp)).mono ?_); rintro e w11 ⟨rfl, hb11⟩; replace f1 := keep f1 hb11; replace hb := hb.then hb11; replace rC := rC.below hb11; replace rD := rD.below hb11)
      | (go_at_call 26; (with_reducible refine (refsame2_lit rfl rC rfl rD (b := true) (by simp)).mono ?_); rintro e w12 ⟨rfl, hb12⟩; replace f1 := keep f1 hb12; replace hb := hb.then hb12)
      | (go_at_call 27; (refine (keep_yes2 (hx.below hb) (hv.below hb) (by omega) HS.out.T rfl).mono ?_); rintro e w13 ⟨aK, cK, rfl, rK, hb13⟩; replace f1 := keep f1 hb13; replace hb := hb.then hb13)
      | (go_at_call 28; (refine (refkeep_any _ _ _ _ _ xs vs (hx.below hb) (hv.below hb) (by omega)).mono ?_); rintro e w14 ⟨aQ, cQ, rfl, rQ, hb14⟩; replace f1 := keep f1 hb14; replace hb := hb.then hb14; replace rK := rK.below hb14)
      | (go_at_call 26; (with_reducible refine (refsame2_lit rfl rK rfl rQ (b := true) (by simp)).mono ?_); rintro e w15 ⟨rfl, hb15⟩; replace f1 := keep f1 hb15; replace hb := hb.then hb15)
      | (go_at_call 29; (refine (idem_lit rfl (hx.below hb) (by omega) HT.out rfl).mono ?_); rintro e w16 ⟨rfl, hb16⟩; replace f1 := keep f1 hb16; replace hb := hb.then hb16)
      | (go_at_call 30; (refine (refidem_uni (hx.below hb) R0.out).mono ?_); rintro e w17 ⟨rfl, hb17⟩; replace f1 := keep f1 hb17; replace hb := hb.then hb17))
  all_goals go_wp2
  all_goals go_ret
  all_goals exact ⟨rfl, hb⟩
end Go.Proofs.Ytfcebbfphjbkoaa
namespace Go.Proofs.Ytfcebbfphjbkoaa
open Go.RowKit Go.ChangeShapes Go.WideShapes Go.Deep Go.ChangeAt

theorem Try.own : ownKnob Try.prog.godebug = none := by kernel_rfl
theorem Try.laidOut : laidOutB Try.prog = true := by kernel_rfl
theorem Try.cells24 : Try.prog.cellsOf 24 = 3 := by kernel_rfl
theorem Try.cells22 : Try.prog.cellsOf 22 = 1 := by kernel_rfl
theorem Try.cells3 : Try.prog.cellsOf 3 = 1 := by kernel_rfl
theorem Try.cells9 : Try.prog.cellsOf 9 = 1 := by kernel_rfl

theorem i64_wf {n : Int} (h : (Lit.int .i64 n).wf = true) : -9223372036854775808 ≤ n ∧ n ≤ 9223372036854775807 := by
  simp [Lit.wf, IntKind.min, IntKind.max, IntKind.signed, IntKind.bits] at h
  omega
theorem add_lit (b o j : Nat) : (Addr.mk b o none).add j = ⟨b, o + j, none⟩ := by unfold Addr.add; split <;> simp_all

section
variable {H : Type} {enc : TypeId × Value → H} {w : World} {spare : Nat → Bool} {held : Bool}
set_option maxRecDepth 100000 in
/-- three cells that read as a cell of a term -/
theorem open_cell {n : Nat} {cs : List Value} {x : DataW H × List MemPlace} (h : DataW.trod enc Try.prog w 0 spare held n 24 cs = some x) :
    ∃ c : Cel, cs = [.int .i64 c.k, .string c.s, .int .i64 c.n] ∧ c.fit := by
  obtain ⟨ys, m, _, _, hlen, hyl, hf⟩ := DataW.trod_struct Try.underlying24 h
  rw [Try.cells24] at hlen
  match cs, hlen with
  | [v0, v1, v2], _ =>
    have h0 : DataW.trod enc Try.prog w 0 spare held m 3 (([v0, v1, v2].drop 0).take (Try.prog.cellsOf 3)) = ys[0]? := hf 0 _ rfl
    have h1 : DataW.trod enc Try.prog w 0 spare held m 9 (([v0, v1, v2].drop 1).take (Try.prog.cellsOf 9)) = ys[1]? := hf 1 _ rfl
    have h2 : DataW.trod enc Try.prog w 0 spare held m 3 (([v0, v1, v2].drop 2).take (Try.prog.cellsOf 3)) = ys[2]? := hf 2 _ rfl
    rw [Try.cells3] at h0 h2
    rw [Try.cells9] at h1
    have hy : ∀ i : Nat, i < 3 → ∃ y, ys[i]? = some y := fun i hi => ⟨_, List.getElem?_eq_getElem (by rw [hyl]; exact hi)⟩
    obtain ⟨y0, e0⟩ := hy 0 (by omega)
    obtain ⟨y1, e1⟩ := hy 1 (by omega)
    obtain ⟨y2, e2⟩ := hy 2 (by omega)
    rw [e0] at h0
    rw [e1] at h1
    rw [e2] at h2
    obtain ⟨a0, q0, _, f0⟩ := DataW.trod_int Try.underlying3 h0
    obtain ⟨a1, q1, _, f1⟩ := DataW.trod_string Try.underlying9 h1
    obtain ⟨a2, q2, _, f2⟩ := DataW.trod_int Try.underlying3 h2
    simp at q0 q1 q2
    refine ⟨⟨a0, a1, a2⟩, by rw [q0, q1, q2], ⟨(i64_wf f0).1, (i64_wf f0).2, (i64_wf f2).1, (i64_wf f2).2, by unfold maxLen at f1; exact f1⟩⟩

/-- what rows of a kind are made of -/
theorem open_rows {α : Type} [Rep α] {t e : TypeId} (ht : Try.prog.underlying t = some (.slice e)) (hC : Try.prog.cellsOf e = Rep.sz α)
    (hE : ∀ (n : Nat) (a : Addr) (cs : List Value) (x : DataW H × List MemPlace), w.cells? 0 a (Rep.sz α) = some cs → DataW.trod enc Try.prog w 0 (fun _ => true) held n e cs = some x → ∃ (b o : Nat) (y : α), a = ⟨b, o, none⟩ ∧ Rep.E w b o y)
    {fuel : Nat} {a : Option Addr} {len cap : Nat} {x : DataW H × List MemPlace} (h : DataW.trod enc Try.prog w 0 (fun _ => true) held fuel t [.slice a len cap] = some x) :
    ∃ xs : List α, xs.length = len ∧ Row w a cap xs := by
  rcases open_slice ht h with ⟨hcs, _⟩ | ⟨ad, l, c, m, n, D, Pl, hcs, _, hl, hm, hmm, _, hi⟩
  · simp at hcs
    obtain ⟨rfl, rfl, rfl⟩ := hcs
    exact ⟨[], rfl, Row.empty _ _ _ (by omega) (fun _ => rfl)⟩
  · simp at hcs
    obtain ⟨rfl, rfl, rfl⟩ := hcs
    simp only [if_true] at hmm
    subst hmm
    have key : ∀ i, i < len → ∃ (b o : Nat) (y : α), ad.add (i * Rep.sz α) = ⟨b, o, none⟩ ∧ Rep.E w b o y := by
      intro i hil
      obtain ⟨cs', hc, ht'⟩ := hi i (by omega)
      rw [hC] at hc
      exact hE n _ cs' _ hc ht'
    have hy : ∀ i : Fin len, ∃ y : α, ∃ b o, ad.add (i.val * Rep.sz α) = ⟨b, o, none⟩ ∧ Rep.E w b o y := fun i => by
      obtain ⟨b, o, y, e1, e2⟩ := key i.val i.isLt
      exact ⟨y, b, o, e1, e2⟩
    let f : Fin len → α := fun i => Classical.choose (hy i)
    have hf : ∀ i : Fin len, ∃ b o, ad.add (i.val * Rep.sz α) = ⟨b, o, none⟩ ∧ Rep.E w b o (f i) := fun i => Classical.choose_spec (hy i)
    refine ⟨List.ofFn f, List.length_ofFn, ⟨by rw [List.length_ofFn]; exact hl, by unfold maxLen at hm; omega, (fun e => by cases e), fun i x hx => ?_⟩⟩
    have hil : i < len := by
      have := (List.getElem?_eq_some_iff.1 hx).1; rwa [List.length_ofFn] at this
    have hx' : f ⟨i, hil⟩ = x := by
      rw [List.getElem?_eq_getElem (by rw [List.length_ofFn]; exact hil), List.getElem_ofFn] at hx
      exact Option.some.inj hx
    obtain ⟨b, o, e1, e2⟩ := hf ⟨i, hil⟩
    obtain ⟨b0, o0, s0⟩ := ad
    have hz := hf ⟨0, by omega⟩
    obtain ⟨b1, o1, e3, _⟩ := hz
    simp only [Nat.zero_mul, Addr.add, if_true] at e3
    injection e3 with e3 e4 e5
    subst e5
    rw [add_lit] at e1
    injection e1 with e1 e6
    subst e1
    refine ⟨b0, o0, rfl, ?_⟩
    rw [hx'] at e2
    rw [← e6] at e2
    exact e2

theorem spot_none {a : Addr} {v : Value} (h : w.cell? a = some v) : ∃ b o, a = ⟨b, o, none⟩ := by
  have := World.cell?_spot h
  obtain ⟨b, o, s⟩ := a
  simp at this
  subst this
  exact ⟨b, o, rfl⟩
theorem E_cell (n : Nat) (a : Addr) (cs : List Value) (x : DataW H × List MemPlace) (hc : w.cells? 0 a 3 = some cs) (h : DataW.trod enc Try.prog w 0 spare held n 24 cs = some x) : ∃ (b o : Nat) (y : Cel), a = ⟨b, o, none⟩ ∧ Rep.E w b o y := by
  obtain ⟨c, rfl, hf⟩ := open_cell h
  obtain ⟨_, _, hat⟩ := World.cells?_some hc
  have h0 := hat 0 (by omega)
  obtain ⟨b, o, rfl⟩ : ∃ b o, a = ⟨b, o, none⟩ := spot_none (by simpa [Addr.add] using h0)
  refine ⟨b, o, c, rfl, ?_⟩
  have h1 := hat 1 (by omega)
  have h2 := hat 2 (by omega)
  rw [add_lit] at h0 h1 h2
  exact ⟨h0, h1, h2, hf⟩
/-- []Cell -/
theorem open_cells {fuel : Nat} {a : Option Addr} {len cap : Nat} {x : DataW H × List MemPlace} (h : DataW.trod enc Try.prog w 0 (fun _ => true) held fuel 22 [.slice a len cap] = some x) :
    ∃ xs : List Cel, xs.length = len ∧ Row w a cap xs :=
  open_rows Try.underlying22 Try.cells24 (fun n a cs x h1 h2 => E_cell n a cs x h1 h2) h
theorem E_list {α : Type} [Rep α] {e : TypeId} {el : TypeId} (he : Try.prog.underlying e = some (.slice el))
    (hop : ∀ {fuel : Nat} {a : Option Addr} {len cap : Nat} {x : DataW H × List MemPlace}, DataW.trod enc Try.prog w 0 (fun _ => true) held fuel e [.slice a len cap] = some x → ∃ xs : List α, xs.length = len ∧ Row w a cap xs)
    (n : Nat) (a : Addr) (cs : List Value) (x : DataW H × List MemPlace) (hc : w.cells? 0 a 1 = some cs) (h : DataW.trod enc Try.prog w 0 (fun _ => true) held n e cs = some x) : ∃ (b o : Nat) (y : List α), a = ⟨b, o, none⟩ ∧ Rep.E w b o y := by
  obtain ⟨_, hl, hat⟩ := World.cells?_some hc
  have h0 := hat 0 (by omega)
  match cs, hl with
  | [v], _ =>
    have hv : ∃ a' len cap, v = .slice a' len cap := by
      rcases open_slice he h with ⟨hcs, _⟩ | ⟨ad, l, c, m, n, D, Pl, hcs, _⟩
      · simp at hcs; exact ⟨_, _, _, hcs⟩
      · simp at hcs; exact ⟨_, _, _, hcs⟩
    obtain ⟨a', len, cap, rfl⟩ := hv
    obtain ⟨xs, rfl, hr⟩ := hop h
    obtain ⟨b, o, rfl⟩ : ∃ b o, a = ⟨b, o, none⟩ := spot_none (by simpa [Addr.add] using h0)
    rw [add_lit] at h0
    exact ⟨b, o, xs, rfl, ⟨a', cap, h0, hr⟩⟩
/-- [][]Cell -/
theorem open_cellss {fuel : Nat} {a : Option Addr} {len cap : Nat} {x : DataW H × List MemPlace} (h : DataW.trod enc Try.prog w 0 (fun _ => true) held fuel 49 [.slice a len cap] = some x) :
    ∃ xs : List (List Cel), xs.length = len ∧ Row w a cap xs :=
  open_rows Try.underlying49 Try.cells22 (fun n a cs x h1 h2 => E_list (α := Cel) Try.underlying22 open_cells n a cs x h1 h2) h
end
end Go.Proofs.Ytfcebbfphjbkoaa
namespace Go.Proofs.Ytfcebbfphjbkoaa
open Go.RowKit Go.ChangeShapes Go.WideShapes Go.Deep Go.ChangeAt

theorem Try.cells46 : Try.prog.cellsOf 46 = 2 := by kernel_rfl
section
variable {H : Type} {enc : TypeId × Value → H} {w : World} {held : Bool}
set_option maxRecDepth 100000 in
/-- two cells that read as a binding -/
theorem open_bind {n : Nat} {cs : List Value} {x : DataW H × List MemPlace} (h : DataW.trod enc Try.prog w 0 (fun _ => true) held n 46 cs = some x) :
    ∃ (v : Int) (t : List Cel) (a : Option Addr) (cap : Nat), cs = [.int .i64 v, .slice a t.length cap] ∧ Row w a cap t ∧ -9223372036854775808 ≤ v ∧ v ≤ 9223372036854775807 := by
  obtain ⟨ys, m, _, _, hlen, hyl, hf⟩ := DataW.trod_struct Try.underlying46 h
  rw [Try.cells46] at hlen
  match cs, hlen with
  | [v0, v1], _ =>
    have h0 : DataW.trod enc Try.prog w 0 (fun _ => true) held m 3 (([v0, v1].drop 0).take (Try.prog.cellsOf 3)) = ys[0]? := hf 0 _ rfl
    have h1 : DataW.trod enc Try.prog w 0 (fun _ => true) held m 22 (([v0, v1].drop 1).take (Try.prog.cellsOf 22)) = ys[1]? := hf 1 _ rfl
    rw [Try.cells3] at h0
    rw [Try.cells22] at h1
    have hy : ∀ i : Nat, i < 2 → ∃ y, ys[i]? = some y := fun i hi => ⟨_, List.getElem?_eq_getElem (by rw [hyl]; exact hi)⟩
    obtain ⟨y0, e0⟩ := hy 0 (by omega)
    obtain ⟨y1, e1⟩ := hy 1 (by omega)
    rw [e0] at h0
    rw [e1] at h1
    obtain ⟨a0, q0, _, f0⟩ := DataW.trod_int Try.underlying3 h0
    simp at q0
    have h1' : DataW.trod enc Try.prog w 0 (fun _ => true) held m 22 [v1] = some y1 := by simpa using h1
    have hv : ∃ a' len cap, v1 = .slice a' len cap := by
      rcases open_slice Try.underlying22 h1' with ⟨hcs, _⟩ | ⟨ad, l, c, m, n, D, Pl, hcs, _⟩
      · simp at hcs; exact ⟨_, _, _, hcs⟩
      · simp at hcs; exact ⟨_, _, _, hcs⟩
    obtain ⟨a', len, cap, rfl⟩ := hv
    obtain ⟨xs, rfl, hr⟩ := open_cells h1'
    exact ⟨a0, xs, a', cap, by rw [q0], hr, (i64_wf f0).1, (i64_wf f0).2⟩
theorem E_bind (n : Nat) (a : Addr) (cs : List Value) (x : DataW H × List MemPlace) (hc : w.cells? 0 a 2 = some cs) (h : DataW.trod enc Try.prog w 0 (fun _ => true) held n 46 cs = some x) : ∃ (b o : Nat) (y : Bnd), a = ⟨b, o, none⟩ ∧ Rep.E w b o y := by
  obtain ⟨v, t, a', cap, rfl, hr, hl, hh⟩ := open_bind h
  obtain ⟨_, _, hat⟩ := World.cells?_some hc
  have h0 := hat 0 (by omega)
  obtain ⟨b, o, rfl⟩ : ∃ b o, a = ⟨b, o, none⟩ := spot_none (by simpa [Addr.add] using h0)
  refine ⟨b, o, ⟨v, t⟩, rfl, ?_⟩
  have h1 := hat 1 (by omega)
  rw [add_lit] at h0 h1
  exact ⟨⟨a', cap, h0, h1, hr⟩, hl, hh⟩
/-- []Bind -/
theorem open_binds {fuel : Nat} {a : Option Addr} {len cap : Nat} {x : DataW H × List MemPlace} (h : DataW.trod enc Try.prog w 0 (fun _ => true) held fuel 28 [.slice a len cap] = some x) :
    ∃ xs : List Bnd, xs.length = len ∧ Row w a cap xs :=
  open_rows Try.underlying28 Try.cells46 (fun n a cs x h1 h2 => E_bind n a cs x h1 h2) h
end
end Go.Proofs.Ytfcebbfphjbkoaa
namespace Go.Proofs.Ytfcebbfphjbkoaa
open Go.RowKit Go.ChangeShapes Go.WideShapes Go.Deep Go.ChangeAt

theorem Try.cells31 : Try.prog.cellsOf 31 = 2 := by kernel_rfl
theorem Try.cells29 : Try.prog.cellsOf 29 = 1 := by kernel_rfl
section
variable {H : Type} {enc : TypeId × Value → H} {w : World} {held : Bool}
theorem E_int (n : Nat) (a : Addr) (cs : List Value) (x : DataW H × List MemPlace) (hc : w.cells? 0 a 1 = some cs) (h : DataW.trod enc Try.prog w 0 (fun _ => true) held n 3 cs = some x) : ∃ (b o : Nat) (y : Int), a = ⟨b, o, none⟩ ∧ Rep.E w b o y := by
  obtain ⟨a0, q0, _, f0⟩ := DataW.trod_int Try.underlying3 h
  subst q0
  obtain ⟨_, _, hat⟩ := World.cells?_some hc
  have h0 := hat 0 (by omega)
  obtain ⟨b, o, rfl⟩ : ∃ b o, a = ⟨b, o, none⟩ := spot_none (by simpa [Addr.add] using h0)
  rw [add_lit] at h0
  exact ⟨b, o, a0, rfl, h0, (i64_wf f0).1, (i64_wf f0).2⟩
/-- []int -/
theorem open_ints {fuel : Nat} {a : Option Addr} {len cap : Nat} {x : DataW H × List MemPlace} (h : DataW.trod enc Try.prog w 0 (fun _ => true) held fuel 29 [.slice a len cap] = some x) :
    ∃ xs : List Int, xs.length = len ∧ Row w a cap xs :=
  open_rows Try.underlying29 Try.cells3 (fun n a cs x h1 h2 => E_int n a cs x h1 h2) h
set_option maxRecDepth 100000 in
/-- two cells that read as a term and variables -/
theorem open_into {n : Nat} {cs : List Value} {x : DataW H × List MemPlace} (h : DataW.trod enc Try.prog w 0 (fun _ => true) held n 31 cs = some x) :
    ∃ (t : List Cel) (a : Option Addr) (cap : Nat) (vs : List Int) (a' : Option Addr) (cap' : Nat), cs = [.slice a t.length cap, .slice a' vs.length cap'] ∧ Row w a cap t ∧ Row w a' cap' vs := by
  obtain ⟨ys, m, _, _, hlen, hyl, hf⟩ := DataW.trod_struct Try.underlying31 h
  rw [Try.cells31] at hlen
  match cs, hlen with
  | [v0, v1], _ =>
    have h0 : DataW.trod enc Try.prog w 0 (fun _ => true) held m 22 (([v0, v1].drop 0).take (Try.prog.cellsOf 22)) = ys[0]? := hf 0 _ rfl
    have h1 : DataW.trod enc Try.prog w 0 (fun _ => true) held m 29 (([v0, v1].drop 1).take (Try.prog.cellsOf 29)) = ys[1]? := hf 1 _ rfl
    rw [Try.cells22] at h0
    rw [Try.cells29] at h1
    have hy : ∀ i : Nat, i < 2 → ∃ y, ys[i]? = some y := fun i hi => ⟨_, List.getElem?_eq_getElem (by rw [hyl]; exact hi)⟩
    obtain ⟨y0, e0⟩ := hy 0 (by omega)
    obtain ⟨y1, e1⟩ := hy 1 (by omega)
    rw [e0] at h0
    rw [e1] at h1
    have h0' : DataW.trod enc Try.prog w 0 (fun _ => true) held m 22 [v0] = some y0 := by simpa using h0
    have h1' : DataW.trod enc Try.prog w 0 (fun _ => true) held m 29 [v1] = some y1 := by simpa using h1
    have hv0 : ∃ a' len cap, v0 = .slice a' len cap := by
      rcases open_slice Try.underlying22 h0' with ⟨hcs, _⟩ | ⟨ad, l, c, m, n, D, Pl, hcs, _⟩
      · simp at hcs; exact ⟨_, _, _, hcs⟩
      · simp at hcs; exact ⟨_, _, _, hcs⟩
    have hv1 : ∃ a' len cap, v1 = .slice a' len cap := by
      rcases open_slice Try.underlying29 h1' with ⟨hcs, _⟩ | ⟨ad, l, c, m, n, D, Pl, hcs, _⟩
      · simp at hcs; exact ⟨_, _, _, hcs⟩
      · simp at hcs; exact ⟨_, _, _, hcs⟩
    obtain ⟨a0, len0, cap0, rfl⟩ := hv0
    obtain ⟨a1, len1, cap1, rfl⟩ := hv1
    obtain ⟨xs, rfl, hr⟩ := open_cells h0'
    obtain ⟨vs, rfl, hr2⟩ := open_ints h1'
    exact ⟨xs, a0, cap0, vs, a1, cap1, rfl, hr, hr2⟩
end
end Go.Proofs.Ytfcebbfphjbkoaa
namespace Go.Proofs.Ytfcebbfphjbkoaa
open Go.RowKit Go.ChangeShapes Go.WideShapes Go.ChangeAt
open Go.ChangeMaps (open_string)

set_option maxRecDepth 100000 in
set_option maxHeartbeats 1000000 in
theorem SubstTells_lifted (os : Os) (started : os.Started) (H : Type) (enc : TypeId × Value → H) :
    ReturnsInHanded {} Try.checked os 4 .any (Rows.substTellsSpec.pre6 enc Try.prog Try.f4 Rows.substTellsRow.domain false) (Rows.substTellsSpec.post enc Try.prog Try.f4 false true false false) := by
  refine returnsInHanded_of_change (C := Try.checked) Try.own started (by kernel_rfl) Try.func4
    (ChangeSpec.witness6 (enc := enc) (C := Try.checked) false ⟨#[], #[.slice none 0 0, .slice none 0 0, .agg #[.slice none 0 0, .slice none 0 0]], []⟩ 8 (by kernel_rfl) (by kernel_rfl) (by kernel_rfl) (by kernel_rfl)) ?_
  intro W base args ds gs before hval0 hW hcnd _
  have hval : ∀ (j : Nat) t v, Try.f4.params[j]? = some t → args[j]? = some v → Value.okWide Try.prog W .any base t v := hval0
  have hW' := hW
  obtain ⟨p, q, hA0, hV, rfl, hfz, hnd⟩ := hW
  have hA : DataW.TrodAll enc Try.prog W 0 (fun _ => true) true Try.f4.params.toList args.toList ds p := hA0
  rw [Try.params4] at hA hval
  obtain ⟨v0, vs0, d0, ds0, p0, q0, hargs, rfl, rfl, h0, r0⟩ := trodAll_cons hA
  obtain ⟨v1, vs1, d1, ds1, p1, q1, rfl, rfl, rfl, h1, r1⟩ := trodAll_cons r0
  obtain ⟨v2, vs2, d2, ds2, p2, q2, rfl, rfl, rfl, h2, r2⟩ := trodAll_cons r1
  obtain ⟨rfl, rfl, rfl⟩ := trodAll_nil r2
  obtain rfl : args = #[v0, v1, v2] := by cases args; simp_all
  obtain ⟨rfl, rfl⟩ := trodVars_none hV
  have k0 := h0
  have lt0 : ∀ x ∈ p0, x.block < W.heap.size := by obtain ⟨m, hm⟩ := k0; exact DataW.trod_lt m _ _ _ hm
  obtain ⟨a0, len0, cap0, rfl⟩ := okWide_slice Try.underlying28 (hval 0 28 v0 rfl rfl)
  obtain ⟨xs0, rfl, hr0⟩ : ∃ xs : List Bnd, xs.length = len0 ∧ Row W a0 cap0 xs := by
    obtain ⟨fuel, hf⟩ := h0
    exact open_binds hf
  have k1 := h1
  have lt1 : ∀ x ∈ p1, x.block < W.heap.size := by obtain ⟨m, hm⟩ := k1; exact DataW.trod_lt m _ _ _ hm
  obtain ⟨a1, len1, cap1, rfl⟩ := okWide_slice Try.underlying28 (hval 1 28 v1 rfl rfl)
  obtain ⟨xs1, rfl, hr1⟩ : ∃ xs : List Bnd, xs.length = len1 ∧ Row W a1 cap1 xs := by
    obtain ⟨fuel, hf⟩ := h1
    exact open_binds hf
  have k2 := h2
  have lt2 : ∀ x ∈ p2, x.block < W.heap.size := by obtain ⟨m, hm⟩ := k2; exact DataW.trod_lt m _ _ _ hm
  obtain ⟨xs2, a2, cap2, ys2, b2, kap2, rfl, hr2, hs2⟩ : ∃ (t : List Cel) (a : Option Addr) (cap : Nat) (vs : List Int) (a' : Option Addr) (cap' : Nat), v2 = .agg #[.slice a t.length cap, .slice a' vs.length cap'] ∧ Row W a cap t ∧ Row W a' cap' vs := by
    obtain ⟨cs, rfl, _⟩ := okWide_struct Try.underlying31 (hval 2 31 v2 rfl rfl)
    obtain ⟨fuel, hf⟩ := h2
    obtain ⟨t, a, cap, vs, a', cap', hc, h1, h2⟩ := open_into hf
    refine ⟨t, a, cap, vs, a', cap', ?_, h1, h2⟩
    obtain ⟨l⟩ := cs
    have hc' : l = _ := hc
    rw [hc']
  clear hA0 hval0
  refine (lawTells2_any W xs0 xs1 xs2 ys2 a0 cap0 a1 cap1 a2 cap2 b2 kap2 hr0 hr1 hr2 hs2).mono fun e W' ⟨he, bel⟩ => ?_
  subst he
  exact ⟨_, rfl, _, _, _, [], _, [], hW', trodAll_mk1 (shut_bool Try.underlying4 _), (trodAll_cons_mk (Below.trod Try.laidOut (by kernel_rfl) (of_decide_eq_true (by kernel_rfl)) k0 bel lt0) (trodAll_cons_mk (Below.trod Try.laidOut (by kernel_rfl) (of_decide_eq_true (by kernel_rfl)) k1 bel lt1) (trodAll_cons_mk (Below.trod Try.laidOut (by kernel_rfl) (of_decide_eq_true (by kernel_rfl)) k2 bel lt2) trodAll_mk0))), rfl, bel.frame _, fun h => by cases h⟩

theorem SubstTells_over : Rows.substTellsRow.holds Try.pinned (OpenSpec.ofChange Rows.substTellsSpec) :=
  OpenClaim.holds_of_wide 4 Try.f4 rfl rfl rfl rfl rfl rfl rfl ⟨rfl, rfl, rfl, rfl, rfl⟩ rfl rfl rfl rfl rfl (by kernel_rfl) Try.func4 (by kernel_rfl)
    (of_decide_eq_true (by kernel_rfl)) (by unfold Func.isWrapper; first | (rw [if_pos (by decide +kernel)]; kernel_rfl) | (rw [if_neg (by decide +kernel)]; exact ⟨rfl, rfl⟩))
    (fun os started H enc _ => SubstTells_lifted os started H enc)

theorem SubstTells_holds : Rows.SubstTellsSaid := SubstTells_over
end Go.Proofs.Ytfcebbfphjbkoaa
