/-
  Of layer 2 of sorrel: whatever row of cells and two numbers come in, the law SubstSwap returns true, and all reads as it did: two variables are swapped by two bindings, all at a time; done twice each term is as it was; and that is not idempotent. No condition.
-/
import Derived.Test.YtfcebbfphjbkoaaZs6
import Derived.Deep.Slices
import Derived.Deep.Fields
import Derived.ChangeSame
import Derived.ProofKit
import Derived.OpenShut
import Derived.ShutString
import Derived.ChangeOld
import Derived.Lib.SmallJoins
namespace Go.Proofs.Ytfcebbfphjbkoaa
open Go.RowKit

/-- what the document's May says -/
structure MayS (s : List Bnd) (t : List Cel) : Prop where
  rs : rightS s = true
  rt : rightB t = true
  l : t.length ≤ 200
  n : s.length ≤ 30
  T : ∀ b ∈ s, b.t.length ≤ 200
  e : lookL s = look s
  ok : okF (look s)
theorem right_le {t : List Cel} (h : rightB t = true) : t.length ≤ 200 := (right_iff.1 h).1
theorem rightS_T {s : List Bnd} (h : rightS s = true) : ∀ b ∈ s, b.t.length ≤ 200 := fun b hb => right_le (rightG_mem h b hb).2.2.1
theorem may_spec {s : List Bnd} {t : List Cel} (h : mayB s t = true) : MayS s t := by
  unfold mayB fewB at h
  simp only [Bool.and_eq_true, decide_eq_true_eq] at h
  exact ⟨h.1.2, h.2, right_le h.2, h.1.1.2.2, rightS_T h.1.2, lookL_eq (rightG_rise h.1.2), okF_look h.1.2⟩
theorem putC_le2 {s : List Bnd} (h : ∀ b ∈ s, b.t.length ≤ 200) (c : Cel) : (putC (look s) c).length ≤ 200 := by
  unfold putC
  split
  · cases hl : look s c.n with
    | none => simp
    | some t =>
      obtain ⟨b, hb, _, rfl⟩ := look_mem hl
      simpa using h b hb
  · simp
theorem putL_le2 {s : List Bnd} (h : ∀ b ∈ s, b.t.length ≤ 200) (t : List Cel) : (putL (look s) t).length ≤ 200 * t.length := by
  induction t with
  | nil => simp [putL]
  | cons c t ih =>
    have := putC_le2 h c
    rw [putL_cons, List.length_append, List.length_cons]; omega
section lit
variable {w : World} {a a' : Option Addr} {cap cap' : Nat}
theorem may_lit {xs : List Bnd} {ys : List Cel} {b : Bool} (hx : Row w a cap xs) (hy : Row w a' cap' ys) (hb : mayB xs ys = b) :
    Calls Try.prog 20 #[.slice a xs.length cap, .slice a' ys.length cap'] w fun e w' => e = .returned (.bool b) ∧ Below w.heap.size w w' := by
  subst hb; exact may2_any a cap a' cap' w xs ys hx hy
/-- put in, in terms of the first binding -/
theorem apply_yes {xs : List Bnd} {ys : List Cel} (hx : Row w a cap xs) (hy : Row w a' cap' ys) (hl : xs.length ≤ 1000000) (hl2 : ys.length ≤ 10000) (he : lookL xs = look xs) (ho : outB (look xs) ys = true) :
    Calls Try.prog 21 #[.slice a xs.length cap, .slice a' ys.length cap'] w fun e w' => ∃ a2 cap2, e = .returned (.tuple #[.slice a2 (putL (look xs) ys).length cap2, .bool true]) ∧ NewRow w.heap.size w' a2 cap2 (putL (look xs) ys) ∧ Below w.heap.size w w' := by
  have h := applysub_any a cap a' cap' w xs ys hx hy hl hl2
  rw [he, ho, show outL (look xs) ys = putL (look xs) ys by unfold outL; rw [if_pos ho]] at h
  exact h
theorem apply_no {xs : List Bnd} {ys : List Cel} (hx : Row w a cap xs) (hy : Row w a' cap' ys) (hl : xs.length ≤ 1000000) (hl2 : ys.length ≤ 10000) (he : lookL xs = look xs) (ho : outB (look xs) ys = false) :
    Calls Try.prog 21 #[.slice a xs.length cap, .slice a' ys.length cap'] w fun e w' => ∃ a2 cap2, e = .returned (.tuple #[.slice a2 0 cap2, .bool false]) ∧ NewRow w.heap.size w' a2 cap2 ([] : List Cel) ∧ Below w.heap.size w w' := by
  have h := applysub_any a cap a' cap' w xs ys hx hy hl hl2
  rw [he, ho, show outL (look xs) ys = [] by unfold outL; rw [if_neg (by simp [ho])]] at h
  exact h
end lit

set_option maxHeartbeats 4000000 in
set_option maxRecDepth 100000 in
theorem lawLong_any (w : World) (xs : List Bnd) (ys : List Cel) (a : Option Addr) (cap : Nat) (a' : Option Addr) (cap' : Nat) (hx : Row w a cap xs) (hy : Row w a' cap' ys) :
    Calls Try.prog 11 #[.slice a xs.length cap, .slice a' ys.length cap'] w fun e w' => e = .returned (.bool true) ∧ Below w.heap.size w w' := by
  cases hM : mayB xs ys with
  | false =>
    have HM := mkHid hM
    clear hM
    go_enter Try.func11, Try.ntmps11
    go_wp2_with (first
      | (go_at_call 16; refine (head2_any _).mono ?_; rintro e w1 ⟨rfl, hb1⟩)
      | (go_at_call 20; refine (may_lit (hx.below hb1) (hy.below hb1) HM.out).mono ?_; rintro e w2 ⟨rfl, hb2⟩))
    go_ret
    exact ⟨rfl, hb1.then hb2⟩
  | true =>
    have hS := may_spec hM
    have HM := mkHid hM
    have HS := mkHid hS
    have hl := hS.l
    have hn := hS.n
    clear hM hS
    go_enter Try.func11, Try.ntmps11
    go_wp2_with (first
      | (go_at_call 16; refine (head2_any _).mono ?_; rintro e w1 ⟨rfl, hb1⟩)
      | (go_at_call 20; refine (may_lit (hx.below hb1) (hy.below hb1) HM.out).mono ?_; rintro e w2 ⟨rfl, hb2⟩; have hb02 := hb1.then hb2))
    go_loopw [6, 7, 8] (fun n i at_ wr => ∃ k : Nat, k ≤ ys.length ∧ i = .int .i64 k ∧ n = .int .i64 (putL (look xs) (ys.take k)).length ∧ Below w.heap.size w wr) (fun n i at_ wr => ys.length - (intOf i).toNat)
    case atStart => exact ⟨0, Nat.zero_le _, rfl, rfl, hb02⟩
    case round =>
      obtain ⟨k, hk, rfl, rfl, hbl⟩ := hrel
      have hle := putL_le2 HS.out.T (ys.take k)
      have hlk : (ys.take k).length ≤ k := List.length_take_le _ _
      by_cases hlt : k < ys.length
      · obtain ⟨b, off, rfl, hb, hat⟩ := hy.cases.resolve_left (fun e => by simp [e] at hlt)
        obtain ⟨c0, c1, c2, hf⟩ := cel_at hat hbl hlt
        have HP := mkHid (putL_snoc (look xs) ys k hlt)
        by_cases h1 : ys[k].k = 1
        · have t1 : (ys[k].k == 1) = true := by simp [h1]
          rcases place_look xs ys[k].n with ⟨hp, hlk2, _⟩ | ⟨i, hi, hp, _, hlk2⟩
          · have HC : Hid ((putL (look xs) (ys.take (k + 1))).length = (putL (look xs) (ys.take k)).length + 1) := by
              rw [Hid, HP.out, List.length_append]; unfold putC; rw [if_pos h1, hlk2]; rfl
            have HQ := mkHid hp
            clear h1 hp hlk2
            go_wp2_with (go_at_call 36; refine (place2_any _ cap _ _ xs (hx.below hbl)).mono ?_; rintro e w3 ⟨rfl, hb3⟩; rw [HQ.out])
            go_round
            case rel => exact ⟨k + 1, by omega, by go_num, by rw [HC.out]; go_num, hbl.then hb3⟩
            case measure => simp [intOf]; omega
          · have HC : Hid ((putL (look xs) (ys.take (k + 1))).length = (putL (look xs) (ys.take k)).length + xs[i].t.length) := by
              rw [Hid, HP.out, List.length_append]; unfold putC; rw [if_pos h1, hlk2]; rfl
            have HQ := mkHid hp
            have hTi := HS.out.T xs[i] (List.getElem_mem hi)
            obtain ⟨b', off', rfl, hb', hat'⟩ := hx.cases.resolve_left (fun e => by simp [e] at hi)
            clear h1 hp hlk2
            go_wp2_with (go_at_call 36; refine (place2_any _ cap _ _ xs (hx.below hbl)).mono ?_; rintro e w3 ⟨rfl, hb3⟩; rw [HQ.out]; obtain ⟨a1, cap1, d0, d1, hr1, _, _⟩ := bnd_at hat' (hbl.then hb3) hi)
            go_round
            case rel => exact ⟨k + 1, by omega, by go_num, by rw [HC.out]; go_num, hbl.then hb3⟩
            case measure => simp [intOf]; omega
        · have t1 : (ys[k].k == 1) = false := by simp [h1]
          have HC : Hid ((putL (look xs) (ys.take (k + 1))).length = (putL (look xs) (ys.take k)).length + 1) := by
            rw [Hid, HP.out, List.length_append]; unfold putC; rw [if_neg h1]; rfl
          clear h1
          go_wp2
          go_round
          case rel => exact ⟨k + 1, by omega, by go_num, by rw [HC.out]; go_num, hbl⟩
          case measure => simp [intOf]; omega
      · rw [List.take_of_length_le (by omega)] at *
        cases hO : outB (look xs) ys with
        | true =>
          have h200 := outB_iff.1 hO
          have HO := mkHid hO
          clear hO
          go_wp2_with (go_at_call 21; refine (apply_yes (hx.below hbl) (hy.below hbl) (by omega) (by omega) HS.out.e HO.out).mono ?_; rintro e w3 ⟨a3, cap3, rfl, r3, hb3⟩)
          go_ret
          exact ⟨rfl, hbl.then hb3⟩
        | false =>
          have h200 : ¬ (putL (look xs) ys).length ≤ 200 := fun h => by rw [outB_iff.2 h] at hO; cases hO
          have HO := mkHid hO
          clear hO
          go_wp2_with (go_at_call 21; refine (apply_no (hx.below hbl) (hy.below hbl) (by omega) (by omega) HS.out.e HO.out).mono ?_; rintro e w3 ⟨a3, cap3, rfl, r3, hb3⟩)
          go_ret
          exact ⟨ret_bool (by simp; omega), hbl.then hb3⟩
end Go.Proofs.Ytfcebbfphjbkoaa
namespace Go.Proofs.Ytfcebbfphjbkoaa
open Go.RowKit

/-! ### the mathematics of composing -/
theorem look_inj {s s' : List Bnd} (h : s.Pairwise fun x y => x.v < y.v) (h' : s'.Pairwise fun x y => x.v < y.v) (e : look s = look s') : s = s' :=
  rise_ext h h' fun ⟨n, t⟩ => by rw [← look_iff h, ← look_iff h', e]
/-- a composition and what it is -/
structure CmS (a b L : List Bnd) : Prop where
  rs : rightS L = true
  e : lookL L = look L
  k : look L = cleanF (compF (look a) (look b))
  n : L.length ≤ a.length + b.length
  T : ∀ b ∈ L, b.t.length ≤ 200
  ok : okF (look L)
theorem cm_length (a b : List Bnd) : (cmL a b).length ≤ a.length + b.length := by
  unfold cmL cleanL restB
  refine Nat.le_trans (List.length_filter_le _ _) ?_
  rw [List.length_append, List.length_map]
  have := List.length_filter_le (fun x : Bnd => !(lookL a x.v).isSome) b
  have := List.length_filter_le (fun x : Bnd => (lookL a x.v).isNone) b
  first
    | omega
    | exact Nat.add_le_add_left (List.length_filter_le _ _) _
theorem cm_spec {a b L : List Bnd} (ha : rightS a = true) (hb : rightS b = true) (hB : cmB a b = true) (hp : L.Perm (cmL a b)) (hr : risesB L) : CmS a b L := by
  have hL := cm_right ha hb hB hp hr
  exact ⟨hL, lookL_eq (rightG_rise hL), cm_look (rightG_rise ha) (rightG_rise hb) hp hr, by rw [hp.length_eq]; exact cm_length a b, rightS_T hL, okF_look hL⟩
theorem CmS.put {a b L : List Bnd} (h : CmS a b L) {l : List Cel} (hl : ∀ c ∈ l, cellOk c = true) : putL (look L) l = putL (look b) (putL (look a) l) :=
  put_put (fun n _ _ => by rw [h.k, sub_clean, sub_comp]) hl
theorem CmS.ext {a b L a' b' L' : List Bnd} (h : CmS a b L) (h' : CmS a' b' L') (e : cleanF (compF (look a) (look b)) = cleanF (compF (look a') (look b'))) : L = L' :=
  look_inj (rightG_rise h.rs) (rightG_rise h'.rs) (by rw [h.k, h'.k, e])
theorem clean_sub (f : Int → Option (List Cel)) (n : Int) : cleanF f n = if subF f n = [varC n] then none else some (subF f n) := by
  unfold cleanF subF ownB
  cases f n with
  | none => simp
  | some t => simp
theorem clean_ext {f g : Int → Option (List Cel)} (h : ∀ n, subF f n = subF g n) : cleanF f = cleanF g := by
  funext n; rw [clean_sub, clean_sub, h]
theorem comp_assoc {f g h : Int → Option (List Cel)} (hf : okF f) : cleanF (compF (cleanF (compF f g)) h) = cleanF (compF f (cleanF (compF g h))) := by
  refine clean_ext fun n => ?_
  rw [sub_comp, sub_clean, sub_comp, sub_comp]
  cases hn : f n with
  | none =>
    have e : subF f n = [varC n] := by unfold subF; rw [hn]; rfl
    rw [e, put_var, put_var, sub_clean, sub_comp]
  | some t =>
    have e : subF f n = t := by unfold subF; rw [hn]; rfl
    rw [e]
    exact (put_put (fun m _ _ => by rw [sub_clean, sub_comp]) (right_cells (hf n t hn))).symm
theorem put_none (t : List Cel) : putL (look []) t = t := by
  induction t with
  | nil => rfl
  | cons c t ih =>
    rw [putL_cons, ih]
    unfold putC; split <;> rfl
theorem clean_look {a : List Bnd} (ha : rightS a = true) : cleanF (look a) = look a := by
  funext n
  unfold cleanF
  cases h : look a n with
  | none => rfl
  | some t =>
    have := (rightG_mem ha _ (look_some h)).2.2.2
    simp [this]
theorem comp_nil {a : List Bnd} : compF (look a) (look []) = look a := by
  funext n
  unfold compF
  cases look a n with
  | none => rfl
  | some t => simp [put_none]
theorem nil_comp {a : List Bnd} : compF (look []) (look a) = look a := by
  funext n; rfl
theorem CmS.nil_right {a L : List Bnd} (ha : rightS a = true) (h : CmS a [] L) : L = a :=
  look_inj (rightG_rise h.rs) (rightG_rise ha) (by rw [h.k, comp_nil, clean_look ha])
theorem CmS.nil_left {a L : List Bnd} (ha : rightS a = true) (h : CmS [] a L) : L = a :=
  look_inj (rightG_rise h.rs) (rightG_rise ha) (by rw [h.k, nil_comp, clean_look ha])
theorem cmB_nil {a : List Bnd} (ha : rightS a = true) : cmB a [] = true := by
  unfold cmB
  refine List.all_eq_true.2 fun x hx => ?_
  rw [show lookL [] = look [] from rfl, outB_iff, put_none]
  exact rightS_T ha x hx
section lit
variable {w : World} {a a' : Option Addr} {cap cap' n m : Nat}
theorem compose_yes {xs ys : List Bnd} (hn : n = xs.length) (hx : Row w a cap xs) (hm : m = ys.length) (hy : Row w a' cap' ys) (ha : rightS xs = true) (hb : rightS ys = true) (hl : xs.length ≤ 1000) (hl2 : ys.length ≤ 1000) (hB : cmB xs ys = true) :
    Calls Try.prog 23 #[.slice a n cap, .slice a' m cap'] w fun e w' => ∃ a2 cap2 L, e = .returned (.tuple #[.slice a2 (List.length L) cap2, .bool true]) ∧ Row w' a2 cap2 L ∧ CmS xs ys L ∧ Below w.heap.size w w' := by
  subst hn; subst hm
  refine (composesub_any a cap a' cap' w xs ys hx hy (by omega) (by omega) (fun b h => by have := rightS_T ha b h; omega) (fun b h => by have := rightS_T hb b h; omega)).mono fun e w' ⟨hb2, h⟩ => ?_
  rcases h with ⟨h, _⟩ | ⟨_, a2, cap2, L, he, hrow, hpl, hri⟩
  · rw [hB] at h; cases h
  · exact ⟨a2, cap2, L, he, hrow, cm_spec ha hb hB hpl hri, hb2⟩
theorem compose_no {xs ys : List Bnd} (hn : n = xs.length) (hx : Row w a cap xs) (hm : m = ys.length) (hy : Row w a' cap' ys) (ha : rightS xs = true) (hb : rightS ys = true) (hl : xs.length ≤ 1000) (hl2 : ys.length ≤ 1000) (hB : cmB xs ys = false) :
    Calls Try.prog 23 #[.slice a n cap, .slice a' m cap'] w fun e w' => e = .returned (.tuple #[.slice none 0 0, .bool false]) ∧ Below w.heap.size w w' := by
  subst hn; subst hm
  refine (composesub_any a cap a' cap' w xs ys hx hy (by omega) (by omega) (fun b h => by have := rightS_T ha b h; omega) (fun b h => by have := rightS_T hb b h; omega)).mono fun e w' ⟨hb2, h⟩ => ?_
  rcases h with ⟨_, h⟩ | ⟨h, _⟩
  · exact ⟨h, hb2⟩
  · rw [hB] at h; cases h
end lit
end Go.Proofs.Ytfcebbfphjbkoaa
namespace Go.Proofs.Ytfcebbfphjbkoaa
open Go.RowKit

/-! ### the mathematics of what is put in twice -/
/-- no cell is changed -/
def calm (f : Int → Option (List Cel)) (t : List Cel) : Prop := ∀ c ∈ t, putC f c = [c]
theorem put_calm {f : Int → Option (List Cel)} {t : List Cel} (h : calm f t) : putL f t = t := by
  induction t with
  | nil => rfl
  | cons c t ih => rw [putL_cons, h c (by simp), ih fun d hd => h d (by simp [hd])]; rfl
theorem calm_put {f : Int → Option (List Cel)} (hf : okF f) {t : List Cel} (h : putL f t = t) : calm f t := by
  induction t with
  | nil => intro c hc; simp at hc
  | cons c t ih =>
    rw [putL_cons] at h
    have h1 := putC_pos hf c
    have h2 := put_grows hf t
    have h3 : (putC f c).length + (putL f t).length = t.length + 1 := by rw [← List.length_append, h]; rfl
    have h4 : (putC f c).length = 1 := by omega
    obtain ⟨d, hd⟩ := List.length_eq_one_iff.1 h4
    rw [hd] at h
    have h5 := List.cons.inj h
    have h6 := ih h5.2
    intro e he
    rcases List.mem_cons.1 he with rfl | he
    · rw [hd, h5.1]
    · exact h6 e he
theorem calm_free {s : List Bnd} (hs : rightS s = true) {t : List Cel} (ht : ∀ c ∈ t, cellOk c = true) : calm (look s) t ↔ freeB s t = true := by
  unfold calm freeB
  rw [List.all_eq_true]
  refine forall_congr' fun c => forall_congr' fun hc => ?_
  by_cases h1 : c.k = 1
  · have hv := cellOk_var (ht c hc) h1
    unfold putC
    rw [if_pos h1]
    cases h : look s c.n with
    | none => simp
    | some u =>
      simp only [Option.getD_some, h1, BEq.rfl, Option.isSome_some, Bool.and_self, Bool.not_true, Bool.false_eq_true, iff_false]
      intro e
      have := (rightG_mem hs _ (look_some h)).2.2.2
      rw [e, hv] at this
      simp [ownB, varC] at this
  · unfold putC
    rw [if_neg h1]
    simp [h1]
theorem free_vars (s : List Bnd) (t : List Cel) : freeB s t = !anyV (look s) (varsL t) := by
  rw [Bool.eq_iff_iff]
  unfold freeB anyV
  simp only [List.all_eq_true, Bool.not_eq_true', Bool.and_eq_false_iff, List.any_eq_false, beq_eq_false_iff_ne, ne_eq]
  constructor
  · intro h n hn
    rcases mem_vars_of t [] n hn with hn | ⟨c, hc, h1, rfl⟩
    · simp at hn
    · rcases h c hc with h2 | h2
      · exact absurd h1 h2
      · simp [h2]
  · intro h c hc
    by_cases h1 : c.k = 1
    · right
      have := h c.n (mem_varsL hc h1)
      simpa using this
    · exact .inl h1
theorem idem_same {s : List Bnd} (hs : rightS s = true) : idemL s = idemB s := by
  rw [idem_eq]
  unfold idemL
  rw [lookL_eq (rightG_rise hs)]
  congr 1
  funext b
  rw [free_vars]
/-- just those of which each part stays -/
theorem idem_iff {s : List Bnd} (hs : rightS s = true) : idemL s = true ↔ ∀ b ∈ s, putL (look s) b.t = b.t := by
  rw [idem_same hs, idem_eq, List.all_eq_true]
  refine forall_congr' fun b => forall_congr' fun hb => ?_
  rw [← calm_free hs (right_cells (rightG_mem hs b hb).2.2.1)]
  exact ⟨put_calm, calm_put (okF_look hs)⟩
theorem idem_sub {s : List Bnd} (h : ∀ b ∈ s, putL (look s) b.t = b.t) (n : Int) : putL (look s) (subF (look s) n) = subF (look s) n := by
  cases hn : look s n with
  | none =>
    have e : subF (look s) n = [varC n] := by unfold subF; rw [hn]; rfl
    rw [e, put_var, e]
  | some t =>
    have e : subF (look s) n = t := by unfold subF; rw [hn]; rfl
    rw [e]; exact h _ (look_some hn)
theorem idem_twice {s : List Bnd} (h : ∀ b ∈ s, putL (look s) b.t = b.t) {t : List Cel} (ht : ∀ c ∈ t, cellOk c = true) : putL (look s) (putL (look s) t) = putL (look s) t :=
  (put_put (fun n _ _ => (idem_sub h n).symm) ht).symm
theorem idem_cmB {s : List Bnd} (hs : rightS s = true) (h : ∀ b ∈ s, putL (look s) b.t = b.t) : cmB s s = true := by
  unfold cmB
  refine List.all_eq_true.2 fun x hx => ?_
  rw [lookL_eq (rightG_rise hs), outB_iff, h x hx]
  exact rightS_T hs x hx
theorem CmS.idem {s L : List Bnd} (hs : rightS s = true) (h : ∀ b ∈ s, putL (look s) b.t = b.t) (hC : CmS s s L) : L = s := by
  refine look_inj (rightG_rise hC.rs) (rightG_rise hs) ?_
  have e : cleanF (compF (look s) (look s)) = cleanF (look s) := clean_ext fun n => by rw [sub_comp, idem_sub h]
  rw [hC.k, e, clean_look hs]
end Go.Proofs.Ytfcebbfphjbkoaa
namespace Go.Proofs.Ytfcebbfphjbkoaa
open Go.RowKit

/-! ### two variables swapped -/
def swapL (p q : Int) : List Bnd := [⟨p, [varC q]⟩, ⟨q, [varC p]⟩]
theorem right_var {n : Int} (h0 : 0 ≤ n) (h9 : n ≤ 999) : rightB [varC n] = true :=
  subF_right (f := look []) (fun n t h => by simp [look_nil] at h) (n := n) h0 h9
section
variable {p q : Int} (h0 : 0 ≤ p) (hpq : p < q) (h9 : q ≤ 999)
include h0 hpq h9
theorem swap_right : rightS (swapL p q) = true := by
  unfold rightS swapL
  refine rightG_of (fun b hb => ?_) ?_
  · simp only [List.mem_cons, List.not_mem_nil, or_false] at hb
    rcases hb with rfl | rfl
    · exact ⟨h0, by show p ≤ 999; omega, right_var (by omega) h9, by simp [ownB, varC]; omega⟩
    · exact ⟨by show (0 : Int) ≤ q; omega, h9, right_var h0 (by omega), by simp [ownB, varC]; omega⟩
  · simp [hpq]
theorem swap_look (n : Int) : look (swapL p q) n = if p = n then some [varC q] else if q = n then some [varC p] else none := by
  have _used := And.intro h0 (And.intro hpq h9)
  unfold swapL; rw [look_cons, look_cons, look_nil]
theorem swap_sub (n : Int) : subF (look (swapL p q)) n = if p = n then [varC q] else if q = n then [varC p] else [varC n] := by
  unfold subF; rw [swap_look h0 hpq h9]
  split
  · rfl
  · split <;> rfl
theorem swap_sub2 (n : Int) : putL (look (swapL p q)) (subF (look (swapL p q)) n) = [varC n] := by
  rw [swap_sub h0 hpq h9]
  split
  · next e => subst e; rw [put_var, swap_sub h0 hpq h9, if_neg (by omega), if_pos rfl]
  · split
    · next e => subst e; rw [put_var, swap_sub h0 hpq h9, if_pos rfl]
    · next h1 h2 => rw [put_var, swap_sub h0 hpq h9, if_neg h1, if_neg h2]
theorem swap_len (t : List Cel) : (putL (look (swapL p q)) t).length = t.length := by
  induction t with
  | nil => rfl
  | cons c t ih =>
    rw [putL_cons, List.length_append, ih, List.length_cons]
    have : (putC (look (swapL p q)) c).length = 1 := by
      unfold putC
      split
      · rw [swap_look h0 hpq h9]
        split
        · rfl
        · split <;> rfl
      · rfl
    omega
theorem swap_twice {t : List Cel} (ht : ∀ c ∈ t, cellOk c = true) : putL (look (swapL p q)) (putL (look (swapL p q)) t) = t := by
  rw [← put_put (h := look []) (fun n _ _ => by rw [swap_sub2 h0 hpq h9]; rfl) ht, put_none]
theorem swap_idem : idemL (swapL p q) = false := by
  rw [Bool.eq_false_iff, Ne, idem_iff (swap_right h0 hpq h9)]
  intro h
  have h1 := h ⟨p, [varC q]⟩ (by simp [swapL])
  rw [put_var, swap_sub h0 hpq h9, if_neg (by omega), if_pos rfl] at h1
  simp [varC] at h1; omega
theorem swap_cmB : cmB (swapL p q) (swapL p q) = true := by
  unfold cmB
  refine List.all_eq_true.2 fun x hx => ?_
  rw [lookL_eq (rightG_rise (swap_right h0 hpq h9)), outB_iff, swap_len h0 hpq h9]
  exact rightS_T (swap_right h0 hpq h9) x hx
theorem swap_none {L : List Bnd} (hC : CmS (swapL p q) (swapL p q) L) : L = [] := by
  refine look_inj (rightG_rise hC.rs) List.Pairwise.nil ?_
  rw [hC.k]
  funext n
  rw [clean_sub, sub_comp, swap_sub2 h0 hpq h9]
  simp [look_nil]
end
end Go.Proofs.Ytfcebbfphjbkoaa
namespace Go.Proofs.Ytfcebbfphjbkoaa
open Go.RowKit

/-- the facts of two variables swapped, without what they are -/
structure SwapS (S : List Bnd) (ts T : List Cel) : Prop where
  len : 2 = S.length
  rs : rightS S = true
  e : lookL S = look S
  p1 : putL (look S) ts = T
  p2 : putL (look S) T = ts
  l : T.length = ts.length
  o1 : outB (look S) ts = true
  o2 : outB (look S) T = true
  i : idemL S = false
  b : cmB S S = true
  n : ∀ L, CmS S S L → L = []
  t : ∀ b ∈ S, b.t.length ≤ 1000
theorem swap_spec {p q : Int} {ts : List Cel} (h0 : 0 ≤ p) (hlt : p < q) (h9 : q ≤ 999) (hr : rightB ts = true) : SwapS (swapL p q) ts (putL (look (swapL p q)) ts) := by
  have hS := swap_right h0 hlt h9
  have hl := right_le hr
  have h2 := swap_len h0 hlt h9 ts
  have h3 := swap_twice h0 hlt h9 (right_cells hr)
  exact ⟨rfl, hS, lookL_eq (rightG_rise hS), rfl, h3, h2, by rw [outB_iff, h2]; exact hl, by rw [outB_iff, h3]; exact hl, swap_idem h0 hlt h9, swap_cmB h0 hlt h9, fun L hC => swap_none h0 hlt h9 hC, fun b hb => by have := rightS_T hS b hb; omega⟩
theorem apply_lit2 {w : World} {a a' : Option Addr} {cap cap' n m q : Nat} {xs : List Bnd} {ys T : List Cel} (hn : n = xs.length) (hx : Row w a cap xs) (hm : m = ys.length) (hy : Row w a' cap' ys) (hl : xs.length ≤ 1000000) (hl2 : ys.length ≤ 10000) (he : lookL xs = look xs) (ho : outB (look xs) ys = true) (hT : putL (look xs) ys = T) (hq : q = T.length) :
    Calls Try.prog 21 #[.slice a n cap, .slice a' m cap'] w fun e w' => ∃ a2 cap2, e = .returned (.tuple #[.slice a2 q cap2, .bool true]) ∧ Row w' a2 cap2 T ∧ Below w.heap.size w w' := by
  subst hn; subst hm; subst hq; subst hT
  exact (apply_yes hx hy hl hl2 he ho).mono fun e w' ⟨a2, cap2, h, r, hb⟩ => ⟨a2, cap2, h, r.row, hb⟩

set_option maxHeartbeats 4000000 in
set_option maxRecDepth 100000 in
theorem lawSwap_any (w : World) (ts : List Cel) (a : Option Addr) (cap : Nat) (ht : Row w a cap ts) (n m : Int) (hn : (Lit.int .u16 n).wf = true) (hm : (Lit.int .u16 m).wf = true) :
    Calls Try.prog 12 #[.slice a ts.length cap, .int .u16 n, .int .u16 m] w fun e w' => e = .returned (.bool true) ∧ Below w.heap.size w w' := by
  have hn2 : 0 ≤ n ∧ n ≤ 65535 := by
    simp [Lit.wf, IntKind.min, IntKind.max, IntKind.signed, IntKind.bits] at hn
    omega
  have hm2 : 0 ≤ m ∧ m ≤ 65535 := by
    simp [Lit.wf, IntKind.min, IntKind.max, IntKind.signed, IntKind.bits] at hm
    omega
  obtain ⟨hn0, hn9⟩ := hn2
  obtain ⟨hm0, hm9⟩ := hm2
  clear hn hm
  by_cases h300 : ts.length ≤ 300
  case neg =>
    go_enter Try.func12, Try.ntmps12
    go_wp2_with fail
    refine (head2_any _).mono ?_; rintro e w1 ⟨rfl, hb⟩
    go_wp2_with fail
    go_ret
    exact ⟨rfl, hb⟩
  cases hR : rightB ts with
  | false =>
    have HR := mkHid hR
    clear hR
    go_enter Try.func12, Try.ntmps12
    go_wp2_with fail
    refine (head2_any _).mono ?_; rintro e w1 ⟨rfl, hb⟩
    go_wp2_with fail
    refine (refright_any a cap _ ts (ht.below hb)).mono ?_; rintro e w2 ⟨rfl, hb2⟩
    rw [HR.out]
    go_wp2_with fail
    go_ret
    exact ⟨rfl, hb.then hb2⟩
  | true =>
  have hl := right_le hR
  have HC := mkHid (right_cells hR)
  have HR := mkHid hR
  clear hR
  go_enter Try.func12, Try.ntmps12
  go_wp2_with fail
  refine (head2_any _).mono ?_; rintro e w1 ⟨rfl, hb⟩
  go_wp2_with fail
  refine (refright_any a cap _ ts (ht.below hb)).mono ?_; rintro e w2 ⟨rfl, hb2⟩
  rw [HR.out]
  replace hb := hb.then hb2
  have hd : decide ((300 : Int) < ts.length) = false := by simp; omega
  rw [hd]
  clear hd
  have hpq : ∃ p q : Int, p = min (n % 1000) (m % 1000) ∧ q = max (n % 1000) (m % 1000) := ⟨_, _, rfl, rfl⟩
  obtain ⟨p, q, hp, hq⟩ := hpq
  rw [← hp, ← hq]
  have h0 : 0 ≤ p := by omega
  have h1 : p ≤ q := by omega
  have h9 : q ≤ 999 := by omega
  clear hp hq
  by_cases he : p = q
  · subst he
    go_wp2_with fail
    go_ret
    exact ⟨rfl, hb⟩
  · have hlt : p < q := by omega
    have t1 : (p == q) = false := by simp [he]
    have hsp := swap_spec h0 hlt h9 HR.out
    go_wp2_with fail
    refine (v2_any _ _).mono ?_; rintro e w4 ⟨rfl, hb4⟩
    replace hb := hb.then hb4
    have x1 : Row (w4.alloc (.cells #[.int .i64 1, .string ⟨#[]⟩, .int .i64 q] 24)) (some ⟨w4.heap.size, 0, none⟩) 1 [varC q] := cells_new w4 [varC q] (fits_cons (varC_fit (by omega) (by omega)) fits_nil) (by simp)
    replace hb := hb.new (.cells #[.int .i64 1, .string ⟨#[]⟩, .int .i64 q] 24)
    go_wp2_with fail
    refine (v2_any _ _).mono ?_; rintro e w5 ⟨rfl, hb5⟩
    replace hb := hb.then hb5
    replace x1 := x1.below hb5
    have hbn : ∀ {z : World} {v : Array Value}, Below z.heap.size z (z.alloc (.cells v 24)) := fun {z} {v} => (Below.refl _ _).new _
    have x2 : Row (w5.alloc (.cells #[.int .i64 1, .string ⟨#[]⟩, .int .i64 p] 24)) (some ⟨w5.heap.size, 0, none⟩) 1 [varC p] := cells_new w5 [varC p] (fits_cons (varC_fit (by omega) (by omega)) fits_nil) (by simp)
    replace x1 := x1.below (hbn (v := #[.int .i64 1, .string ⟨#[]⟩, .int .i64 p]))
    replace hb := hb.new (.cells #[.int .i64 1, .string ⟨#[]⟩, .int .i64 p] 24)
    go_wp2_with fail
    have xs : Row ((w5.alloc (.cells #[.int .i64 1, .string ⟨#[]⟩, .int .i64 p] 24)).alloc (.cells #[.int .i64 p, .slice (some ⟨w4.heap.size, 0, none⟩) 1 1, .int .i64 q, .slice (some ⟨w5.heap.size, 0, none⟩) 1 1] 46)) (some ⟨w5.heap.size + 1, 0, none⟩) 2 (swapL p q) := by
      have h := binds_new (w5.alloc (.cells #[.int .i64 1, .string ⟨#[]⟩, .int .i64 p] 24)) #[.int .i64 p, .slice (some ⟨w4.heap.size, 0, none⟩) 1 1, .int .i64 q, .slice (some ⟨w5.heap.size, 0, none⟩) 1 1] [(⟨p, [varC q]⟩ : Bnd), (⟨q, [varC p]⟩ : Bnd)] (CRows.cons (bind_c x1 (by omega) (by omega)) (CRows.cons (bind_c x2 (by omega) (by omega)) (CRows.nil))) (by simp)
      rw [World.size_alloc] at h
      exact h
    clear x1 x2
    replace hb := hb.new (.cells #[.int .i64 p, .slice (some ⟨w4.heap.size, 0, none⟩) 1 1, .int .i64 q, .slice (some ⟨w5.heap.size, 0, none⟩) 1 1] 46)
    obtain ⟨T, hT⟩ : ∃ T, T = putL (look (swapL p q)) ts := ⟨_, rfl⟩
    rw [← hT] at hsp
    clear hT
    obtain ⟨S, hS⟩ : ∃ S, S = swapL p q := ⟨_, rfl⟩
    rw [← hS] at hsp xs
    clear hS
    have hS2 : S.length ≤ 2 := by have := hsp.len; omega
    have hTl : T.length ≤ 200 := by have := hsp.l; omega
    have HP := mkHid hsp
    clear hsp
    refine (apply_lit2 HP.out.len xs rfl (ht.below hb) (by omega) (by omega) HP.out.e HP.out.o1 HP.out.p1 HP.out.l.symm).mono ?_; rintro e w6 ⟨a6, cap6, rfl, r6, hb6⟩
    replace hb := hb.then hb6
    replace xs := xs.below hb6
    go_wp2_with fail
    with_reducible refine (apply_lit2 HP.out.len xs HP.out.l.symm r6 (by omega) (by omega) HP.out.e HP.out.o2 HP.out.p2 rfl).mono ?_
    rintro e w7 ⟨a7, cap7, rfl, r7, hb7⟩
    replace hb := hb.then hb7
    replace xs := xs.below hb7
    clear r6
    go_wp2_with fail
    with_reducible refine (compose_yes HP.out.len xs HP.out.len xs HP.out.rs HP.out.rs (by omega) (by omega) HP.out.b).mono ?_
    rintro e w8 ⟨a8, cap8, L, rfl, r8, hC, hb8⟩
    have hL := HP.out.n L hC
    clear hC
    subst hL
    clear r8
    replace hb := hb.then hb8
    replace xs := xs.below hb8
    replace r7 := r7.below hb8
    rw [List.length_nil]
    go_wp2_with fail
    with_reducible refine (rights_lit HP.out.len xs HP.out.rs).mono ?_
    rintro e w9 ⟨rfl, hb9⟩
    replace hb := hb.then hb9
    replace xs := xs.below hb9
    replace r7 := r7.below hb9
    go_wp2_with fail
    with_reducible refine (idem_lit HP.out.len xs (by omega) HP.out.t HP.out.i).mono ?_
    rintro e w10 ⟨rfl, hb10⟩
    replace hb := hb.then hb10
    replace r7 := r7.below hb10
    clear xs
    go_wp2_with fail
    with_reducible refine (refsame1_lit rfl r7 rfl (ht.below hb) (b := true) (by simp)).mono ?_
    rintro e w11 ⟨rfl, hb11⟩
    replace hb := hb.then hb11
    clear r7
    go_wp2_with fail
    go_ret
    exact ⟨rfl, hb⟩
end Go.Proofs.Ytfcebbfphjbkoaa
namespace Go.Proofs.Ytfcebbfphjbkoaa
open Go.RowKit Go.ChangeShapes Go.WideShapes Go.Deep Go.ChangeAt

theorem Try.own : ownKnob Try.prog.godebug = none := by kernel_rfl
theorem Try.laidOut : laidOutB Try.prog = true := by kernel_rfl
theorem Try.cells24 : Try.prog.cellsOf 24 = 3 := by kernel_rfl
theorem Try.cells22 : Try.prog.cellsOf 22 = 1 := by kernel_rfl
theorem Try.cells3 : Try.prog.cellsOf 3 = 1 := by kernel_rfl
theorem Try.cells9 : Try.prog.cellsOf 9 = 1 := by kernel_rfl

theorem i64_wf {n : Int} (h : (Lit.int .i64 n).wf = true) : -9223372036854775808 ≤ n ∧ n ≤ 9223372036854775807 := by
  simp [Lit.wf, IntKind.min, IntKind.max, IntKind.signed, IntKind.bits] at h
  omega
theorem add_lit (b o j : Nat) : (Addr.mk b o none).add j = ⟨b, o + j, none⟩ := by unfold Addr.add; split <;> simp_all

section
variable {H : Type} {enc : TypeId × Value → H} {w : World} {spare : Nat → Bool} {held : Bool}
set_option maxRecDepth 100000 in
/-- three cells that read as a cell of a term -/
theorem open_cell {n : Nat} {cs : List Value} {x : DataW H × List MemPlace} (h : DataW.trod enc Try.prog w 0 spare held n 24 cs = some x) :
    ∃ c : Cel, cs = [.int .i64 c.k, .string c.s, .int .i64 c.n] ∧ c.fit := by
  obtain ⟨ys, m, _, _, hlen, hyl, hf⟩ := DataW.trod_struct Try.underlying24 h
  rw [Try.cells24] at hlen
  match cs, hlen with
  | [v0, v1, v2], _ =>
    have h0 : DataW.trod enc Try.prog w 0 spare held m 3 (([v0, v1, v2].drop 0).take (Try.prog.cellsOf 3)) = ys[0]? := hf 0 _ rfl
    have h1 : DataW.trod enc Try.prog w 0 spare held m 9 (([v0, v1, v2].drop 1).take (Try.prog.cellsOf 9)) = ys[1]? := hf 1 _ rfl
    have h2 : DataW.trod enc Try.prog w 0 spare held m 3 (([v0, v1, v2].drop 2).take (Try.prog.cellsOf 3)) = ys[2]? := hf 2 _ rfl
    rw [Try.cells3] at h0 h2
    rw [Try.cells9] at h1
    have hy : ∀ i : Nat, i < 3 → ∃ y, ys[i]? = some y := fun i hi => ⟨_, List.getElem?_eq_getElem (by rw [hyl]; exact hi)⟩
    obtain ⟨y0, e0⟩ := hy 0 (by omega)
    obtain ⟨y1, e1⟩ := hy 1 (by omega)
    obtain ⟨y2, e2⟩ := hy 2 (by omega)
    rw [e0] at h0
    rw [e1] at h1
    rw [e2] at h2
    obtain ⟨a0, q0, _, f0⟩ := DataW.trod_int Try.underlying3 h0
    obtain ⟨a1, q1, _, f1⟩ := DataW.trod_string Try.underlying9 h1
    obtain ⟨a2, q2, _, f2⟩ := DataW.trod_int Try.underlying3 h2
    simp at q0 q1 q2
    refine ⟨⟨a0, a1, a2⟩, by rw [q0, q1, q2], ⟨(i64_wf f0).1, (i64_wf f0).2, (i64_wf f2).1, (i64_wf f2).2, by unfold maxLen at f1; exact f1⟩⟩

/-- what rows of a kind are made of -/
theorem open_rows {α : Type} [Rep α] {t e : TypeId} (ht : Try.prog.underlying t = some (.slice e)) (hC : Try.prog.cellsOf e = Rep.sz α)
    (hE : ∀ (n : Nat) (a : Addr) (cs : List Value) (x : DataW H × List MemPlace), w.cells? 0 a (Rep.sz α) = some cs → DataW.trod enc Try.prog w 0 (fun _ => true) held n e cs = some x → ∃ (b o : Nat) (y : α), a = ⟨b, o, none⟩ ∧ Rep.E w b o y)
    {fuel : Nat} {a : Option Addr} {len cap : Nat} {x : DataW H × List MemPlace} (h : DataW.trod enc Try.prog w 0 (fun _ => true) held fuel t [.slice a len cap] = some x) :
    ∃ xs : List α, xs.length = len ∧ Row w a cap xs := by
  rcases open_slice ht h with ⟨hcs, _⟩ | ⟨ad, l, c, m, n, D, Pl, hcs, _, hl, hm, hmm, _, hi⟩
  · simp at hcs
    obtain ⟨rfl, rfl, rfl⟩ := hcs
    exact ⟨[], rfl, Row.empty _ _ _ (by omega) (fun _ => rfl)⟩
  · simp at hcs
    obtain ⟨rfl, rfl, rfl⟩ := hcs
    simp only [if_true] at hmm
    subst hmm
    have key : ∀ i, i < len → ∃ (b o : Nat) (y : α), ad.add (i * Rep.sz α) = ⟨b, o, none⟩ ∧ Rep.E w b o y := by
      intro i hil
      obtain ⟨cs', hc, ht'⟩ := hi i (by omega)
      rw [hC] at hc
      exact hE n _ cs' _ hc ht'
    have hy : ∀ i : Fin len, ∃ y : α, ∃ b o, ad.add (i.val * Rep.sz α) = ⟨b, o, none⟩ ∧ Rep.E w b o y := fun i => by
      obtain ⟨b, o, y, e1, e2⟩ := key i.val i.isLt
      exact ⟨y, b, o, e1, e2⟩
    let f : Fin len → α := fun i => Classical.choose (hy i)
    have hf : ∀ i : Fin len, ∃ b o, ad.add (i.val * Rep.sz α) = ⟨b, o, none⟩ ∧ Rep.E w b o (f i) := fun i => Classical.choose_spec (hy i)
    refine ⟨List.ofFn f, List.length_ofFn, ⟨by rw [List.length_ofFn]; exact hl, by unfold maxLen at hm; omega, (fun e => by cases e), fun i x hx => ?_⟩⟩
    have hil : i < len := by
      have := (List.getElem?_eq_some_iff.1 hx).1; rwa [List.length_ofFn] at this
    have hx' : f ⟨i, hil⟩ = x := by
      rw [List.getElem?_eq_getElem (by rw [List.length_ofFn]; exact hil), List.getElem_ofFn] at hx
      exact Option.some.inj hx
    obtain ⟨b, o, e1, e2⟩ := hf ⟨i, hil⟩
    obtain ⟨b0, o0, s0⟩ := ad
    have hz := hf ⟨0, by omega⟩
    obtain ⟨b1, o1, e3, _⟩ := hz
    simp only [Nat.zero_mul, Addr.add, if_true] at e3
    injection e3 with e3 e4 e5
    subst e5
    rw [add_lit] at e1
    injection e1 with e1 e6
    subst e1
    refine ⟨b0, o0, rfl, ?_⟩
    rw [hx'] at e2
    rw [← e6] at e2
    exact e2

theorem spot_none {a : Addr} {v : Value} (h : w.cell? a = some v) : ∃ b o, a = ⟨b, o, none⟩ := by
  have := World.cell?_spot h
  obtain ⟨b, o, s⟩ := a
  simp at this
  subst this
  exact ⟨b, o, rfl⟩
theorem E_cell (n : Nat) (a : Addr) (cs : List Value) (x : DataW H × List MemPlace) (hc : w.cells? 0 a 3 = some cs) (h : DataW.trod enc Try.prog w 0 spare held n 24 cs = some x) : ∃ (b o : Nat) (y : Cel), a = ⟨b, o, none⟩ ∧ Rep.E w b o y := by
  obtain ⟨c, rfl, hf⟩ := open_cell h
  obtain ⟨_, _, hat⟩ := World.cells?_some hc
  have h0 := hat 0 (by omega)
  obtain ⟨b, o, rfl⟩ : ∃ b o, a = ⟨b, o, none⟩ := spot_none (by simpa [Addr.add] using h0)
  refine ⟨b, o, c, rfl, ?_⟩
  have h1 := hat 1 (by omega)
  have h2 := hat 2 (by omega)
  rw [add_lit] at h0 h1 h2
  exact ⟨h0, h1, h2, hf⟩
/-- []Cell -/
theorem open_cells {fuel : Nat} {a : Option Addr} {len cap : Nat} {x : DataW H × List MemPlace} (h : DataW.trod enc Try.prog w 0 (fun _ => true) held fuel 22 [.slice a len cap] = some x) :
    ∃ xs : List Cel, xs.length = len ∧ Row w a cap xs :=
  open_rows Try.underlying22 Try.cells24 (fun n a cs x h1 h2 => E_cell n a cs x h1 h2) h
theorem E_list {α : Type} [Rep α] {e : TypeId} {el : TypeId} (he : Try.prog.underlying e = some (.slice el))
    (hop : ∀ {fuel : Nat} {a : Option Addr} {len cap : Nat} {x : DataW H × List MemPlace}, DataW.trod enc Try.prog w 0 (fun _ => true) held fuel e [.slice a len cap] = some x → ∃ xs : List α, xs.length = len ∧ Row w a cap xs)
    (n : Nat) (a : Addr) (cs : List Value) (x : DataW H × List MemPlace) (hc : w.cells? 0 a 1 = some cs) (h : DataW.trod enc Try.prog w 0 (fun _ => true) held n e cs = some x) : ∃ (b o : Nat) (y : List α), a = ⟨b, o, none⟩ ∧ Rep.E w b o y := by
  obtain ⟨_, hl, hat⟩ := World.cells?_some hc
  have h0 := hat 0 (by omega)
  match cs, hl with
  | [v], _ =>
    have hv : ∃ a' len cap, v = .slice a' len cap := by
      rcases open_slice he h with ⟨hcs, _⟩ | ⟨ad, l, c, m, n, D, Pl, hcs, _⟩
      · simp at hcs; exact ⟨_, _, _, hcs⟩
      · simp at hcs; exact ⟨_, _, _, hcs⟩
    obtain ⟨a', len, cap, rfl⟩ := hv
    obtain ⟨xs, rfl, hr⟩ := hop h
    obtain ⟨b, o, rfl⟩ : ∃ b o, a = ⟨b, o, none⟩ := spot_none (by simpa [Addr.add] using h0)
    rw [add_lit] at h0
    exact ⟨b, o, xs, rfl, ⟨a', cap, h0, hr⟩⟩
/-- [][]Cell -/
theorem open_cellss {fuel : Nat} {a : Option Addr} {len cap : Nat} {x : DataW H × List MemPlace} (h : DataW.trod enc Try.prog w 0 (fun _ => true) held fuel 49 [.slice a len cap] = some x) :
    ∃ xs : List (List Cel), xs.length = len ∧ Row w a cap xs :=
  open_rows Try.underlying49 Try.cells22 (fun n a cs x h1 h2 => E_list (α := Cel) Try.underlying22 open_cells n a cs x h1 h2) h
end
end Go.Proofs.Ytfcebbfphjbkoaa
namespace Go.Proofs.Ytfcebbfphjbkoaa
open Go.RowKit Go.ChangeShapes Go.WideShapes Go.ChangeAt
open Go.ChangeMaps (open_string)

set_option maxRecDepth 100000 in
set_option maxHeartbeats 1000000 in
theorem SubstSwap_lifted (os : Os) (started : os.Started) (H : Type) (enc : TypeId × Value → H) :
    ReturnsInHanded {} Try.checked os 12 .any (Rows.substSwapSpec.pre6 enc Try.prog Try.f12 Rows.substSwapRow.domain false) (Rows.substSwapSpec.post enc Try.prog Try.f12 false true false false) := by
  refine returnsInHanded_of_change (C := Try.checked) Try.own started (by kernel_rfl) Try.func12
    (ChangeSpec.witness6 (enc := enc) (C := Try.checked) false ⟨#[], #[.slice none 0 0, .int .u16 0, .int .u16 0], []⟩ 8 (by kernel_rfl) (by kernel_rfl) (by kernel_rfl) (by kernel_rfl)) ?_
  intro W base args ds gs before hval0 hW hcnd _
  have hval : ∀ (j : Nat) t v, Try.f12.params[j]? = some t → args[j]? = some v → Value.okWide Try.prog W .any base t v := hval0
  have hW' := hW
  obtain ⟨p, q, hA0, hV, rfl, hfz, hnd⟩ := hW
  have hA : DataW.TrodAll enc Try.prog W 0 (fun _ => true) true Try.f12.params.toList args.toList ds p := hA0
  rw [Try.params12] at hA hval
  obtain ⟨v0, vs0, d0, ds0, p0, q0, hargs, rfl, rfl, h0, r0⟩ := trodAll_cons hA
  obtain ⟨v1, vs1, d1, ds1, p1, q1, rfl, rfl, rfl, h1, r1⟩ := trodAll_cons r0
  obtain ⟨v2, vs2, d2, ds2, p2, q2, rfl, rfl, rfl, h2, r2⟩ := trodAll_cons r1
  obtain ⟨rfl, rfl, rfl⟩ := trodAll_nil r2
  obtain rfl : args = #[v0, v1, v2] := by cases args; simp_all
  obtain ⟨rfl, rfl⟩ := trodVars_none hV
  have k0 := h0
  have lt0 : ∀ x ∈ p0, x.block < W.heap.size := by obtain ⟨m, hm⟩ := k0; exact DataW.trod_lt m _ _ _ hm
  obtain ⟨a0, len0, cap0, rfl⟩ := okWide_slice Try.underlying22 (hval 0 22 v0 rfl rfl)
  obtain ⟨xs0, rfl, hr0⟩ : ∃ xs : List Cel, xs.length = len0 ∧ Row W a0 cap0 xs := by
    obtain ⟨fuel, hf⟩ := h0
    exact open_cells hf
  have k1 := h1
  have lt1 : ∀ x ∈ p1, x.block < W.heap.size := by obtain ⟨m, hm⟩ := k1; exact DataW.trod_lt m _ _ _ hm
  obtain ⟨n1, rfl, _, _, wf1⟩ := open_int Try.underlying52 (hval 1 52 v1 rfl rfl) h1
  have k2 := h2
  have lt2 : ∀ x ∈ p2, x.block < W.heap.size := by obtain ⟨m, hm⟩ := k2; exact DataW.trod_lt m _ _ _ hm
  obtain ⟨n2, rfl, _, _, wf2⟩ := open_int Try.underlying52 (hval 2 52 v2 rfl rfl) h2
  clear hA0 hval0
  refine (lawSwap_any W xs0 a0 cap0 hr0 n1 n2 wf1 wf2).mono fun e W' ⟨he, bel⟩ => ?_
  subst he
  exact ⟨_, rfl, _, _, _, [], _, [], hW', trodAll_mk1 (shut_bool Try.underlying4 _), (trodAll_cons_mk (Below.trod Try.laidOut (by kernel_rfl) (of_decide_eq_true (by kernel_rfl)) k0 bel lt0) (trodAll_cons_mk (Below.trod Try.laidOut (by kernel_rfl) (of_decide_eq_true (by kernel_rfl)) k1 bel lt1) (trodAll_cons_mk (Below.trod Try.laidOut (by kernel_rfl) (of_decide_eq_true (by kernel_rfl)) k2 bel lt2) trodAll_mk0))), rfl, bel.frame _, fun h => by cases h⟩

theorem SubstSwap_over : Rows.substSwapRow.holds Try.pinned (OpenSpec.ofChange Rows.substSwapSpec) :=
  OpenClaim.holds_of_wide 12 Try.f12 rfl rfl rfl rfl rfl rfl rfl ⟨rfl, rfl, rfl, rfl, rfl⟩ rfl rfl rfl rfl rfl (by kernel_rfl) Try.func12 (by kernel_rfl)
    (of_decide_eq_true (by kernel_rfl)) (by unfold Func.isWrapper; first | (rw [if_pos (by decide +kernel)]; kernel_rfl) | (rw [if_neg (by decide +kernel)]; exact ⟨rfl, rfl⟩))
    (fun os started H enc _ => SubstSwap_lifted os started H enc)

theorem SubstSwap_holds : Rows.SubstSwapSaid := SubstSwap_over
end Go.Proofs.Ytfcebbfphjbkoaa
