/-
  Of layer 2 of sorrel: whatever rows of bindings and of cells come in, the law SubstVars returns true, and all reads as it did: a term without variables stays, and the variables of what comes out are those of what was put in for its own, and its own that have no binding, and it is right. No condition.
-/
import Derived.Test.YtfcebbfphjbkoaaZn6
import Derived.Deep.Slices
import Derived.Deep.Fields
import Derived.ChangeSame
import Derived.ProofKit
import Derived.OpenShut
import Derived.ShutString
import Derived.ChangeOld
import Derived.Lib.SmallJoins
namespace Go.Proofs.Ytfcebbfphjbkoaa
open Go.RowKit

/-- what the document's May says -/
structure MayS (s : List Bnd) (t : List Cel) : Prop where
  rs : rightS s = true
  rt : rightB t = true
  l : t.length ≤ 200
  n : s.length ≤ 30
  T : ∀ b ∈ s, b.t.length ≤ 200
  e : lookL s = look s
  ok : okF (look s)
theorem right_le {t : List Cel} (h : rightB t = true) : t.length ≤ 200 := (right_iff.1 h).1
theorem rightS_T {s : List Bnd} (h : rightS s = true) : ∀ b ∈ s, b.t.length ≤ 200 := fun b hb => right_le (rightG_mem h b hb).2.2.1
theorem may_spec {s : List Bnd} {t : List Cel} (h : mayB s t = true) : MayS s t := by
  unfold mayB fewB at h
  simp only [Bool.and_eq_true, decide_eq_true_eq] at h
  exact ⟨h.1.2, h.2, right_le h.2, h.1.1.2.2, rightS_T h.1.2, lookL_eq (rightG_rise h.1.2), okF_look h.1.2⟩
theorem putC_le2 {s : List Bnd} (h : ∀ b ∈ s, b.t.length ≤ 200) (c : Cel) : (putC (look s) c).length ≤ 200 := by
  unfold putC
  split
  · cases hl : look s c.n with
    | none => simp
    | some t =>
      obtain ⟨b, hb, _, rfl⟩ := look_mem hl
      simpa using h b hb
  · simp
theorem putL_le2 {s : List Bnd} (h : ∀ b ∈ s, b.t.length ≤ 200) (t : List Cel) : (putL (look s) t).length ≤ 200 * t.length := by
  induction t with
  | nil => simp [putL]
  | cons c t ih =>
    have := putC_le2 h c
    rw [putL_cons, List.length_append, List.length_cons]; omega
section lit
variable {w : World} {a a' : Option Addr} {cap cap' : Nat}
theorem may_lit {xs : List Bnd} {ys : List Cel} {b : Bool} (hx : Row w a cap xs) (hy : Row w a' cap' ys) (hb : mayB xs ys = b) :
    Calls Try.prog 20 #[.slice a xs.length cap, .slice a' ys.length cap'] w fun e w' => e = .returned (.bool b) ∧ Below w.heap.size w w' := by
  subst hb; exact may2_any a cap a' cap' w xs ys hx hy
/-- put in, in terms of the first binding -/
theorem apply_yes {xs : List Bnd} {ys : List Cel} (hx : Row w a cap xs) (hy : Row w a' cap' ys) (hl : xs.length ≤ 1000000) (hl2 : ys.length ≤ 10000) (he : lookL xs = look xs) (ho : outB (look xs) ys = true) :
    Calls Try.prog 21 #[.slice a xs.length cap, .slice a' ys.length cap'] w fun e w' => ∃ a2 cap2, e = .returned (.tuple #[.slice a2 (putL (look xs) ys).length cap2, .bool true]) ∧ NewRow w.heap.size w' a2 cap2 (putL (look xs) ys) ∧ Below w.heap.size w w' := by
  have h := applysub_any a cap a' cap' w xs ys hx hy hl hl2
  rw [he, ho, show outL (look xs) ys = putL (look xs) ys by unfold outL; rw [if_pos ho]] at h
  exact h
theorem apply_no {xs : List Bnd} {ys : List Cel} (hx : Row w a cap xs) (hy : Row w a' cap' ys) (hl : xs.length ≤ 1000000) (hl2 : ys.length ≤ 10000) (he : lookL xs = look xs) (ho : outB (look xs) ys = false) :
    Calls Try.prog 21 #[.slice a xs.length cap, .slice a' ys.length cap'] w fun e w' => ∃ a2 cap2, e = .returned (.tuple #[.slice a2 0 cap2, .bool false]) ∧ NewRow w.heap.size w' a2 cap2 ([] : List Cel) ∧ Below w.heap.size w w' := by
  have h := applysub_any a cap a' cap' w xs ys hx hy hl hl2
  rw [he, ho, show outL (look xs) ys = [] by unfold outL; rw [if_neg (by simp [ho])]] at h
  exact h
end lit

set_option maxHeartbeats 4000000 in
set_option maxRecDepth 100000 in
theorem lawLong_any (w : World) (xs : List Bnd) (ys : List Cel) (a : Option Addr) (cap : Nat) (a' : Option Addr) (cap' : Nat) (hx : Row w a cap xs) (hy : Row w a' cap' ys) :
    Calls Try.prog 11 #[.slice a xs.length cap, .slice a' ys.length cap'] w fun e w' => e = .returned (.bool true) ∧ Below w.heap.size w w' := by
  cases hM : mayB xs ys with
  | false =>
    have HM := mkHid hM
    clear hM
    go_enter Try.func11, Try.ntmps11
    go_wp2_with (first
      | (go_at_call 16; refine (head2_any _).mono ?_; rintro e w1 ⟨rfl, hb1⟩)
      | (go_at_call 20; refine (may_lit (hx.below hb1) (hy.below hb1) HM.out).mono ?_; rintro e w2 ⟨rfl, hb2⟩))
    go_ret
    exact ⟨rfl, hb1.then hb2⟩
  | true =>
    have hS := may_spec hM
    have HM := mkHid hM
    have HS := mkHid hS
    have hl := hS.l
    have hn := hS.n
    clear hM hS
    go_enter Try.func11, Try.ntmps11
    go_wp2_with (first
      | (go_at_call 16; refine (head2_any _).mono ?_; rintro e w1 ⟨rfl, hb1⟩)
      | (go_at_call 20; refine (may_lit (hx.below hb1) (hy.below hb1) HM.out).mono ?_; rintro e w2 ⟨rfl, hb2⟩; have hb02 := hb1.then hb2))
    go_loopw [6, 7, 8] (fun n i at_ wr => ∃ k : Nat, k ≤ ys.length ∧ i = .int .i64 k ∧ n = .int .i64 (putL (look xs) (ys.take k)).length ∧ Below w.heap.size w wr) (fun n i at_ wr => ys.length - (intOf i).toNat)
    case atStart => exact ⟨0, Nat.zero_le _, rfl, rfl, hb02⟩
    case round =>
      obtain ⟨k, hk, rfl, rfl, hbl⟩ := hrel
      have hle := putL_le2 HS.out.T (ys.take k)
      have hlk : (ys.take k).length ≤ k := List.length_take_le _ _
      by_cases hlt : k < ys.length
      · obtain ⟨b, off, rfl, hb, hat⟩ := hy.cases.resolve_left (fun e => by simp [e] at hlt)
        obtain ⟨c0, c1, c2, hf⟩ := cel_at hat hbl hlt
        have HP := mkHid (putL_snoc (look xs) ys k hlt)
        by_cases h1 : ys[k].k = 1
        · have t1 : (ys[k].k == 1) = true := by simp [h1]
          rcases place_look xs ys[k].n with ⟨hp, hlk2, _⟩ | ⟨i, hi, hp, _, hlk2⟩
          · have HC : Hid ((putL (look xs) (ys.take (k + 1))).length = (putL (look xs) (ys.take k)).length + 1) := by
              rw [Hid, HP.out, List.length_append]; unfold putC; rw [if_pos h1, hlk2]; rfl
            have HQ := mkHid hp
            clear h1 hp hlk2
            go_wp2_with (go_at_call 36; refine (place2_any _ cap _ _ xs (hx.below hbl)).mono ?_; rintro e w3 ⟨rfl, hb3⟩; rw [HQ.out])
            go_round
            case rel => exact ⟨k + 1, by omega, by go_num, by rw [HC.out]; go_num, hbl.then hb3⟩
            case measure => simp [intOf]; omega
          · have HC : Hid ((putL (look xs) (ys.take (k + 1))).length = (putL (look xs) (ys.take k)).length + xs[i].t.length) := by
              rw [Hid, HP.out, List.length_append]; unfold putC; rw [if_pos h1, hlk2]; rfl
            have HQ := mkHid hp
            have hTi := HS.out.T xs[i] (List.getElem_mem hi)
            obtain ⟨b', off', rfl, hb', hat'⟩ := hx.cases.resolve_left (fun e => by simp [e] at hi)
            clear h1 hp hlk2
            go_wp2_with (go_at_call 36; refine (place2_any _ cap _ _ xs (hx.below hbl)).mono ?_; rintro e w3 ⟨rfl, hb3⟩; rw [HQ.out]; obtain ⟨a1, cap1, d0, d1, hr1, _, _⟩ := bnd_at hat' (hbl.then hb3) hi)
            go_round
            case rel => exact ⟨k + 1, by omega, by go_num, by rw [HC.out]; go_num, hbl.then hb3⟩
            case measure => simp [intOf]; omega
        · have t1 : (ys[k].k == 1) = false := by simp [h1]
          have HC : Hid ((putL (look xs) (ys.take (k + 1))).length = (putL (look xs) (ys.take k)).length + 1) := by
            rw [Hid, HP.out, List.length_append]; unfold putC; rw [if_neg h1]; rfl
          clear h1
          go_wp2
          go_round
          case rel => exact ⟨k + 1, by omega, by go_num, by rw [HC.out]; go_num, hbl⟩
          case measure => simp [intOf]; omega
      · rw [List.take_of_length_le (by omega)] at *
        cases hO : outB (look xs) ys with
        | true =>
          have h200 := outB_iff.1 hO
          have HO := mkHid hO
          clear hO
          go_wp2_with (go_at_call 21; refine (apply_yes (hx.below hbl) (hy.below hbl) (by omega) (by omega) HS.out.e HO.out).mono ?_; rintro e w3 ⟨a3, cap3, rfl, r3, hb3⟩)
          go_ret
          exact ⟨rfl, hbl.then hb3⟩
        | false =>
          have h200 : ¬ (putL (look xs) ys).length ≤ 200 := fun h => by rw [outB_iff.2 h] at hO; cases hO
          have HO := mkHid hO
          clear hO
          go_wp2_with (go_at_call 21; refine (apply_no (hx.below hbl) (hy.below hbl) (by omega) (by omega) HS.out.e HO.out).mono ?_; rintro e w3 ⟨a3, cap3, rfl, r3, hb3⟩)
          go_ret
          exact ⟨ret_bool (by simp; omega), hbl.then hb3⟩
end Go.Proofs.Ytfcebbfphjbkoaa
namespace Go.Proofs.Ytfcebbfphjbkoaa
open Go.RowKit

/-! ### the mathematics of composing -/
theorem look_inj {s s' : List Bnd} (h : s.Pairwise fun x y => x.v < y.v) (h' : s'.Pairwise fun x y => x.v < y.v) (e : look s = look s') : s = s' :=
  rise_ext h h' fun ⟨n, t⟩ => by rw [← look_iff h, ← look_iff h', e]
/-- a composition and what it is -/
structure CmS (a b L : List Bnd) : Prop where
  rs : rightS L = true
  e : lookL L = look L
  k : look L = cleanF (compF (look a) (look b))
  n : L.length ≤ a.length + b.length
  T : ∀ b ∈ L, b.t.length ≤ 200
  ok : okF (look L)
theorem cm_length (a b : List Bnd) : (cmL a b).length ≤ a.length + b.length := by
  unfold cmL cleanL restB
  refine Nat.le_trans (List.length_filter_le _ _) ?_
  rw [List.length_append, List.length_map]
  have := List.length_filter_le (fun x : Bnd => !(lookL a x.v).isSome) b
  have := List.length_filter_le (fun x : Bnd => (lookL a x.v).isNone) b
  first
    | omega
    | exact Nat.add_le_add_left (List.length_filter_le _ _) _
theorem cm_spec {a b L : List Bnd} (ha : rightS a = true) (hb : rightS b = true) (hB : cmB a b = true) (hp : L.Perm (cmL a b)) (hr : risesB L) : CmS a b L := by
  have hL := cm_right ha hb hB hp hr
  exact ⟨hL, lookL_eq (rightG_rise hL), cm_look (rightG_rise ha) (rightG_rise hb) hp hr, by rw [hp.length_eq]; exact cm_length a b, rightS_T hL, okF_look hL⟩
theorem CmS.put {a b L : List Bnd} (h : CmS a b L) {l : List Cel} (hl : ∀ c ∈ l, cellOk c = true) : putL (look L) l = putL (look b) (putL (look a) l) :=
  put_put (fun n _ _ => by rw [h.k, sub_clean, sub_comp]) hl
theorem CmS.ext {a b L a' b' L' : List Bnd} (h : CmS a b L) (h' : CmS a' b' L') (e : cleanF (compF (look a) (look b)) = cleanF (compF (look a') (look b'))) : L = L' :=
  look_inj (rightG_rise h.rs) (rightG_rise h'.rs) (by rw [h.k, h'.k, e])
theorem clean_sub (f : Int → Option (List Cel)) (n : Int) : cleanF f n = if subF f n = [varC n] then none else some (subF f n) := by
  unfold cleanF subF ownB
  cases f n with
  | none => simp
  | some t => simp
theorem clean_ext {f g : Int → Option (List Cel)} (h : ∀ n, subF f n = subF g n) : cleanF f = cleanF g := by
  funext n; rw [clean_sub, clean_sub, h]
theorem comp_assoc {f g h : Int → Option (List Cel)} (hf : okF f) : cleanF (compF (cleanF (compF f g)) h) = cleanF (compF f (cleanF (compF g h))) := by
  refine clean_ext fun n => ?_
  rw [sub_comp, sub_clean, sub_comp, sub_comp]
  cases hn : f n with
  | none =>
    have e : subF f n = [varC n] := by unfold subF; rw [hn]; rfl
    rw [e, put_var, put_var, sub_clean, sub_comp]
  | some t =>
    have e : subF f n = t := by unfold subF; rw [hn]; rfl
    rw [e]
    exact (put_put (fun m _ _ => by rw [sub_clean, sub_comp]) (right_cells (hf n t hn))).symm
theorem put_none (t : List Cel) : putL (look []) t = t := by
  induction t with
  | nil => rfl
  | cons c t ih =>
    rw [putL_cons, ih]
    unfold putC; split <;> rfl
theorem clean_look {a : List Bnd} (ha : rightS a = true) : cleanF (look a) = look a := by
  funext n
  unfold cleanF
  cases h : look a n with
  | none => rfl
  | some t =>
    have := (rightG_mem ha _ (look_some h)).2.2.2
    simp [this]
theorem comp_nil {a : List Bnd} : compF (look a) (look []) = look a := by
  funext n
  unfold compF
  cases look a n with
  | none => rfl
  | some t => simp [put_none]
theorem nil_comp {a : List Bnd} : compF (look []) (look a) = look a := by
  funext n; rfl
theorem CmS.nil_right {a L : List Bnd} (ha : rightS a = true) (h : CmS a [] L) : L = a :=
  look_inj (rightG_rise h.rs) (rightG_rise ha) (by rw [h.k, comp_nil, clean_look ha])
theorem CmS.nil_left {a L : List Bnd} (ha : rightS a = true) (h : CmS [] a L) : L = a :=
  look_inj (rightG_rise h.rs) (rightG_rise ha) (by rw [h.k, nil_comp, clean_look ha])
theorem cmB_nil {a : List Bnd} (ha : rightS a = true) : cmB a [] = true := by
  unfold cmB
  refine List.all_eq_true.2 fun x hx => ?_
  rw [show lookL [] = look [] from rfl, outB_iff, put_none]
  exact rightS_T ha x hx
section lit
variable {w : World} {a a' : Option Addr} {cap cap' n m : Nat}
theorem compose_yes {xs ys : List Bnd} (hn : n = xs.length) (hx : Row w a cap xs) (hm : m = ys.length) (hy : Row w a' cap' ys) (ha : rightS xs = true) (hb : rightS ys = true) (hl : xs.length ≤ 1000) (hl2 : ys.length ≤ 1000) (hB : cmB xs ys = true) :
    Calls Try.prog 23 #[.slice a n cap, .slice a' m cap'] w fun e w' => ∃ a2 cap2 L, e = .returned (.tuple #[.slice a2 (List.length L) cap2, .bool true]) ∧ Row w' a2 cap2 L ∧ CmS xs ys L ∧ Below w.heap.size w w' := by
  subst hn; subst hm
  refine (composesub_any a cap a' cap' w xs ys hx hy (by omega) (by omega) (fun b h => by have := rightS_T ha b h; omega) (fun b h => by have := rightS_T hb b h; omega)).mono fun e w' ⟨hb2, h⟩ => ?_
  rcases h with ⟨h, _⟩ | ⟨_, a2, cap2, L, he, hrow, hpl, hri⟩
  · rw [hB] at h; cases h
  · exact ⟨a2, cap2, L, he, hrow, cm_spec ha hb hB hpl hri, hb2⟩
theorem compose_no {xs ys : List Bnd} (hn : n = xs.length) (hx : Row w a cap xs) (hm : m = ys.length) (hy : Row w a' cap' ys) (ha : rightS xs = true) (hb : rightS ys = true) (hl : xs.length ≤ 1000) (hl2 : ys.length ≤ 1000) (hB : cmB xs ys = false) :
    Calls Try.prog 23 #[.slice a n cap, .slice a' m cap'] w fun e w' => e = .returned (.tuple #[.slice none 0 0, .bool false]) ∧ Below w.heap.size w w' := by
  subst hn; subst hm
  refine (composesub_any a cap a' cap' w xs ys hx hy (by omega) (by omega) (fun b h => by have := rightS_T ha b h; omega) (fun b h => by have := rightS_T hb b h; omega)).mono fun e w' ⟨hb2, h⟩ => ?_
  rcases h with ⟨_, h⟩ | ⟨h, _⟩
  · exact ⟨h, hb2⟩
  · rw [hB] at h; cases h
end lit
end Go.Proofs.Ytfcebbfphjbkoaa
namespace Go.Proofs.Ytfcebbfphjbkoaa
open Go.RowKit

/-! ### the mathematics of what is put in twice -/
/-- no cell is changed -/
def calm (f : Int → Option (List Cel)) (t : List Cel) : Prop := ∀ c ∈ t, putC f c = [c]
theorem put_calm {f : Int → Option (List Cel)} {t : List Cel} (h : calm f t) : putL f t = t := by
  induction t with
  | nil => rfl
  | cons c t ih => rw [putL_cons, h c (by simp), ih fun d hd => h d (by simp [hd])]; rfl
theorem calm_put {f : Int → Option (List Cel)} (hf : okF f) {t : List Cel} (h : putL f t = t) : calm f t := by
  induction t with
  | nil => intro c hc; simp at hc
  | cons c t ih =>
    rw [putL_cons] at h
    have h1 := putC_pos hf c
    have h2 := put_grows hf t
    have h3 : (putC f c).length + (putL f t).length = t.length + 1 := by rw [← List.length_append, h]; rfl
    have h4 : (putC f c).length = 1 := by omega
    obtain ⟨d, hd⟩ := List.length_eq_one_iff.1 h4
    rw [hd] at h
    have h5 := List.cons.inj h
    have h6 := ih h5.2
    intro e he
    rcases List.mem_cons.1 he with rfl | he
    · rw [hd, h5.1]
    · exact h6 e he
theorem calm_free {s : List Bnd} (hs : rightS s = true) {t : List Cel} (ht : ∀ c ∈ t, cellOk c = true) : calm (look s) t ↔ freeB s t = true := by
  unfold calm freeB
  rw [List.all_eq_true]
  refine forall_congr' fun c => forall_congr' fun hc => ?_
  by_cases h1 : c.k = 1
  · have hv := cellOk_var (ht c hc) h1
    unfold putC
    rw [if_pos h1]
    cases h : look s c.n with
    | none => simp
    | some u =>
      simp only [Option.getD_some, h1, BEq.rfl, Option.isSome_some, Bool.and_self, Bool.not_true, Bool.false_eq_true, iff_false]
      intro e
      have := (rightG_mem hs _ (look_some h)).2.2.2
      rw [e, hv] at this
      simp [ownB, varC] at this
  · unfold putC
    rw [if_neg h1]
    simp [h1]
theorem free_vars (s : List Bnd) (t : List Cel) : freeB s t = !anyV (look s) (varsL t) := by
  rw [Bool.eq_iff_iff]
  unfold freeB anyV
  simp only [List.all_eq_true, Bool.not_eq_true', Bool.and_eq_false_iff, List.any_eq_false, beq_eq_false_iff_ne, ne_eq]
  constructor
  · intro h n hn
    rcases mem_vars_of t [] n hn with hn | ⟨c, hc, h1, rfl⟩
    · simp at hn
    · rcases h c hc with h2 | h2
      · exact absurd h1 h2
      · simp [h2]
  · intro h c hc
    by_cases h1 : c.k = 1
    · right
      have := h c.n (mem_varsL hc h1)
      simpa using this
    · exact .inl h1
theorem idem_same {s : List Bnd} (hs : rightS s = true) : idemL s = idemB s := by
  rw [idem_eq]
  unfold idemL
  rw [lookL_eq (rightG_rise hs)]
  congr 1
  funext b
  rw [free_vars]
/-- just those of which each part stays -/
theorem idem_iff {s : List Bnd} (hs : rightS s = true) : idemL s = true ↔ ∀ b ∈ s, putL (look s) b.t = b.t := by
  rw [idem_same hs, idem_eq, List.all_eq_true]
  refine forall_congr' fun b => forall_congr' fun hb => ?_
  rw [← calm_free hs (right_cells (rightG_mem hs b hb).2.2.1)]
  exact ⟨put_calm, calm_put (okF_look hs)⟩
theorem idem_sub {s : List Bnd} (h : ∀ b ∈ s, putL (look s) b.t = b.t) (n : Int) : putL (look s) (subF (look s) n) = subF (look s) n := by
  cases hn : look s n with
  | none =>
    have e : subF (look s) n = [varC n] := by unfold subF; rw [hn]; rfl
    rw [e, put_var, e]
  | some t =>
    have e : subF (look s) n = t := by unfold subF; rw [hn]; rfl
    rw [e]; exact h _ (look_some hn)
theorem idem_twice {s : List Bnd} (h : ∀ b ∈ s, putL (look s) b.t = b.t) {t : List Cel} (ht : ∀ c ∈ t, cellOk c = true) : putL (look s) (putL (look s) t) = putL (look s) t :=
  (put_put (fun n _ _ => (idem_sub h n).symm) ht).symm
theorem idem_cmB {s : List Bnd} (hs : rightS s = true) (h : ∀ b ∈ s, putL (look s) b.t = b.t) : cmB s s = true := by
  unfold cmB
  refine List.all_eq_true.2 fun x hx => ?_
  rw [lookL_eq (rightG_rise hs), outB_iff, h x hx]
  exact rightS_T hs x hx
theorem CmS.idem {s L : List Bnd} (hs : rightS s = true) (h : ∀ b ∈ s, putL (look s) b.t = b.t) (hC : CmS s s L) : L = s := by
  refine look_inj (rightG_rise hC.rs) (rightG_rise hs) ?_
  have e : cleanF (compF (look s) (look s)) = cleanF (look s) := clean_ext fun n => by rw [sub_comp, idem_sub h]
  rw [hC.k, e, clean_look hs]
end Go.Proofs.Ytfcebbfphjbkoaa
namespace Go.Proofs.Ytfcebbfphjbkoaa
open Go.RowKit

/-! ### the mathematics of what is kept -/
theorem look_kept (s : List Bnd) (V : List Int) (n : Int) : look (keptL s V) n = if n ∈ V then look s n else none := by
  induction s with
  | nil => simp [keptL, look_nil]
  | cons b s ih =>
    by_cases hb : b.v ∈ V
    · have e : keptL (b :: s) V = b :: keptL s V := by unfold keptL; simp [hb]
      rw [e, look_cons, look_cons, ih]
      by_cases h : b.v = n
      · subst h; simp [hb]
      · simp [h]
    · have e : keptL (b :: s) V = keptL s V := by unfold keptL; simp [hb]
      rw [e, look_cons, ih]
      by_cases h : b.v = n
      · subst h; simp [hb]
      · simp [h]
theorem kept_right {s : List Bnd} (hs : rightS s = true) (V : List Int) : rightS (keptL s V) = true :=
  rightG_of (fun b hb => rightG_mem hs b (List.mem_filter.1 hb).1) ((rightG_rise hs).filter _)
theorem kept_le (s : List Bnd) (V : List Int) : (keptL s V).length ≤ s.length := List.length_filter_le _ _
theorem put_ext {f g : Int → Option (List Cel)} {t : List Cel} (h : ∀ c ∈ t, c.k = 1 → f c.n = g c.n) : putL f t = putL g t := by
  induction t with
  | nil => rfl
  | cons c t ih =>
    rw [putL_cons, putL_cons, ih fun d hd => h d (by simp [hd])]
    congr 1
    unfold putC
    by_cases h1 : c.k = 1
    · rw [if_pos h1, if_pos h1, h c (by simp) h1]
    · rw [if_neg h1, if_neg h1]
/-- kept by a term's variables -/
theorem put_kept (s : List Bnd) (t : List Cel) : putL (look (keptL s (varsL t))) t = putL (look s) t :=
  put_ext fun c hc h1 => by rw [look_kept, if_pos (mem_varsL hc h1)]
/-- the variables that a term has not -/
def othersL (s : List Bnd) (V : List Int) : List Int := (s.filter fun b => !decide (b.v ∈ V)).map Bnd.v
theorem mem_others {s : List Bnd} {V : List Int} {n : Int} : n ∈ othersL s V ↔ n ∉ V ∧ ∃ b ∈ s, b.v = n := by
  unfold othersL
  simp only [List.mem_map, List.mem_filter, Bool.not_eq_true', decide_eq_false_iff_not]
  constructor
  · rintro ⟨b, ⟨h1, h2⟩, rfl⟩; exact ⟨h2, b, h1, rfl⟩
  · rintro ⟨h1, b, h2, rfl⟩; exact ⟨b, ⟨h2, h1⟩, rfl⟩
theorem put_others (s : List Bnd) (t : List Cel) : putL (look (keptL s (othersL s (varsL t)))) t = t := by
  rw [put_ext (g := look []) (fun c hc h1 => by
    rw [look_kept, if_neg (fun h => (mem_others.1 h).1 (mem_varsL hc h1))]; rfl), put_none]
theorem kept_others {s : List Bnd} (V : List Int) : keptL s (othersL s V) = s.filter fun b => !decide (b.v ∈ V) := by
  unfold keptL
  refine List.filter_congr fun b hb => ?_
  rw [Bool.eq_iff_iff]
  simp only [decide_eq_true_eq, Bool.not_eq_true', decide_eq_false_iff_not, mem_others]
  exact ⟨fun h => h.1, fun h => ⟨h, b, hb, rfl⟩⟩
theorem kept_sum (s : List Bnd) (V : List Int) : (keptL s V).length + (keptL s (othersL s V)).length = s.length := by
  rw [kept_others]
  unfold keptL
  induction s with
  | nil => rfl
  | cons b s ih =>
    by_cases h : b.v ∈ V
    · simp only [List.filter_cons, h, decide_true, if_true, Bool.not_true, Bool.false_eq_true, if_false, List.length_cons]; omega
    · simp only [List.filter_cons, h, decide_false, Bool.false_eq_true, if_false, Bool.not_false, if_true, List.length_cons]; omega
theorem kept_twice (s : List Bnd) (V : List Int) : keptL (keptL s V) V = keptL s V := by
  unfold keptL; rw [List.filter_filter]; simp
theorem kept_none (s : List Bnd) : keptL s [] = [] := by
  unfold keptL; simp
theorem others_take {s : List Bnd} {V : List Int} {k : Nat} (hk : k < s.length) : othersL (s.take (k + 1)) V = othersL (s.take k) V ++ (if s[k].v ∈ V then [] else [s[k].v]) := by
  unfold othersL
  rw [List.take_succ_eq_append_getElem hk, List.filter_append, List.map_append]
  congr 1
  by_cases h : s[k].v ∈ V <;> simp [h]
end Go.Proofs.Ytfcebbfphjbkoaa
namespace Go.Proofs.Ytfcebbfphjbkoaa
open Go.RowKit

/-! ### the variables of what is put in -/
theorem varsGo_src (xs : List Cel) : ∀ (acc : List Int) (n : Int), n ∈ varsGo acc xs → n ∈ acc ∨ ∃ c ∈ xs, c.k = 1 ∧ c.n = n := by
  induction xs with
  | nil => intro acc n h; exact .inl h
  | cons c l ih =>
    intro acc n h
    rcases ih _ n h with h | ⟨d, hd, h1, h2⟩
    · split at h
      · rename_i hc
        rcases List.mem_append.1 h with h | h
        · exact .inl h
        · simp at h; exact .inr ⟨c, by simp, hc.1, h.symm⟩
      · exact .inl h
    · exact .inr ⟨d, by simp [hd], h1, h2⟩
theorem varsL_iff {xs : List Cel} {n : Int} : n ∈ varsL xs ↔ ∃ c ∈ xs, c.k = 1 ∧ c.n = n :=
  ⟨fun h => (varsGo_src xs [] n h).resolve_left (by simp), fun ⟨_, hc, h1, h2⟩ => h2 ▸ mem_varsL hc h1⟩
theorem varsL_le (xs : List Cel) : (varsL xs).length ≤ xs.length := by
  have := varsGo_length xs []
  simpa [varsL] using this
def wantC (s : List Bnd) (v : Int) : List Int := ((look s v).map varsL).getD [v]
def wantL (s : List Bnd) (V : List Int) : List Int := V.flatMap (wantC s)
theorem want_take {s : List Bnd} {V : List Int} {k : Nat} (hk : k < V.length) : wantL s (V.take (k + 1)) = wantL s (V.take k) ++ wantC s V[k] := by
  unfold wantL; rw [List.take_succ_eq_append_getElem hk, List.flatMap_append]; simp
theorem wantC_le {s : List Bnd} (h : ∀ b ∈ s, b.t.length ≤ 200) (v : Int) : (wantC s v).length ≤ 200 := by
  unfold wantC
  cases hl : look s v with
  | none => simp
  | some u =>
    have h1 : u.length ≤ 200 := h _ (look_some hl)
    have h2 := varsL_le u
    simp only [Option.map_some, Option.getD_some]
    omega
theorem want_le {s : List Bnd} (h : ∀ b ∈ s, b.t.length ≤ 200) (V : List Int) : (wantL s V).length ≤ 200 * V.length := by
  induction V with
  | nil => simp [wantL]
  | cons v V ih =>
    have h1 := wantC_le h v
    unfold wantL at ih ⊢
    rw [List.flatMap_cons, List.length_append, List.length_cons]
    omega
theorem vars_put (s : List Bnd) (t : List Cel) (n : Int) : n ∈ varsL (putL (look s) t) ↔ n ∈ wantL s (varsL t) := by
  rw [varsL_iff]
  unfold putL wantL
  simp only [List.mem_flatMap]
  constructor
  · rintro ⟨c, ⟨d, hd, hc⟩, h1, h2⟩
    unfold putC at hc
    by_cases hk : d.k = 1
    · rw [if_pos hk] at hc
      refine ⟨d.n, varsL_iff.2 ⟨d, hd, hk, rfl⟩, ?_⟩
      unfold wantC
      cases hl : look s d.n with
      | none =>
        rw [hl] at hc
        simp at hc
        subst hc
        simp [h2]
      | some u =>
        rw [hl] at hc
        simp only [Option.getD_some] at hc
        simp only [Option.map_some, Option.getD_some]
        exact varsL_iff.2 ⟨c, hc, h1, h2⟩
    · rw [if_neg hk] at hc
      simp at hc
      subst hc
      exact absurd h1 hk
  · rintro ⟨v, hv, h⟩
    obtain ⟨d, hd, hk, rfl⟩ := varsL_iff.1 hv
    unfold wantC at h
    cases hl : look s d.n with
    | none =>
      rw [hl] at h
      simp at h
      exact ⟨d, ⟨d, hd, by unfold putC; rw [if_pos hk, hl]; simp⟩, hk, h.symm⟩
    | some u =>
      rw [hl] at h
      simp only [Option.map_some, Option.getD_some] at h
      obtain ⟨c, hc, h1, h2⟩ := varsL_iff.1 h
      exact ⟨c, ⟨d, hd, by unfold putC; rw [if_pos hk, hl]; exact hc⟩, h1, h2⟩
theorem ground_put {s : List Bnd} {t : List Cel} (h : groundB t = true) : putL (look s) t = t := by
  rw [put_ext (g := look []) (fun c hc h1 => by
    have := List.all_eq_true.1 h c hc
    simp [h1] at this), put_none]
end Go.Proofs.Ytfcebbfphjbkoaa
namespace Go.Proofs.Ytfcebbfphjbkoaa
open Go.RowKit

/-- append of one element, and what is read beside the row -/
theorem wpList_accK {α : Type} [RepC α] {P : Program} {w : World} {ops : Array Oper} {rest : List Oper} {o : Oper} {a : Act} {Q : Exit → Act → World → Prop} (hgd : o.guard = none) (s x : Operand) (t : TypeId)
    (ho : o.op = .call { callee := .builtin .append, args := #[s, x], argTypes := #[t, t] })
    (B e bytes : Nat) (z : Value) (ht : P.underlying t = some (.slice e)) (hinfo : (P.info? e).map (fun i => (i.zero, i.size, i.bytes)) = some (some z, Rep.sz α, bytes))
    (hzs : z.cells.size = Rep.sz α) (hby : bytes ≤ 1000)
    (v : Value) (acc : List α) (hacc : AccInv B e acc v w) (hs : a.eval s = v) (T : Nat) (cs : Array Value) (y : α) (hcs : RepC.C (hide v.ownBlock w) cs.toList y)
    (hx : a.eval x = .slice (some ⟨w.heap.size, 0, none⟩) 1 1)
    (hmax : acc.length + 1 ≤ 1000000000) (hB : B ≤ w.heap.size)
    (h : ∀ v' w', AccInv B e (acc ++ [y]) v' w' → Below B w w' → Keeps (hide v.ownBlock w) (hide v'.ownBlock w') → wpList P ops Q rest (a.put o.dst v') w') : wpList P ops Q (o :: rest) a (w.alloc (.cells cs T)) := by
  obtain ⟨vs, hown, hc⟩ := hacc.ex
  refine wpList_app2 hgd s x t ho B e (Rep.sz α) bytes z ht hinfo hzs RepC.pos hby v acc.length vs hs (hown.alloc _) ⟨w.heap.size, 0, none⟩ 1 1 cs.toList hx (src_new w cs T (Rep.sz α) (by have := RepC.len hcs; simpa using this) (fun u hu => RepC.one hcs u hu)) hmax (Nat.le_trans hB (by simp)) ?_
  intro v' w' h1 _ h3 h4
  refine h v' w' ⟨vs ++ cs.toList, by rw [List.length_append]; exact h1, ?_⟩ (((Below.refl B w).alloc hB _).trans h3) ((alloc_hide w _ _).trans h4)
  exact ((hc.keeps (alloc_hide w _ _)).keeps h4).snoc (RepC.cmono (RepC.cmono hcs (alloc_hide w _ _)) h4)
/-- append of all of a slice, and what is read beside the row -/
theorem wpList_accsK {α : Type} [RepC α] {P : Program} {w : World} {ops : Array Oper} {rest : List Oper} {o : Oper} {a : Act} {Q : Exit → Act → World → Prop} (hgd : o.guard = none) (s x : Operand) (t : TypeId)
    (ho : o.op = .call { callee := .builtin .append, args := #[s, x], argTypes := #[t, t] })
    (B e bytes : Nat) (z : Value) (ht : P.underlying t = some (.slice e)) (hinfo : (P.info? e).map (fun i => (i.zero, i.size, i.bytes)) = some (some z, Rep.sz α, bytes))
    (hzs : z.cells.size = Rep.sz α) (hby : bytes ≤ 1000)
    (v : Value) (acc : List α) (hacc : AccInv B e acc v w) (hs : a.eval s = v) (sa : Option Addr) (cap : Nat) (ys : List α) (hr : Row (hide v.ownBlock w) sa cap ys)
    (hx : a.eval x = .slice sa ys.length cap)
    (hmax : acc.length + ys.length ≤ 1000000000) (hB : B ≤ w.heap.size)
    (h : ∀ v' w', AccInv B e (acc ++ ys) v' w' → Below B w w' → Keeps (hide v.ownBlock w) (hide v'.ownBlock w') → wpList P ops Q rest (a.put o.dst v') w') : wpList P ops Q (o :: rest) a w := by
  obtain ⟨vs, hown, hc⟩ := hacc.ex
  obtain ⟨us, hu, hsrc⟩ := hr.srcK (hide_keeps _ _)
  cases sa with
  | none =>
    have h0 : ys.length = 0 := (hsrc.nil rfl).1
    have hc0 : cap = 0 := (hsrc.nil rfl).2
    obtain rfl : ys = [] := List.eq_nil_of_length_eq_zero h0
    obtain ⟨i, hi, hz0, hz1, hz2⟩ := info_parts hinfo
    subst hc0
    refine wpList_append_own_none hgd s x t ho B e i (Rep.sz α) ht hi v acc.length vs hs hown hx ?_
    exact h v w ⟨vs, by rw [List.append_nil]; exact hown, by rw [List.append_nil]; exact hc⟩ (Below.refl _ _) (fun _ _ _ h => h)
  | some ad =>
    refine wpList_app2 hgd s x t ho B e (Rep.sz α) bytes z ht hinfo hzs RepC.pos hby v acc.length vs hs hown ad ys.length cap us hx hsrc hmax hB ?_
    intro v' w' h1 _ h3 h4
    exact h v' w' ⟨vs ++ us, by rw [List.length_append]; exact h1, (hc.keeps h4).append (hu.keeps h4)⟩ h3 h4

set_option maxHeartbeats 800000 in
theorem refvars_new (a : Option Addr) (cap : Nat) (w : World) (xs : List Cel) (hr : Row w a cap xs) (hl : xs.length ≤ 1000000) :
    Calls Try.prog 32 #[.slice a xs.length cap] w fun e w' => ∃ a' cap', e = .returned (.slice a' (varsL xs).length cap') ∧ NewRow w.heap.size w' a' cap' (varsL xs) ∧ Below w.heap.size w w' := by
  have hc := hr.le
  have hc2 := hr.max
  have hm0 := World.ownsRow_made (base := w.heap.size) (e := 3) (size := 1) w #[] 0 (Nat.le_refl _) (by unfold maxLen; omega) rfl
  have hb0 := (Below.refl w.heap.size w).new (.cells #[] 3)
  go_enter Try.func32, Try.ntmps32
  go_wp2_with fail
  go_loopw [3, 4] (fun v i wr => ∃ (k : Nat) (acc : List Int), k ≤ xs.length ∧ acc.length ≤ k ∧ i = .int .i64 k ∧ wr.ownsRow w.heap.size 3 1 v acc.length (acc.map (Value.int .i64)) ∧ Below w.heap.size w wr ∧ (∀ n ∈ acc, -9223372036854775808 ≤ n ∧ n ≤ 9223372036854775807) ∧ Hid (varsL xs = varsGo acc (xs.drop k))) (fun v i wr => xs.length - (intOf i).toNat)
  case atStart => exact ⟨0, [], Nat.zero_le _, Nat.zero_le _, rfl, hm0, hb0, by simp, rfl⟩
  case round =>
    obtain ⟨k, acc, hk, hak, rfl, hown, hbl, haf, HS⟩ := hrel
    obtain ⟨a', cap', rfl, hrowN⟩ := own_rowI (under_own hown) haf
    have hrow := Row.keeps hrowN (under_keeps _ _)
    have HN := mkHid hrowN
    clear hrowN
    have HA := mkHid haf
    by_cases hlt : k < xs.length
    · obtain ⟨b, off, rfl, hb, hat⟩ := hr.cases.resolve_left (fun e => by simp [e] at hlt)
      obtain ⟨c0, c1, c2, hf⟩ := cel_at hat hbl hlt
      have hst := varsGo_step acc xs k hlt
      by_cases h1 : xs[k].k = 1
      · have t1 : (xs[k].k == 1) = true := by simp [h1]
        by_cases h2 : xs[k].n ∈ acc
        · have HT : Hid (varsL xs = varsGo acc (xs.drop (k + 1))) := by rw [Hid, HS.out, hst, if_neg (by simp [h2])]
          have hd := mkHid (decide_eq_true h2)
          clear h1 h2 HS hst haf
          go_wp2_with (go_at_call 62; refine (refin_any a' cap' xs[k].n _ acc hrow).mono ?_; rintro e w' ⟨rfl, hb1⟩; rw [hd.out])
          go_round
          case rel => exact ⟨k + 1, acc, by omega, by omega, by go_num, own_below hown hb1, hbl.then hb1, HA.out, HT⟩
          case measure => simp [intOf]; omega
        · have HT : Hid (varsL xs = varsGo (acc ++ [xs[k].n]) (xs.drop (k + 1))) := by rw [Hid, HS.out, hst, if_pos ⟨h1, h2⟩]
          have hd := mkHid (decide_eq_false h2)
          clear h1 h2 HS hst haf
          go_wp2_with (first
            | (go_at_call 62; refine (refin_any a' cap' xs[k].n _ acc hrow).mono ?_; rintro e w' ⟨rfl, hb1⟩; rw [hd.out]; have d0 := keep c0 hb1; have d2 := keep c2 hb1; have hown1 := own_below hown hb1; have hbl1 := hbl.then hb1; clear c0 c1 c2)
            | (at_builtin; refine wpList_app rfl _ _ 29 rfl w.heap.size 3 1 8 _ Try.underlying29 Try.infoInt rfl (by decide) (by decide) _ acc.length _ rfl (hown1.alloc _) (some ⟨_, 0, none⟩) 1 1 [.int .i64 xs[k].n] rfl (src_new _ #[.int .i64 xs[k].n] _ 1 rfl (by simp [Value.oneCell'])) (by omega) (Nat.le_trans hbl1.size (by simp)) ?_; intro v' w2 hown2 _ hb2))
          go_round
          case rel => exact ⟨k + 1, acc ++ [xs[k].n], by omega, by simp; omega, by go_num, by simpa using hown2, (hbl1.new _).trans hb2, out_fit HA.out hf.n1 hf.n2, HT⟩
          case measure => simp [intOf]; omega
      · have t1 : (xs[k].k == 1) = false := by simp [h1]
        have HT : Hid (varsL xs = varsGo acc (xs.drop (k + 1))) := by rw [Hid, HS.out, hst, if_neg (fun h => h1 h.1)]
        clear h1 HS hst haf
        go_wp2
        go_round
        case rel => exact ⟨k + 1, acc, by omega, by omega, by go_num, hown, hbl, HA.out, HT⟩
        case measure => simp [intOf]; omega
    · have HT : Hid (varsL xs = acc) := by rw [Hid, HS.out, List.drop_eq_nil_of_le (by omega)]; rfl
      clear HS haf
      go_wp2
      go_ret
      exact ⟨a', cap', by rw [HT.out]; rfl, by rw [HT.out]; exact HN.out, hbl⟩
end Go.Proofs.Ytfcebbfphjbkoaa
namespace Go.Proofs.Ytfcebbfphjbkoaa
open Go.RowKit

section lit
variable {w : World} {a a' : Option Addr} {cap cap' n m : Nat}
theorem ground2_lit {xs : List Cel} {b : Bool} (hx : Row w a cap xs) (hl : xs.length ≤ 1000000) (hb : groundB xs = b) :
    Calls Try.prog 35 #[.slice a xs.length cap] w fun e w' => e = .returned (.bool b) ∧ Below w.heap.size w w' := by
  subst hb; exact refground_any a cap w xs hx hl
theorem right1_lit {xs : List Cel} {b : Bool} (hx : Row w a cap xs) (hb : rightB xs = b) :
    Calls Try.prog 37 #[.slice a xs.length cap] w fun e w' => e = .returned (.bool b) ∧ Below w.heap.size w w' := by
  subst hb; exact refright_any a cap w xs hx
theorem in2_lit {xs : List Int} {k : Int} {b : Bool} (hx : Row w a cap xs) (hb : decide (k ∈ xs) = b) :
    Calls Try.prog 33 #[.slice a xs.length cap, .int .i64 k] w fun e w' => e = .returned (.bool b) ∧ Below w.heap.size w w' := by
  subst hb; exact in2_any a cap k w xs hx
end lit

set_option maxHeartbeats 16000000 in
set_option maxRecDepth 100000 in
theorem lawVars2_any (w : World) (xs : List Bnd) (ts : List Cel) (a : Option Addr) (cap : Nat) (a' : Option Addr) (cap' : Nat) (hx : Row w a cap xs) (ht : Row w a' cap' ts) :
    Calls Try.prog 10 #[.slice a xs.length cap, .slice a' ts.length cap'] w fun e w' => e = .returned (.bool true) ∧ Below w.heap.size w w' := by
  cases hM : mayB xs ts with
  | false =>
    have HM := mkHid hM
    clear hM
    go_enter Try.func10, Try.ntmps10
    go_wp2_with fail
    refine (head2_any _).mono ?_; rintro e w1 ⟨rfl, hb⟩
    go_wp2_with fail
    refine (may_lit (hx.below hb) (ht.below hb) HM.out).mono ?_; rintro e w2 ⟨rfl, hb2⟩
    go_wp2_with fail
    go_ret
    exact ⟨rfl, hb.then hb2⟩
  | true =>
  have hS := may_spec hM
  have HM := mkHid hM
  have HS := mkHid hS
  have hl := hS.l
  have hn := hS.n
  clear hM hS
  have hm := hx.max
  have hm2 := hx.le
  cases hG : groundB ts with
  | true =>
    have HG := mkHid hG
    have HP := mkHid (ground_put (s := xs) hG)
    have HB : Hid (outB (look xs) ts = true) := by rw [Hid, outB_iff, HP.out]; exact hl
    clear hG
    go_enter Try.func10, Try.ntmps10
    go_wp2_with fail
    refine (head2_any _).mono ?_; rintro e w1 ⟨rfl, hb⟩
    go_wp2_with fail
    refine (may_lit (hx.below hb) (ht.below hb) HM.out).mono ?_; rintro e w2 ⟨rfl, hb2⟩
    replace hb := hb.then hb2
    go_wp2_with fail
    refine (apply_yes (hx.below hb) (ht.below hb) (by omega) (by omega) HS.out.e HB.out).mono ?_; rintro e w5 ⟨a5, cap5, rfl, r5, hb5⟩
    rw [HP.out] at r5 ⊢
    replace hb := hb.then hb5
    replace r5 := r5.row
    go_wp2_with fail
    refine (ground2_lit (ht.below hb) (by omega) HG.out).mono ?_; rintro e w6 ⟨rfl, hb6⟩
    replace hb := hb.then hb6
    replace r5 := r5.below hb6
    go_wp2_with fail
    refine (refsame1_lit rfl r5 rfl (ht.below hb) (b := true) (by simp)).mono ?_; rintro e w7 ⟨rfl, hb7⟩
    go_wp2_with fail
    go_ret
    exact ⟨rfl, hb.then hb7⟩
  | false =>
  have HG := mkHid hG
  clear hG
  cases hB : outB (look xs) ts with
  | false =>
    have HB := mkHid hB
    clear hB
    go_enter Try.func10, Try.ntmps10
    go_wp2_with fail
    refine (head2_any _).mono ?_; rintro e w1 ⟨rfl, hb⟩
    go_wp2_with fail
    refine (may_lit (hx.below hb) (ht.below hb) HM.out).mono ?_; rintro e w2 ⟨rfl, hb2⟩
    replace hb := hb.then hb2
    go_wp2_with fail
    refine (apply_no (hx.below hb) (ht.below hb) (by omega) (by omega) HS.out.e HB.out).mono ?_; rintro e w5 ⟨a5, cap5, rfl, r5, hb5⟩
    replace hb := hb.then hb5
    clear r5
    go_wp2_with fail
    refine (ground2_lit (ht.below hb) (by omega) HG.out).mono ?_; rintro e w6 ⟨rfl, hb6⟩
    replace hb := hb.then hb6
    go_wp2_with fail
    go_ret
    exact ⟨rfl, hb⟩
  | true =>
    have h200 := outB_iff.1 hB
    have HB := mkHid hB
    have HR := mkHid (put_right HS.out.ok HS.out.rt h200)
    have HVP := mkHid (vars_put xs ts)
    have hGl := varsL_le (putL (look xs) ts)
    have hVl := varsL_le ts
    have HWl := mkHid (fun V => want_le HS.out.T V)
    clear hB
    go_enter Try.func10, Try.ntmps10
    go_wp2_with fail
    refine (head2_any _).mono ?_; rintro e w1 ⟨rfl, hb⟩
    go_wp2_with fail
    refine (may_lit (hx.below hb) (ht.below hb) HM.out).mono ?_; rintro e w2 ⟨rfl, hb2⟩
    replace hb := hb.then hb2
    go_wp2_with fail
    refine (apply_yes (hx.below hb) (ht.below hb) (by omega) (by omega) HS.out.e HB.out).mono ?_; rintro e w5 ⟨a5, cap5, rfl, r5, hb5⟩
    replace hb := hb.then hb5
    replace r5 := r5.row
    go_wp2_with fail
    refine (ground2_lit (ht.below hb) (by omega) HG.out).mono ?_; rintro e w6 ⟨rfl, hb6⟩
    replace hb := hb.then hb6
    replace r5 := r5.below hb6
    have hx6 := hx.below hb
    have hm0 := AccInv.made (α := Int) (B := w6.heap.size) (e := 3) w6 (Nat.le_refl _) rfl
    have hb0 := (Below.refl w6.heap.size w6).new (.cells #[] 3)
    have ht6 := (ht.below hb).below hb0
    go_wp2_with fail
    refine (refvars_new a' cap' _ ts ht6 (by omega)).mono ?_; rintro e w7 ⟨av, capv, rfl, hrn, hb7⟩
    replace hm0 := hm0.below hb7
    replace hb0 := hb0.then hb7
    have hrh : Row (hide (some w6.heap.size) w7) av capv (varsL ts) := hrn.hide (fun g e => by cases e; simp)
    clear hrn hb7 ht6
    generalize putL (look xs) ts = X at *
    generalize varsL ts = V at *
    go_wp2_with fail
    go_loopw [8, 10, 11] (fun v i at_ wr => ∃ k : Nat, k ≤ V.length ∧ i = .int .i64 k ∧ AccInv w6.heap.size 3 (wantL xs (V.take k)) v wr ∧ Below w6.heap.size w6 wr ∧ Row (hide v.ownBlock wr) av capv V) (fun v i at_ wr => V.length - (intOf i).toNat)
    case atStart => exact ⟨0, Nat.zero_le _, rfl, by simpa [wantL] using hm0, hb0, hrh⟩
    case round =>
      clear hm0 hb0 hrh
      obtain ⟨k, hk, rfl, hacc, hbl, hrh⟩ := hrel
      by_cases hlt : k < V.length
      · obtain ⟨b, off, rfl, hb', hat⟩ := (Row.keeps hrh (hide_keeps _ _)).cases.resolve_left (fun e => by simp [e] at hlt)
        obtain ⟨d0, n1, n2⟩ := int_at hat (Below.refl _ _) hlt
        have hle := HWl.out (V.take k)
        have hlk : (V.take k).length ≤ k := List.length_take_le _ _
        have HTk := mkHid (want_take (s := xs) hlt)
        rcases place_look xs V[k] with ⟨hp, hlk2, _⟩ | ⟨i, hi, hp, _, hlk2⟩
        · have HC : Hid (wantL xs (V.take (k + 1)) = wantL xs (V.take k) ++ [V[k]]) := by
            rw [Hid, HTk.out]; unfold wantC; rw [hlk2]; rfl
          have HQ := mkHid hp
          clear hp hlk2
          go_wp2_with (first
            | (go_at_call 36; refine (place2_any _ cap _ _ xs (hx6.below hbl)).mono ?_; rintro e w8 ⟨rfl, hb8⟩; rw [HQ.out]; have hbl2 := hbl.then hb8; have hacc2 := hacc.below hb8; have e0 := keep d0 hb8; have hrh2 := Row.keeps hrh (below_hide hb8 _); clear d0)
            | (at_builtin; refine wpList_accK (α := Int) rfl _ _ 29 rfl w6.heap.size 3 8 _ Try.underlying29 Try.infoInt rfl (by decide) _ (wantL xs (V.take k)) hacc2 (by rfl) _ #[.int .i64 V[k]] V[k] ⟨rfl, n1, n2⟩ (by rfl) (by omega) hbl2.size ?_; intro v' w9 hacc3 hb9 hk9))
          go_round
          case rel => exact ⟨k + 1, by omega, by go_num, hacc3.lit HC.out.symm, hbl2.trans hb9, Row.keeps hrh2 hk9⟩
          case measure => simp [intOf]; omega
        · have HC : Hid (wantL xs (V.take (k + 1)) = wantL xs (V.take k) ++ varsL xs[i].t) := by
            rw [Hid, HTk.out]; unfold wantC; rw [hlk2]; rfl
          have HQ := mkHid hp
          have hTi := HS.out.T xs[i] (List.getElem_mem hi)
          have hVi := varsL_le xs[i].t
          obtain ⟨bx, offx, rfl, hbx', hatx⟩ := hx6.cases.resolve_left (fun e => by simp [e] at hi)
          clear hp hlk2
          go_wp2_with (first
            | (go_at_call 36; refine (place2_any _ cap _ _ xs (hx6.below hbl)).mono ?_; rintro e w8 ⟨rfl, hb8⟩; rw [HQ.out]; have hbl2 := hbl.then hb8; have hacc2 := hacc.below hb8; have hrh2 := Row.keeps hrh (below_hide hb8 _); obtain ⟨a1, cap1, e0, e1, hr1, _, _⟩ := bnd_at hatx hbl2 hi; clear d0)
            | (go_at_call 32; refine (refvars_new _ _ _ xs[i].t hr1 (by omega)).mono ?_; rintro e w9 ⟨a2, cap2, rfl, hr2, hb9⟩; have hbl3 := hbl2.then hb9; have hacc3 := hacc2.below hb9; have hrh3 := Row.keeps hrh2 (below_hide hb9 _); have hC := hacc2.newer (Nat.le_refl _) hr2)
            | (at_builtin; refine wpList_accsK (α := Int) rfl _ _ 29 rfl w6.heap.size 3 8 _ Try.underlying29 Try.infoInt rfl (by decide) _ (wantL xs (V.take k)) hacc3 (by rfl) _ _ (varsL xs[i].t) hC (by rfl) (by omega) hbl3.size ?_; intro v' w10 hacc4 hb10 hk10))
          go_round
          case rel => exact ⟨k + 1, by omega, by go_num, hacc4.lit HC.out.symm, hbl3.trans hb10, Row.keeps hrh3 hk10⟩
          case measure => simp [intOf]; omega
      · have hle := HWl.out V
        have HL : Hid (V.take k = V) := List.take_of_length_le (by omega)
        obtain ⟨aw, capw, rfl, hrw⟩ := hacc.row
        rw [HL.out] at hrw ⊢
        clear hacc hrh
        replace hb := hb.then hbl
        replace r5 := r5.below hbl
        have HGW : Hid (∀ n, n ∈ varsL X ↔ n ∈ wantL xs V) := HVP.out
        clear hbl hx6 HL
        go_wp2_with fail
        refine (refvars_any _ _ _ X r5 (by omega)).mono ?_; rintro e w8 ⟨ag, capg, rfl, hrg, hb8⟩
        replace hb := hb.then hb8
        replace r5 := r5.below hb8
        replace hrw := hrw.below hb8
        generalize wantL xs V = W at *
        generalize varsL X = G at *
        have hb80 := Below.refl w8.heap.size w8
        go_wp2_with fail
        go_loopw [13] (fun i wr => ∃ k : Nat, k ≤ G.length ∧ i = .int .i64 k ∧ Below w8.heap.size w8 wr) (fun i wr => G.length - (intOf i).toNat)
        case atStart => exact ⟨0, Nat.zero_le _, rfl, hb80⟩
        case round =>
          clear hb80
          obtain ⟨k2, hk2, rfl, hbl⟩ := hrel
          by_cases hlt : k2 < G.length
          · obtain ⟨b, off, rfl, hb', hat⟩ := hrg.cases.resolve_left (fun e => by simp [e] at hlt)
            obtain ⟨d0, n1, n2⟩ := int_at hat hbl hlt
            have HD : Hid (decide (G[k2] ∈ W) = true) := by rw [Hid, decide_eq_true_eq]; exact (HGW.out _).1 (List.getElem_mem hlt)
            go_wp2_with (go_at_call 33; refine (in2_lit (hrw.below hbl) HD.out).mono ?_; rintro e w9 ⟨rfl, hb9⟩)
            go_round
            case rel => exact ⟨k2 + 1, by omega, by go_num, hbl.then hb9⟩
            case measure => simp [intOf]; omega
          · replace hb := hb.then hbl
            replace r5 := r5.below hbl
            replace hrw := hrw.below hbl
            replace hrg := hrg.below hbl
            clear hbl
            have hb80 := Below.refl wr.heap.size wr
            go_wp2_with fail
            go_loopw [14] (fun i wz => ∃ k : Nat, k ≤ W.length ∧ i = .int .i64 k ∧ Below wr.heap.size wr wz) (fun i wz => W.length - (intOf i).toNat)
            case atStart => exact ⟨0, Nat.zero_le _, rfl, hb80⟩
            case round =>
              clear hb80
              obtain ⟨k3, hk3, rfl, hbl⟩ := hrel
              by_cases hlt : k3 < W.length
              · obtain ⟨b, off, rfl, hb', hat⟩ := hrw.cases.resolve_left (fun e => by simp [e] at hlt)
                obtain ⟨d0, n1, n2⟩ := int_at hat hbl hlt
                have HD : Hid (decide (W[k3] ∈ G) = true) := by rw [Hid, decide_eq_true_eq]; exact (HGW.out _).2 (List.getElem_mem hlt)
                go_wp2_with (go_at_call 33; refine (in2_lit (hrg.below hbl) HD.out).mono ?_; rintro e w9 ⟨rfl, hb9⟩)
                go_round
                case rel => exact ⟨k3 + 1, by omega, by go_num, hbl.then hb9⟩
                case measure => simp [intOf]; omega
              · go_wp2_with fail
                refine (right1_lit (r5.below hbl) HR.out).mono ?_; rintro e w10 ⟨rfl, hb10⟩
                go_wp2_with fail
                go_ret
                exact ⟨rfl, (hb.then hbl).then hb10⟩
end Go.Proofs.Ytfcebbfphjbkoaa
namespace Go.Proofs.Ytfcebbfphjbkoaa
open Go.RowKit Go.ChangeShapes Go.WideShapes Go.Deep Go.ChangeAt

theorem Try.own : ownKnob Try.prog.godebug = none := by kernel_rfl
theorem Try.laidOut : laidOutB Try.prog = true := by kernel_rfl
theorem Try.cells24 : Try.prog.cellsOf 24 = 3 := by kernel_rfl
theorem Try.cells22 : Try.prog.cellsOf 22 = 1 := by kernel_rfl
theorem Try.cells3 : Try.prog.cellsOf 3 = 1 := by kernel_rfl
theorem Try.cells9 : Try.prog.cellsOf 9 = 1 := by kernel_rfl

theorem i64_wf {n : Int} (h : (Lit.int .i64 n).wf = true) : -9223372036854775808 ≤ n ∧ n ≤ 9223372036854775807 := by
  simp [Lit.wf, IntKind.min, IntKind.max, IntKind.signed, IntKind.bits] at h
  omega
theorem add_lit (b o j : Nat) : (Addr.mk b o none).add j = ⟨b, o + j, none⟩ := by unfold Addr.add; split <;> simp_all

section
variable {H : Type} {enc : TypeId × Value → H} {w : World} {spare : Nat → Bool} {held : Bool}
set_option maxRecDepth 100000 in
/-- three cells that read as a cell of a term -/
theorem open_cell {n : Nat} {cs : List Value} {x : DataW H × List MemPlace} (h : DataW.trod enc Try.prog w 0 spare held n 24 cs = some x) :
    ∃ c : Cel, cs = [.int .i64 c.k, .string c.s, .int .i64 c.n] ∧ c.fit := by
  obtain ⟨ys, m, _, _, hlen, hyl, hf⟩ := DataW.trod_struct Try.underlying24 h
  rw [Try.cells24] at hlen
  match cs, hlen with
  | [v0, v1, v2], _ =>
    have h0 : DataW.trod enc Try.prog w 0 spare held m 3 (([v0, v1, v2].drop 0).take (Try.prog.cellsOf 3)) = ys[0]? := hf 0 _ rfl
    have h1 : DataW.trod enc Try.prog w 0 spare held m 9 (([v0, v1, v2].drop 1).take (Try.prog.cellsOf 9)) = ys[1]? := hf 1 _ rfl
    have h2 : DataW.trod enc Try.prog w 0 spare held m 3 (([v0, v1, v2].drop 2).take (Try.prog.cellsOf 3)) = ys[2]? := hf 2 _ rfl
    rw [Try.cells3] at h0 h2
    rw [Try.cells9] at h1
    have hy : ∀ i : Nat, i < 3 → ∃ y, ys[i]? = some y := fun i hi => ⟨_, List.getElem?_eq_getElem (by rw [hyl]; exact hi)⟩
    obtain ⟨y0, e0⟩ := hy 0 (by omega)
    obtain ⟨y1, e1⟩ := hy 1 (by omega)
    obtain ⟨y2, e2⟩ := hy 2 (by omega)
    rw [e0] at h0
    rw [e1] at h1
    rw [e2] at h2
    obtain ⟨a0, q0, _, f0⟩ := DataW.trod_int Try.underlying3 h0
    obtain ⟨a1, q1, _, f1⟩ := DataW.trod_string Try.underlying9 h1
    obtain ⟨a2, q2, _, f2⟩ := DataW.trod_int Try.underlying3 h2
    simp at q0 q1 q2
    refine ⟨⟨a0, a1, a2⟩, by rw [q0, q1, q2], ⟨(i64_wf f0).1, (i64_wf f0).2, (i64_wf f2).1, (i64_wf f2).2, by unfold maxLen at f1; exact f1⟩⟩

/-- what rows of a kind are made of -/
theorem open_rows {α : Type} [Rep α] {t e : TypeId} (ht : Try.prog.underlying t = some (.slice e)) (hC : Try.prog.cellsOf e = Rep.sz α)
    (hE : ∀ (n : Nat) (a : Addr) (cs : List Value) (x : DataW H × List MemPlace), w.cells? 0 a (Rep.sz α) = some cs → DataW.trod enc Try.prog w 0 (fun _ => true) held n e cs = some x → ∃ (b o : Nat) (y : α), a = ⟨b, o, none⟩ ∧ Rep.E w b o y)
    {fuel : Nat} {a : Option Addr} {len cap : Nat} {x : DataW H × List MemPlace} (h : DataW.trod enc Try.prog w 0 (fun _ => true) held fuel t [.slice a len cap] = some x) :
    ∃ xs : List α, xs.length = len ∧ Row w a cap xs := by
  rcases open_slice ht h with ⟨hcs, _⟩ | ⟨ad, l, c, m, n, D, Pl, hcs, _, hl, hm, hmm, _, hi⟩
  · simp at hcs
    obtain ⟨rfl, rfl, rfl⟩ := hcs
    exact ⟨[], rfl, Row.empty _ _ _ (by omega) (fun _ => rfl)⟩
  · simp at hcs
    obtain ⟨rfl, rfl, rfl⟩ := hcs
    simp only [if_true] at hmm
    subst hmm
    have key : ∀ i, i < len → ∃ (b o : Nat) (y : α), ad.add (i * Rep.sz α) = ⟨b, o, none⟩ ∧ Rep.E w b o y := by
      intro i hil
      obtain ⟨cs', hc, ht'⟩ := hi i (by omega)
      rw [hC] at hc
      exact hE n _ cs' _ hc ht'
    have hy : ∀ i : Fin len, ∃ y : α, ∃ b o, ad.add (i.val * Rep.sz α) = ⟨b, o, none⟩ ∧ Rep.E w b o y := fun i => by
      obtain ⟨b, o, y, e1, e2⟩ := key i.val i.isLt
      exact ⟨y, b, o, e1, e2⟩
    let f : Fin len → α := fun i => Classical.choose (hy i)
    have hf : ∀ i : Fin len, ∃ b o, ad.add (i.val * Rep.sz α) = ⟨b, o, none⟩ ∧ Rep.E w b o (f i) := fun i => Classical.choose_spec (hy i)
    refine ⟨List.ofFn f, List.length_ofFn, ⟨by rw [List.length_ofFn]; exact hl, by unfold maxLen at hm; omega, (fun e => by cases e), fun i x hx => ?_⟩⟩
    have hil : i < len := by
      have := (List.getElem?_eq_some_iff.1 hx).1; rwa [List.length_ofFn] at this
    have hx' : f ⟨i, hil⟩ = x := by
      rw [List.getElem?_eq_getElem (by rw [List.length_ofFn]; exact hil), List.getElem_ofFn] at hx
      exact Option.some.inj hx
    obtain ⟨b, o, e1, e2⟩ := hf ⟨i, hil⟩
    obtain ⟨b0, o0, s0⟩ := ad
    have hz := hf ⟨0, by omega⟩
    obtain ⟨b1, o1, e3, _⟩ := hz
    simp only [Nat.zero_mul, Addr.add, if_true] at e3
    injection e3 with e3 e4 e5
    subst e5
    rw [add_lit] at e1
    injection e1 with e1 e6
    subst e1
    refine ⟨b0, o0, rfl, ?_⟩
    rw [hx'] at e2
    rw [← e6] at e2
    exact e2

theorem spot_none {a : Addr} {v : Value} (h : w.cell? a = some v) : ∃ b o, a = ⟨b, o, none⟩ := by
  have := World.cell?_spot h
  obtain ⟨b, o, s⟩ := a
  simp at this
  subst this
  exact ⟨b, o, rfl⟩
theorem E_cell (n : Nat) (a : Addr) (cs : List Value) (x : DataW H × List MemPlace) (hc : w.cells? 0 a 3 = some cs) (h : DataW.trod enc Try.prog w 0 spare held n 24 cs = some x) : ∃ (b o : Nat) (y : Cel), a = ⟨b, o, none⟩ ∧ Rep.E w b o y := by
  obtain ⟨c, rfl, hf⟩ := open_cell h
  obtain ⟨_, _, hat⟩ := World.cells?_some hc
  have h0 := hat 0 (by omega)
  obtain ⟨b, o, rfl⟩ : ∃ b o, a = ⟨b, o, none⟩ := spot_none (by simpa [Addr.add] using h0)
  refine ⟨b, o, c, rfl, ?_⟩
  have h1 := hat 1 (by omega)
  have h2 := hat 2 (by omega)
  rw [add_lit] at h0 h1 h2
  exact ⟨h0, h1, h2, hf⟩
/-- []Cell -/
theorem open_cells {fuel : Nat} {a : Option Addr} {len cap : Nat} {x : DataW H × List MemPlace} (h : DataW.trod enc Try.prog w 0 (fun _ => true) held fuel 22 [.slice a len cap] = some x) :
    ∃ xs : List Cel, xs.length = len ∧ Row w a cap xs :=
  open_rows Try.underlying22 Try.cells24 (fun n a cs x h1 h2 => E_cell n a cs x h1 h2) h
theorem E_list {α : Type} [Rep α] {e : TypeId} {el : TypeId} (he : Try.prog.underlying e = some (.slice el))
    (hop : ∀ {fuel : Nat} {a : Option Addr} {len cap : Nat} {x : DataW H × List MemPlace}, DataW.trod enc Try.prog w 0 (fun _ => true) held fuel e [.slice a len cap] = some x → ∃ xs : List α, xs.length = len ∧ Row w a cap xs)
    (n : Nat) (a : Addr) (cs : List Value) (x : DataW H × List MemPlace) (hc : w.cells? 0 a 1 = some cs) (h : DataW.trod enc Try.prog w 0 (fun _ => true) held n e cs = some x) : ∃ (b o : Nat) (y : List α), a = ⟨b, o, none⟩ ∧ Rep.E w b o y := by
  obtain ⟨_, hl, hat⟩ := World.cells?_some hc
  have h0 := hat 0 (by omega)
  match cs, hl with
  | [v], _ =>
    have hv : ∃ a' len cap, v = .slice a' len cap := by
      rcases open_slice he h with ⟨hcs, _⟩ | ⟨ad, l, c, m, n, D, Pl, hcs, _⟩
      · simp at hcs; exact ⟨_, _, _, hcs⟩
      · simp at hcs; exact ⟨_, _, _, hcs⟩
    obtain ⟨a', len, cap, rfl⟩ := hv
    obtain ⟨xs, rfl, hr⟩ := hop h
    obtain ⟨b, o, rfl⟩ : ∃ b o, a = ⟨b, o, none⟩ := spot_none (by simpa [Addr.add] using h0)
    rw [add_lit] at h0
    exact ⟨b, o, xs, rfl, ⟨a', cap, h0, hr⟩⟩
/-- [][]Cell -/
theorem open_cellss {fuel : Nat} {a : Option Addr} {len cap : Nat} {x : DataW H × List MemPlace} (h : DataW.trod enc Try.prog w 0 (fun _ => true) held fuel 49 [.slice a len cap] = some x) :
    ∃ xs : List (List Cel), xs.length = len ∧ Row w a cap xs :=
  open_rows Try.underlying49 Try.cells22 (fun n a cs x h1 h2 => E_list (α := Cel) Try.underlying22 open_cells n a cs x h1 h2) h
end
end Go.Proofs.Ytfcebbfphjbkoaa
namespace Go.Proofs.Ytfcebbfphjbkoaa
open Go.RowKit Go.ChangeShapes Go.WideShapes Go.Deep Go.ChangeAt

theorem Try.cells46 : Try.prog.cellsOf 46 = 2 := by kernel_rfl
section
variable {H : Type} {enc : TypeId × Value → H} {w : World} {held : Bool}
set_option maxRecDepth 100000 in
/-- two cells that read as a binding -/
theorem open_bind {n : Nat} {cs : List Value} {x : DataW H × List MemPlace} (h : DataW.trod enc Try.prog w 0 (fun _ => true) held n 46 cs = some x) :
    ∃ (v : Int) (t : List Cel) (a : Option Addr) (cap : Nat), cs = [.int .i64 v, .slice a t.length cap] ∧ Row w a cap t ∧ -9223372036854775808 ≤ v ∧ v ≤ 9223372036854775807 := by
  obtain ⟨ys, m, _, _, hlen, hyl, hf⟩ := DataW.trod_struct Try.underlying46 h
  rw [Try.cells46] at hlen
  match cs, hlen with
  | [v0, v1], _ =>
    have h0 : DataW.trod enc Try.prog w 0 (fun _ => true) held m 3 (([v0, v1].drop 0).take (Try.prog.cellsOf 3)) = ys[0]? := hf 0 _ rfl
    have h1 : DataW.trod enc Try.prog w 0 (fun _ => true) held m 22 (([v0, v1].drop 1).take (Try.prog.cellsOf 22)) = ys[1]? := hf 1 _ rfl
    rw [Try.cells3] at h0
    rw [Try.cells22] at h1
    have hy : ∀ i : Nat, i < 2 → ∃ y, ys[i]? = some y := fun i hi => ⟨_, List.getElem?_eq_getElem (by rw [hyl]; exact hi)⟩
    obtain ⟨y0, e0⟩ := hy 0 (by omega)
    obtain ⟨y1, e1⟩ := hy 1 (by omega)
    rw [e0] at h0
    rw [e1] at h1
    obtain ⟨a0, q0, _, f0⟩ := DataW.trod_int Try.underlying3 h0
    simp at q0
    have h1' : DataW.trod enc Try.prog w 0 (fun _ => true) held m 22 [v1] = some y1 := by simpa using h1
    have hv : ∃ a' len cap, v1 = .slice a' len cap := by
      rcases open_slice Try.underlying22 h1' with ⟨hcs, _⟩ | ⟨ad, l, c, m, n, D, Pl, hcs, _⟩
      · simp at hcs; exact ⟨_, _, _, hcs⟩
      · simp at hcs; exact ⟨_, _, _, hcs⟩
    obtain ⟨a', len, cap, rfl⟩ := hv
    obtain ⟨xs, rfl, hr⟩ := open_cells h1'
    exact ⟨a0, xs, a', cap, by rw [q0], hr, (i64_wf f0).1, (i64_wf f0).2⟩
theorem E_bind (n : Nat) (a : Addr) (cs : List Value) (x : DataW H × List MemPlace) (hc : w.cells? 0 a 2 = some cs) (h : DataW.trod enc Try.prog w 0 (fun _ => true) held n 46 cs = some x) : ∃ (b o : Nat) (y : Bnd), a = ⟨b, o, none⟩ ∧ Rep.E w b o y := by
  obtain ⟨v, t, a', cap, rfl, hr, hl, hh⟩ := open_bind h
  obtain ⟨_, _, hat⟩ := World.cells?_some hc
  have h0 := hat 0 (by omega)
  obtain ⟨b, o, rfl⟩ : ∃ b o, a = ⟨b, o, none⟩ := spot_none (by simpa [Addr.add] using h0)
  refine ⟨b, o, ⟨v, t⟩, rfl, ?_⟩
  have h1 := hat 1 (by omega)
  rw [add_lit] at h0 h1
  exact ⟨⟨a', cap, h0, h1, hr⟩, hl, hh⟩
/-- []Bind -/
theorem open_binds {fuel : Nat} {a : Option Addr} {len cap : Nat} {x : DataW H × List MemPlace} (h : DataW.trod enc Try.prog w 0 (fun _ => true) held fuel 28 [.slice a len cap] = some x) :
    ∃ xs : List Bnd, xs.length = len ∧ Row w a cap xs :=
  open_rows Try.underlying28 Try.cells46 (fun n a cs x h1 h2 => E_bind n a cs x h1 h2) h
end
end Go.Proofs.Ytfcebbfphjbkoaa
namespace Go.Proofs.Ytfcebbfphjbkoaa
open Go.RowKit Go.ChangeShapes Go.WideShapes Go.ChangeAt
open Go.ChangeMaps (open_string)

set_option maxRecDepth 100000 in
set_option maxHeartbeats 1000000 in
theorem SubstVars_lifted (os : Os) (started : os.Started) (H : Type) (enc : TypeId × Value → H) :
    ReturnsInHanded {} Try.checked os 10 .any (Rows.substVarsSpec.pre6 enc Try.prog Try.f10 Rows.substVarsRow.domain false) (Rows.substVarsSpec.post enc Try.prog Try.f10 false true false false) := by
  refine returnsInHanded_of_change (C := Try.checked) Try.own started (by kernel_rfl) Try.func10
    (ChangeSpec.witness6 (enc := enc) (C := Try.checked) false ⟨#[], #[.slice none 0 0, .slice none 0 0], []⟩ 8 (by kernel_rfl) (by kernel_rfl) (by kernel_rfl) (by kernel_rfl)) ?_
  intro W base args ds gs before hval0 hW hcnd _
  have hval : ∀ (j : Nat) t v, Try.f10.params[j]? = some t → args[j]? = some v → Value.okWide Try.prog W .any base t v := hval0
  have hW' := hW
  obtain ⟨p, q, hA0, hV, rfl, hfz, hnd⟩ := hW
  have hA : DataW.TrodAll enc Try.prog W 0 (fun _ => true) true Try.f10.params.toList args.toList ds p := hA0
  rw [Try.params10] at hA hval
  obtain ⟨v0, vs0, d0, ds0, p0, q0, hargs, rfl, rfl, h0, r0⟩ := trodAll_cons hA
  obtain ⟨v1, vs1, d1, ds1, p1, q1, rfl, rfl, rfl, h1, r1⟩ := trodAll_cons r0
  obtain ⟨rfl, rfl, rfl⟩ := trodAll_nil r1
  obtain rfl : args = #[v0, v1] := by cases args; simp_all
  obtain ⟨rfl, rfl⟩ := trodVars_none hV
  have k0 := h0
  have lt0 : ∀ x ∈ p0, x.block < W.heap.size := by obtain ⟨m, hm⟩ := k0; exact DataW.trod_lt m _ _ _ hm
  obtain ⟨a0, len0, cap0, rfl⟩ := okWide_slice Try.underlying28 (hval 0 28 v0 rfl rfl)
  obtain ⟨xs0, rfl, hr0⟩ : ∃ xs : List Bnd, xs.length = len0 ∧ Row W a0 cap0 xs := by
    obtain ⟨fuel, hf⟩ := h0
    exact open_binds hf
  have k1 := h1
  have lt1 : ∀ x ∈ p1, x.block < W.heap.size := by obtain ⟨m, hm⟩ := k1; exact DataW.trod_lt m _ _ _ hm
  obtain ⟨a1, len1, cap1, rfl⟩ := okWide_slice Try.underlying22 (hval 1 22 v1 rfl rfl)
  obtain ⟨xs1, rfl, hr1⟩ : ∃ xs : List Cel, xs.length = len1 ∧ Row W a1 cap1 xs := by
    obtain ⟨fuel, hf⟩ := h1
    exact open_cells hf
  clear hA0 hval0
  refine (lawVars2_any W xs0 xs1 a0 cap0 a1 cap1 hr0 hr1).mono fun e W' ⟨he, bel⟩ => ?_
  subst he
  exact ⟨_, rfl, _, _, _, [], _, [], hW', trodAll_mk1 (shut_bool Try.underlying4 _), (trodAll_cons_mk (Below.trod Try.laidOut (by kernel_rfl) (of_decide_eq_true (by kernel_rfl)) k0 bel lt0) (trodAll_cons_mk (Below.trod Try.laidOut (by kernel_rfl) (of_decide_eq_true (by kernel_rfl)) k1 bel lt1) trodAll_mk0)), rfl, bel.frame _, fun h => by cases h⟩

theorem SubstVars_over : Rows.substVarsRow.holds Try.pinned (OpenSpec.ofChange Rows.substVarsSpec) :=
  OpenClaim.holds_of_wide 10 Try.f10 rfl rfl rfl rfl rfl rfl rfl ⟨rfl, rfl, rfl, rfl, rfl⟩ rfl rfl rfl rfl rfl (by kernel_rfl) Try.func10 (by kernel_rfl)
    (of_decide_eq_true (by kernel_rfl)) (by unfold Func.isWrapper; first | (rw [if_pos (by decide +kernel)]; kernel_rfl) | (rw [if_neg (by decide +kernel)]; exact ⟨rfl, rfl⟩))
    (fun os started H enc _ => SubstVars_lifted os started H enc)

theorem SubstVars_holds : Rows.SubstVarsSaid := SubstVars_over
end Go.Proofs.Ytfcebbfphjbkoaa
