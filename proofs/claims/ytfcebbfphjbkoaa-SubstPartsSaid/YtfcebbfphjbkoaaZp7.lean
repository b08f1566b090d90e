/-
  Of layer 2 of sorrel: whatever rows of bindings and of cells come in, the law SubstParts returns true, and all reads as it did: what is put into a term is put into each of its parts, and its name stays. No condition.
-/
import Derived.Test.YtfcebbfphjbkoaaZp6
import Derived.Deep.RegionHeld3
import Derived.Deep.Slices
import Derived.Deep.Fields
import Derived.ChangeSame
import Derived.ProofKit
import Derived.OpenShut
import Derived.ShutString
import Derived.ChangeOld
import Derived.Lib.SmallJoins
namespace Go.Proofs.Ytfcebbfphjbkoaa
open Go.RowKit

/-- what the document's May says -/
structure MayS (s : List Bnd) (t : List Cel) : Prop where
  rs : rightS s = true
  rt : rightB t = true
  l : t.length ≤ 200
  n : s.length ≤ 30
  T : ∀ b ∈ s, b.t.length ≤ 200
  e : lookL s = look s
  ok : okF (look s)
theorem right_le {t : List Cel} (h : rightB t = true) : t.length ≤ 200 := (right_iff.1 h).1
theorem rightS_T {s : List Bnd} (h : rightS s = true) : ∀ b ∈ s, b.t.length ≤ 200 := fun b hb => right_le (rightG_mem h b hb).2.2.1
theorem may_spec {s : List Bnd} {t : List Cel} (h : mayB s t = true) : MayS s t := by
  unfold mayB fewB at h
  simp only [Bool.and_eq_true, decide_eq_true_eq] at h
  exact ⟨h.1.2, h.2, right_le h.2, h.1.1.2.2, rightS_T h.1.2, lookL_eq (rightG_rise h.1.2), okF_look h.1.2⟩
theorem putC_le2 {s : List Bnd} (h : ∀ b ∈ s, b.t.length ≤ 200) (c : Cel) : (putC (look s) c).length ≤ 200 := by
  unfold putC
  split
  · cases hl : look s c.n with
    | none => simp
    | some t =>
      obtain ⟨b, hb, _, rfl⟩ := look_mem hl
      simpa using h b hb
  · simp
theorem putL_le2 {s : List Bnd} (h : ∀ b ∈ s, b.t.length ≤ 200) (t : List Cel) : (putL (look s) t).length ≤ 200 * t.length := by
  induction t with
  | nil => simp [putL]
  | cons c t ih =>
    have := putC_le2 h c
    rw [putL_cons, List.length_append, List.length_cons]; omega
section lit
variable {w : World} {a a' : Option Addr} {cap cap' : Nat}
theorem may_lit {xs : List Bnd} {ys : List Cel} {b : Bool} (hx : Row w a cap xs) (hy : Row w a' cap' ys) (hb : mayB xs ys = b) :
    Calls Try.prog 20 #[.slice a xs.length cap, .slice a' ys.length cap'] w fun e w' => e = .returned (.bool b) ∧ Below w.heap.size w w' := by
  subst hb; exact may2_any a cap a' cap' w xs ys hx hy
/-- put in, in terms of the first binding -/
theorem apply_yes {xs : List Bnd} {ys : List Cel} (hx : Row w a cap xs) (hy : Row w a' cap' ys) (hl : xs.length ≤ 1000000) (hl2 : ys.length ≤ 10000) (he : lookL xs = look xs) (ho : outB (look xs) ys = true) :
    Calls Try.prog 21 #[.slice a xs.length cap, .slice a' ys.length cap'] w fun e w' => ∃ a2 cap2, e = .returned (.tuple #[.slice a2 (putL (look xs) ys).length cap2, .bool true]) ∧ NewRow w.heap.size w' a2 cap2 (putL (look xs) ys) ∧ Below w.heap.size w w' := by
  have h := applysub_any a cap a' cap' w xs ys hx hy hl hl2
  rw [he, ho, show outL (look xs) ys = putL (look xs) ys by unfold outL; rw [if_pos ho]] at h
  exact h
theorem apply_no {xs : List Bnd} {ys : List Cel} (hx : Row w a cap xs) (hy : Row w a' cap' ys) (hl : xs.length ≤ 1000000) (hl2 : ys.length ≤ 10000) (he : lookL xs = look xs) (ho : outB (look xs) ys = false) :
    Calls Try.prog 21 #[.slice a xs.length cap, .slice a' ys.length cap'] w fun e w' => ∃ a2 cap2, e = .returned (.tuple #[.slice a2 0 cap2, .bool false]) ∧ NewRow w.heap.size w' a2 cap2 ([] : List Cel) ∧ Below w.heap.size w w' := by
  have h := applysub_any a cap a' cap' w xs ys hx hy hl hl2
  rw [he, ho, show outL (look xs) ys = [] by unfold outL; rw [if_neg (by simp [ho])]] at h
  exact h
end lit

set_option maxHeartbeats 4000000 in
set_option maxRecDepth 100000 in
theorem lawLong_any (w : World) (xs : List Bnd) (ys : List Cel) (a : Option Addr) (cap : Nat) (a' : Option Addr) (cap' : Nat) (hx : Row w a cap xs) (hy : Row w a' cap' ys) :
    Calls Try.prog 11 #[.slice a xs.length cap, .slice a' ys.length cap'] w fun e w' => e = .returned (.bool true) ∧ Below w.heap.size w w' := by
  cases hM : mayB xs ys with
  | false =>
    have HM := mkHid hM
    clear hM
    go_enter Try.func11, Try.ntmps11
    go_wp2_with (first
      | (go_at_call 16; refine (head2_any _).mono ?_; rintro e w1 ⟨rfl, hb1⟩)
      | (go_at_call 20; refine (may_lit (hx.below hb1) (hy.below hb1) HM.out).mono ?_; rintro e w2 ⟨rfl, hb2⟩))
    go_ret
    exact ⟨rfl, hb1.then hb2⟩
  | true =>
    have hS := may_spec hM
    have HM := mkHid hM
    have HS := mkHid hS
    have hl := hS.l
    have hn := hS.n
    clear hM hS
    go_enter Try.func11, Try.ntmps11
    go_wp2_with (first
      | (go_at_call 16; refine (head2_any _).mono ?_; rintro e w1 ⟨rfl, hb1⟩)
      | (go_at_call 20; refine (may_lit (hx.below hb1) (hy.below hb1) HM.out).mono ?_; rintro e w2 ⟨rfl, hb2⟩; have hb02 := hb1.then hb2))
    go_loopw [6, 7, 8] (fun n i at_ wr => ∃ k : Nat, k ≤ ys.length ∧ i = .int .i64 k ∧ n = .int .i64 (putL (look xs) (ys.take k)).length ∧ Below w.heap.size w wr) (fun n i at_ wr => ys.length - (intOf i).toNat)
    case atStart => exact ⟨0, Nat.zero_le _, rfl, rfl, hb02⟩
    case round =>
      obtain ⟨k, hk, rfl, rfl, hbl⟩ := hrel
      have hle := putL_le2 HS.out.T (ys.take k)
      have hlk : (ys.take k).length ≤ k := List.length_take_le _ _
      by_cases hlt : k < ys.length
      · obtain ⟨b, off, rfl, hb, hat⟩ := hy.cases.resolve_left (fun e => by simp [e] at hlt)
        obtain ⟨c0, c1, c2, hf⟩ := cel_at hat hbl hlt
        have HP := mkHid (putL_snoc (look xs) ys k hlt)
        by_cases h1 : ys[k].k = 1
        · have t1 : (ys[k].k == 1) = true := by simp [h1]
          rcases place_look xs ys[k].n with ⟨hp, hlk2, _⟩ | ⟨i, hi, hp, _, hlk2⟩
          · have HC : Hid ((putL (look xs) (ys.take (k + 1))).length = (putL (look xs) (ys.take k)).length + 1) := by
              rw [Hid, HP.out, List.length_append]; unfold putC; rw [if_pos h1, hlk2]; rfl
            have HQ := mkHid hp
            clear h1 hp hlk2
            go_wp2_with (go_at_call 36; refine (place2_any _ cap _ _ xs (hx.below hbl)).mono ?_; rintro e w3 ⟨rfl, hb3⟩; rw [HQ.out])
            go_round
            case rel => exact ⟨k + 1, by omega, by go_num, by rw [HC.out]; go_num, hbl.then hb3⟩
            case measure => simp [intOf]; omega
          · have HC : Hid ((putL (look xs) (ys.take (k + 1))).length = (putL (look xs) (ys.take k)).length + xs[i].t.length) := by
              rw [Hid, HP.out, List.length_append]; unfold putC; rw [if_pos h1, hlk2]; rfl
            have HQ := mkHid hp
            have hTi := HS.out.T xs[i] (List.getElem_mem hi)
            obtain ⟨b', off', rfl, hb', hat'⟩ := hx.cases.resolve_left (fun e => by simp [e] at hi)
            clear h1 hp hlk2
            go_wp2_with (go_at_call 36; refine (place2_any _ cap _ _ xs (hx.below hbl)).mono ?_; rintro e w3 ⟨rfl, hb3⟩; rw [HQ.out]; obtain ⟨a1, cap1, d0, d1, hr1, _, _⟩ := bnd_at hat' (hbl.then hb3) hi)
            go_round
            case rel => exact ⟨k + 1, by omega, by go_num, by rw [HC.out]; go_num, hbl.then hb3⟩
            case measure => simp [intOf]; omega
        · have t1 : (ys[k].k == 1) = false := by simp [h1]
          have HC : Hid ((putL (look xs) (ys.take (k + 1))).length = (putL (look xs) (ys.take k)).length + 1) := by
            rw [Hid, HP.out, List.length_append]; unfold putC; rw [if_neg h1]; rfl
          clear h1
          go_wp2
          go_round
          case rel => exact ⟨k + 1, by omega, by go_num, by rw [HC.out]; go_num, hbl⟩
          case measure => simp [intOf]; omega
      · rw [List.take_of_length_le (by omega)] at *
        cases hO : outB (look xs) ys with
        | true =>
          have h200 := outB_iff.1 hO
          have HO := mkHid hO
          clear hO
          go_wp2_with (go_at_call 21; refine (apply_yes (hx.below hbl) (hy.below hbl) (by omega) (by omega) HS.out.e HO.out).mono ?_; rintro e w3 ⟨a3, cap3, rfl, r3, hb3⟩)
          go_ret
          exact ⟨rfl, hbl.then hb3⟩
        | false =>
          have h200 : ¬ (putL (look xs) ys).length ≤ 200 := fun h => by rw [outB_iff.2 h] at hO; cases hO
          have HO := mkHid hO
          clear hO
          go_wp2_with (go_at_call 21; refine (apply_no (hx.below hbl) (hy.below hbl) (by omega) (by omega) HS.out.e HO.out).mono ?_; rintro e w3 ⟨a3, cap3, rfl, r3, hb3⟩)
          go_ret
          exact ⟨ret_bool (by simp; omega), hbl.then hb3⟩
end Go.Proofs.Ytfcebbfphjbkoaa
namespace Go.Proofs.Ytfcebbfphjbkoaa
open Go.RowKit

/-! ### the mathematics of composing -/
theorem look_inj {s s' : List Bnd} (h : s.Pairwise fun x y => x.v < y.v) (h' : s'.Pairwise fun x y => x.v < y.v) (e : look s = look s') : s = s' :=
  rise_ext h h' fun ⟨n, t⟩ => by rw [← look_iff h, ← look_iff h', e]
/-- a composition and what it is -/
structure CmS (a b L : List Bnd) : Prop where
  rs : rightS L = true
  e : lookL L = look L
  k : look L = cleanF (compF (look a) (look b))
  n : L.length ≤ a.length + b.length
  T : ∀ b ∈ L, b.t.length ≤ 200
  ok : okF (look L)
theorem cm_length (a b : List Bnd) : (cmL a b).length ≤ a.length + b.length := by
  unfold cmL cleanL restB
  refine Nat.le_trans (List.length_filter_le _ _) ?_
  rw [List.length_append, List.length_map]
  have := List.length_filter_le (fun x : Bnd => !(lookL a x.v).isSome) b
  have := List.length_filter_le (fun x : Bnd => (lookL a x.v).isNone) b
  first
    | omega
    | exact Nat.add_le_add_left (List.length_filter_le _ _) _
theorem cm_spec {a b L : List Bnd} (ha : rightS a = true) (hb : rightS b = true) (hB : cmB a b = true) (hp : L.Perm (cmL a b)) (hr : risesB L) : CmS a b L := by
  have hL := cm_right ha hb hB hp hr
  exact ⟨hL, lookL_eq (rightG_rise hL), cm_look (rightG_rise ha) (rightG_rise hb) hp hr, by rw [hp.length_eq]; exact cm_length a b, rightS_T hL, okF_look hL⟩
theorem CmS.put {a b L : List Bnd} (h : CmS a b L) {l : List Cel} (hl : ∀ c ∈ l, cellOk c = true) : putL (look L) l = putL (look b) (putL (look a) l) :=
  put_put (fun n _ _ => by rw [h.k, sub_clean, sub_comp]) hl
theorem CmS.ext {a b L a' b' L' : List Bnd} (h : CmS a b L) (h' : CmS a' b' L') (e : cleanF (compF (look a) (look b)) = cleanF (compF (look a') (look b'))) : L = L' :=
  look_inj (rightG_rise h.rs) (rightG_rise h'.rs) (by rw [h.k, h'.k, e])
theorem clean_sub (f : Int → Option (List Cel)) (n : Int) : cleanF f n = if subF f n = [varC n] then none else some (subF f n) := by
  unfold cleanF subF ownB
  cases f n with
  | none => simp
  | some t => simp
theorem clean_ext {f g : Int → Option (List Cel)} (h : ∀ n, subF f n = subF g n) : cleanF f = cleanF g := by
  funext n; rw [clean_sub, clean_sub, h]
theorem comp_assoc {f g h : Int → Option (List Cel)} (hf : okF f) : cleanF (compF (cleanF (compF f g)) h) = cleanF (compF f (cleanF (compF g h))) := by
  refine clean_ext fun n => ?_
  rw [sub_comp, sub_clean, sub_comp, sub_comp]
  cases hn : f n with
  | none =>
    have e : subF f n = [varC n] := by unfold subF; rw [hn]; rfl
    rw [e, put_var, put_var, sub_clean, sub_comp]
  | some t =>
    have e : subF f n = t := by unfold subF; rw [hn]; rfl
    rw [e]
    exact (put_put (fun m _ _ => by rw [sub_clean, sub_comp]) (right_cells (hf n t hn))).symm
theorem put_none (t : List Cel) : putL (look []) t = t := by
  induction t with
  | nil => rfl
  | cons c t ih =>
    rw [putL_cons, ih]
    unfold putC; split <;> rfl
theorem clean_look {a : List Bnd} (ha : rightS a = true) : cleanF (look a) = look a := by
  funext n
  unfold cleanF
  cases h : look a n with
  | none => rfl
  | some t =>
    have := (rightG_mem ha _ (look_some h)).2.2.2
    simp [this]
theorem comp_nil {a : List Bnd} : compF (look a) (look []) = look a := by
  funext n
  unfold compF
  cases look a n with
  | none => rfl
  | some t => simp [put_none]
theorem nil_comp {a : List Bnd} : compF (look []) (look a) = look a := by
  funext n; rfl
theorem CmS.nil_right {a L : List Bnd} (ha : rightS a = true) (h : CmS a [] L) : L = a :=
  look_inj (rightG_rise h.rs) (rightG_rise ha) (by rw [h.k, comp_nil, clean_look ha])
theorem CmS.nil_left {a L : List Bnd} (ha : rightS a = true) (h : CmS [] a L) : L = a :=
  look_inj (rightG_rise h.rs) (rightG_rise ha) (by rw [h.k, nil_comp, clean_look ha])
theorem cmB_nil {a : List Bnd} (ha : rightS a = true) : cmB a [] = true := by
  unfold cmB
  refine List.all_eq_true.2 fun x hx => ?_
  rw [show lookL [] = look [] from rfl, outB_iff, put_none]
  exact rightS_T ha x hx
section lit
variable {w : World} {a a' : Option Addr} {cap cap' n m : Nat}
theorem compose_yes {xs ys : List Bnd} (hn : n = xs.length) (hx : Row w a cap xs) (hm : m = ys.length) (hy : Row w a' cap' ys) (ha : rightS xs = true) (hb : rightS ys = true) (hl : xs.length ≤ 1000) (hl2 : ys.length ≤ 1000) (hB : cmB xs ys = true) :
    Calls Try.prog 23 #[.slice a n cap, .slice a' m cap'] w fun e w' => ∃ a2 cap2 L, e = .returned (.tuple #[.slice a2 (List.length L) cap2, .bool true]) ∧ Row w' a2 cap2 L ∧ CmS xs ys L ∧ Below w.heap.size w w' := by
  subst hn; subst hm
  refine (composesub_any a cap a' cap' w xs ys hx hy (by omega) (by omega) (fun b h => by have := rightS_T ha b h; omega) (fun b h => by have := rightS_T hb b h; omega)).mono fun e w' ⟨hb2, h⟩ => ?_
  rcases h with ⟨h, _⟩ | ⟨_, a2, cap2, L, he, hrow, hpl, hri⟩
  · rw [hB] at h; cases h
  · exact ⟨a2, cap2, L, he, hrow, cm_spec ha hb hB hpl hri, hb2⟩
theorem compose_no {xs ys : List Bnd} (hn : n = xs.length) (hx : Row w a cap xs) (hm : m = ys.length) (hy : Row w a' cap' ys) (ha : rightS xs = true) (hb : rightS ys = true) (hl : xs.length ≤ 1000) (hl2 : ys.length ≤ 1000) (hB : cmB xs ys = false) :
    Calls Try.prog 23 #[.slice a n cap, .slice a' m cap'] w fun e w' => e = .returned (.tuple #[.slice none 0 0, .bool false]) ∧ Below w.heap.size w w' := by
  subst hn; subst hm
  refine (composesub_any a cap a' cap' w xs ys hx hy (by omega) (by omega) (fun b h => by have := rightS_T ha b h; omega) (fun b h => by have := rightS_T hb b h; omega)).mono fun e w' ⟨hb2, h⟩ => ?_
  rcases h with ⟨_, h⟩ | ⟨h, _⟩
  · exact ⟨h, hb2⟩
  · rw [hB] at h; cases h
end lit
end Go.Proofs.Ytfcebbfphjbkoaa
namespace Go.Proofs.Ytfcebbfphjbkoaa
open Go.RowKit

/-! ### the mathematics of what is put in twice -/
/-- no cell is changed -/
def calm (f : Int → Option (List Cel)) (t : List Cel) : Prop := ∀ c ∈ t, putC f c = [c]
theorem put_calm {f : Int → Option (List Cel)} {t : List Cel} (h : calm f t) : putL f t = t := by
  induction t with
  | nil => rfl
  | cons c t ih => rw [putL_cons, h c (by simp), ih fun d hd => h d (by simp [hd])]; rfl
theorem calm_put {f : Int → Option (List Cel)} (hf : okF f) {t : List Cel} (h : putL f t = t) : calm f t := by
  induction t with
  | nil => intro c hc; simp at hc
  | cons c t ih =>
    rw [putL_cons] at h
    have h1 := putC_pos hf c
    have h2 := put_grows hf t
    have h3 : (putC f c).length + (putL f t).length = t.length + 1 := by rw [← List.length_append, h]; rfl
    have h4 : (putC f c).length = 1 := by omega
    obtain ⟨d, hd⟩ := List.length_eq_one_iff.1 h4
    rw [hd] at h
    have h5 := List.cons.inj h
    have h6 := ih h5.2
    intro e he
    rcases List.mem_cons.1 he with rfl | he
    · rw [hd, h5.1]
    · exact h6 e he
theorem calm_free {s : List Bnd} (hs : rightS s = true) {t : List Cel} (ht : ∀ c ∈ t, cellOk c = true) : calm (look s) t ↔ freeB s t = true := by
  unfold calm freeB
  rw [List.all_eq_true]
  refine forall_congr' fun c => forall_congr' fun hc => ?_
  by_cases h1 : c.k = 1
  · have hv := cellOk_var (ht c hc) h1
    unfold putC
    rw [if_pos h1]
    cases h : look s c.n with
    | none => simp
    | some u =>
      simp only [Option.getD_some, h1, BEq.rfl, Option.isSome_some, Bool.and_self, Bool.not_true, Bool.false_eq_true, iff_false]
      intro e
      have := (rightG_mem hs _ (look_some h)).2.2.2
      rw [e, hv] at this
      simp [ownB, varC] at this
  · unfold putC
    rw [if_neg h1]
    simp [h1]
theorem free_vars (s : List Bnd) (t : List Cel) : freeB s t = !anyV (look s) (varsL t) := by
  rw [Bool.eq_iff_iff]
  unfold freeB anyV
  simp only [List.all_eq_true, Bool.not_eq_true', Bool.and_eq_false_iff, List.any_eq_false, beq_eq_false_iff_ne, ne_eq]
  constructor
  · intro h n hn
    rcases mem_vars_of t [] n hn with hn | ⟨c, hc, h1, rfl⟩
    · simp at hn
    · rcases h c hc with h2 | h2
      · exact absurd h1 h2
      · simp [h2]
  · intro h c hc
    by_cases h1 : c.k = 1
    · right
      have := h c.n (mem_varsL hc h1)
      simpa using this
    · exact .inl h1
theorem idem_same {s : List Bnd} (hs : rightS s = true) : idemL s = idemB s := by
  rw [idem_eq]
  unfold idemL
  rw [lookL_eq (rightG_rise hs)]
  congr 1
  funext b
  rw [free_vars]
/-- just those of which each part stays -/
theorem idem_iff {s : List Bnd} (hs : rightS s = true) : idemL s = true ↔ ∀ b ∈ s, putL (look s) b.t = b.t := by
  rw [idem_same hs, idem_eq, List.all_eq_true]
  refine forall_congr' fun b => forall_congr' fun hb => ?_
  rw [← calm_free hs (right_cells (rightG_mem hs b hb).2.2.1)]
  exact ⟨put_calm, calm_put (okF_look hs)⟩
theorem idem_sub {s : List Bnd} (h : ∀ b ∈ s, putL (look s) b.t = b.t) (n : Int) : putL (look s) (subF (look s) n) = subF (look s) n := by
  cases hn : look s n with
  | none =>
    have e : subF (look s) n = [varC n] := by unfold subF; rw [hn]; rfl
    rw [e, put_var, e]
  | some t =>
    have e : subF (look s) n = t := by unfold subF; rw [hn]; rfl
    rw [e]; exact h _ (look_some hn)
theorem idem_twice {s : List Bnd} (h : ∀ b ∈ s, putL (look s) b.t = b.t) {t : List Cel} (ht : ∀ c ∈ t, cellOk c = true) : putL (look s) (putL (look s) t) = putL (look s) t :=
  (put_put (fun n _ _ => (idem_sub h n).symm) ht).symm
theorem idem_cmB {s : List Bnd} (hs : rightS s = true) (h : ∀ b ∈ s, putL (look s) b.t = b.t) : cmB s s = true := by
  unfold cmB
  refine List.all_eq_true.2 fun x hx => ?_
  rw [lookL_eq (rightG_rise hs), outB_iff, h x hx]
  exact rightS_T hs x hx
theorem CmS.idem {s L : List Bnd} (hs : rightS s = true) (h : ∀ b ∈ s, putL (look s) b.t = b.t) (hC : CmS s s L) : L = s := by
  refine look_inj (rightG_rise hC.rs) (rightG_rise hs) ?_
  have e : cleanF (compF (look s) (look s)) = cleanF (look s) := clean_ext fun n => by rw [sub_comp, idem_sub h]
  rw [hC.k, e, clean_look hs]
end Go.Proofs.Ytfcebbfphjbkoaa
namespace Go.Proofs.Ytfcebbfphjbkoaa
open Go.RowKit

/-! ### what is put into a term, part by part -/
theorem flats_map (l : List Tm) : flats l = (l.map Tm.flat).flatten := by
  induction l with
  | nil => simp [flats]
  | cons t l ih => simp [flats, ih]
theorem parts_all {c : Cel} {l : List Cel} (h : rightB (c :: l) = true) : c :: l = c :: (partsL (c :: l)).flatten := by
  obtain ⟨t, ht, e, _⟩ := right_tm h
  cases t with
  | mk d ts =>
    have h1 := parts_flat ht
    rw [e, h1, ← flats_map]
    simp [Tm.flat, Tm.args] at e ⊢
    exact e.1.symm
theorem parts_le {xs : List Cel} (h : rightB xs = true) : (partsL xs).length ≤ 6 := by
  unfold partsL; rw [List.length_map, List.length_range]; exact ar_le6 h
theorem parts_len {c : Cel} {l : List Cel} (h : rightB (c :: l) = true) : ∀ p ∈ partsL (c :: l), p.length ≤ l.length := by
  intro p hp
  have h1 := (List.sublist_flatten_of_mem hp).length_le
  have h2 := congrArg List.length (parts_all h)
  simp only [List.length_cons] at h2
  omega
def accP (c : Cel) (f : Int → Option (List Cel)) (P : List (List Cel)) : List Cel := c :: (P.map (putL f)).flatten
theorem accP_take (c : Cel) (f : Int → Option (List Cel)) (P : List (List Cel)) {k : Nat} (hk : k < P.length) : accP c f (P.take (k + 1)) = accP c f (P.take k) ++ putL f P[k] := by
  unfold accP; rw [List.take_succ_eq_append_getElem hk, List.map_append, List.flatten_append]; simp
theorem put_flatten (f : Int → Option (List Cel)) (P : List (List Cel)) : putL f P.flatten = (P.map (putL f)).flatten := by
  induction P with
  | nil => rfl
  | cons p P ih => rw [List.flatten_cons, putL_append, ih]; rfl
theorem accP_all {c : Cel} {l : List Cel} (f : Int → Option (List Cel)) (h : rightB (c :: l) = true) (h1 : ¬ c.k = 1) : accP c f (partsL (c :: l)) = putL f (c :: l) := by
  conv => rhs; rw [parts_all h]
  rw [putL_cons, put_flatten, putC_other h1]; rfl
theorem accP_split (c : Cel) (f : Int → Option (List Cel)) (P : List (List Cel)) (k : Nat) : accP c f P = accP c f (P.take k) ++ ((P.drop k).map (putL f)).flatten := by
  unfold accP
  conv => lhs; rw [← List.take_append_drop k P]
  rw [List.map_append, List.flatten_append]; rfl
theorem accP_long (c : Cel) (f : Int → Option (List Cel)) (P : List (List Cel)) {k : Nat} (hk : k < P.length) : (putL f P[k]).length ≤ (accP c f P).length := by
  rw [accP_split c f P (k + 1), accP_take c f P hk, List.length_append, List.length_append]; omega
theorem accP_le (c : Cel) (f : Int → Option (List Cel)) : ∀ (P : List (List Cel)), (∀ p ∈ P, (putL f p).length ≤ 200) → (accP c f P).length ≤ 1 + 200 * P.length
  | [], _ => by simp [accP]
  | p :: P, h => by
    have h1 := h p (by simp)
    have h2 := accP_le c f P fun q hq => h q (by simp [hq])
    unfold accP at h2 ⊢
    simp only [List.map_cons, List.flatten_cons, List.length_cons, List.length_append] at h2 ⊢
    omega
end Go.Proofs.Ytfcebbfphjbkoaa
namespace Go.Proofs.Ytfcebbfphjbkoaa
open Go.RowKit

set_option maxHeartbeats 1600000 in
theorem refparts_own (a : Option Addr) (cap : Nat) (w : World) (xs : List Cel) (hr : Row w a cap xs) (hR : rightB xs = true) (hz : 0 < xs.length) (h3 : xs[0].k = 3) :
    Calls Try.prog 34 #[.slice a xs.length cap] w fun e w' => ∃ v vs, e = .returned v ∧ w'.ownsRow w.heap.size 22 1 v (partsL xs).length vs ∧ (∀ z, Row z a cap xs → SlRows z vs (partsL xs)) ∧ Below w.heap.size w w' := by
  have hm := hr.max
  have hle := hr.le
  have h6 := ar_le6 hR
  obtain ⟨c, l, e0, hc, _, h200⟩ := right_sk hR
  have h0 : 0 < xs.length := by rw [e0]; simp
  have hc0 : xs[0] = c := by simp [e0]
  have har : ar0 xs = ar xs[0] := by rw [hc0, e0]; rfl
  have hm0 := World.ownsRow_made (base := w.heap.size) (e := 22) (size := 1) w #[] 0 (Nat.le_refl _) (by unfold maxLen; omega) rfl
  have hb0 := (Below.refl w.heap.size w).new (.cells #[] 22)
  have hl0 : ((xs.length : Int) == 0) = false := by simp; intro e; simp [e] at h0
  obtain ⟨b, off, rfl, hb, hat⟩ := hr.cases.resolve_left (fun e => by simp [e] at h0)
  obtain ⟨c0, c1, c2, hf⟩ := cel_at hat (Below.refl _ _) h0
  simp only [Nat.zero_mul, Nat.add_zero] at c0 c1 c2
  · have t3 : (xs[0].k != 3) = false := by simp [h3]
    have hn : xs[0].n = ar0 xs := by
      have := arI_ar hc; rw [← hc0] at this; rw [har, ← this]; unfold arI; rw [if_pos h3]
    have HN := mkHid hn
    have HR := mkHid hR
    clear hR e0 hc hc0 har h3 hn
    go_enter Try.func34, Try.ntmps34
    go_wp2_with fail
    go_loopw [3, 4, 5] (fun v i j wr => ∃ (k : Nat) (vs : List Value), k ≤ ar0 xs ∧ j = .int .i64 k ∧ i = .int .i64 (aN xs k) ∧ wr.ownsRow w.heap.size 22 1 v k vs ∧ Below w.heap.size w wr ∧ Hid (∀ z, Row z (some ⟨b, off, none⟩) cap xs → SlRows z vs ((List.range k).map (partJ xs)))) (fun v i j wr => ar0 xs - (intOf j).toNat)
    case atStart => exact ⟨0, [], Nat.zero_le _, rfl, by unfold aN; rw [afterI_zero (by omega)]; rfl, hm0, hb0, fun z _ => SlRows.nil z⟩
    case round =>
      obtain ⟨k, vs, hk, rfl, rfl, hown, hbl, HS⟩ := hrel
      have d2 : wr.cell? ⟨b, off + 2, none⟩ = some (.int .i64 (ar0 xs)) := by rw [← HN.out]; exact keep c2 hbl
      clear c0 c1 c2
      by_cases hlt : k < ar0 xs
      · have hra := (right_after HR.out hk).2
        have hrb := (right_after HR.out (show k + 1 ≤ ar0 xs from hlt)).2
        have hrn := (right_next HR.out hlt).1
        have HP := mkHid (right_next HR.out hlt).2
        obtain ⟨q1, q2, _⟩ := hra
        obtain ⟨q3, q4, _⟩ := hrb
        have hr1 := hr.below hbl
        have hrow3 := hr.slice (i := aN xs k) (j := aN xs (k + 1)) (by omega) q4
        have HS4 : Hid (∀ z, Row z (some ⟨b, off, none⟩) cap xs → SlRows z (vs ++ [.slice (some ⟨b, off + aN xs k * 3, none⟩) (partJ xs k).length (cap - aN xs k)]) ((List.range k).map (partJ xs) ++ [partJ xs k])) := by
          intro z hz2
          exact (HS.out z hz2).snoc (hz2.slice (i := aN xs k) (j := aN xs (k + 1)) (by omega) q4)
        clear hrow3
        have HL := mkHid (take_drop_len HR.out hlt)
        go_wp2_with (first
          | (go_at_call 63; refine (refend_any _ cap (aN xs k) _ xs hr1 (by omega) (by omega)).mono ?_; rintro e w3 ⟨rfl, hb3⟩; rw [HP.out]; have hown3 := own_below hown hb3; have hbl3 := hbl.then hb3)
          | (at_builtin; refine wpList_app rfl _ _ 49 rfl w.heap.size 22 1 24 _ Try.underlying49 Try.infoSl rfl (by decide) (by decide) _ k _ rfl (hown3.alloc _) (some ⟨_, 0, none⟩) 1 1 [.slice (some ⟨b, off + aN xs k * 3, none⟩) (aN xs (k + 1) - aN xs k) (cap - aN xs k)] rfl (src_new _ #[.slice (some ⟨b, off + aN xs k * 3, none⟩) (aN xs (k + 1) - aN xs k) (cap - aN xs k)] _ 1 rfl (by simp [Value.oneCell'])) (by omega) (Nat.le_trans hbl3.size (by simp)) ?_; intro v' w5 hown5 _ hb5))
        go_round
        case rel => exact ⟨k + 1, vs ++ [.slice (some ⟨b, off + aN xs k * 3, none⟩) (aN xs (k + 1) - aN xs k) (cap - aN xs k)], by omega, by go_num, rfl, hown5, (hbl3.new _).trans hb5, by rw [parts_succ, HL.out]; exact HS4.out⟩
        case measure => simp [intOf]; omega
      · obtain rfl : k = ar0 xs := by omega
        have hl : (partsL xs).length = ar0 xs := by simp [partsL]
        have HL := mkHid hl
        have HO : Hid (wr.ownsRow w.heap.size 22 1 u3 (partsL xs).length vs) := by rw [Hid, hl]; exact hown
        clear hl hown
        go_wp2
        go_ret
        exact ⟨u3, vs, rfl, HO.out, HS.out, hbl⟩

end Go.Proofs.Ytfcebbfphjbkoaa
namespace Go.Proofs.Ytfcebbfphjbkoaa
open Go.RowKit

/-- append of one element, and what is read beside the row -/
theorem wpList_accK {α : Type} [RepC α] {P : Program} {w : World} {ops : Array Oper} {rest : List Oper} {o : Oper} {a : Act} {Q : Exit → Act → World → Prop} (hgd : o.guard = none) (s x : Operand) (t : TypeId)
    (ho : o.op = .call { callee := .builtin .append, args := #[s, x], argTypes := #[t, t] })
    (B e bytes : Nat) (z : Value) (ht : P.underlying t = some (.slice e)) (hinfo : (P.info? e).map (fun i => (i.zero, i.size, i.bytes)) = some (some z, Rep.sz α, bytes))
    (hzs : z.cells.size = Rep.sz α) (hby : bytes ≤ 1000)
    (v : Value) (acc : List α) (hacc : AccInv B e acc v w) (hs : a.eval s = v) (T : Nat) (cs : Array Value) (y : α) (hcs : RepC.C (hide v.ownBlock w) cs.toList y)
    (hx : a.eval x = .slice (some ⟨w.heap.size, 0, none⟩) 1 1)
    (hmax : acc.length + 1 ≤ 1000000000) (hB : B ≤ w.heap.size)
    (h : ∀ v' w', AccInv B e (acc ++ [y]) v' w' → Below B w w' → Keeps (hide v.ownBlock w) (hide v'.ownBlock w') → wpList P ops Q rest (a.put o.dst v') w') : wpList P ops Q (o :: rest) a (w.alloc (.cells cs T)) := by
  obtain ⟨vs, hown, hc⟩ := hacc.ex
  refine wpList_app2 hgd s x t ho B e (Rep.sz α) bytes z ht hinfo hzs RepC.pos hby v acc.length vs hs (hown.alloc _) ⟨w.heap.size, 0, none⟩ 1 1 cs.toList hx (src_new w cs T (Rep.sz α) (by have := RepC.len hcs; simpa using this) (fun u hu => RepC.one hcs u hu)) hmax (Nat.le_trans hB (by simp)) ?_
  intro v' w' h1 _ h3 h4
  refine h v' w' ⟨vs ++ cs.toList, by rw [List.length_append]; exact h1, ?_⟩ (((Below.refl B w).alloc hB _).trans h3) ((alloc_hide w _ _).trans h4)
  exact ((hc.keeps (alloc_hide w _ _)).keeps h4).snoc (RepC.cmono (RepC.cmono hcs (alloc_hide w _ _)) h4)
/-- append of all of a slice, and what is read beside the row -/
theorem wpList_accsK {α : Type} [RepC α] {P : Program} {w : World} {ops : Array Oper} {rest : List Oper} {o : Oper} {a : Act} {Q : Exit → Act → World → Prop} (hgd : o.guard = none) (s x : Operand) (t : TypeId)
    (ho : o.op = .call { callee := .builtin .append, args := #[s, x], argTypes := #[t, t] })
    (B e bytes : Nat) (z : Value) (ht : P.underlying t = some (.slice e)) (hinfo : (P.info? e).map (fun i => (i.zero, i.size, i.bytes)) = some (some z, Rep.sz α, bytes))
    (hzs : z.cells.size = Rep.sz α) (hby : bytes ≤ 1000)
    (v : Value) (acc : List α) (hacc : AccInv B e acc v w) (hs : a.eval s = v) (sa : Option Addr) (cap : Nat) (ys : List α) (hr : Row (hide v.ownBlock w) sa cap ys)
    (hx : a.eval x = .slice sa ys.length cap)
    (hmax : acc.length + ys.length ≤ 1000000000) (hB : B ≤ w.heap.size)
    (h : ∀ v' w', AccInv B e (acc ++ ys) v' w' → Below B w w' → Keeps (hide v.ownBlock w) (hide v'.ownBlock w') → wpList P ops Q rest (a.put o.dst v') w') : wpList P ops Q (o :: rest) a w := by
  obtain ⟨vs, hown, hc⟩ := hacc.ex
  obtain ⟨us, hu, hsrc⟩ := hr.srcK (hide_keeps _ _)
  cases sa with
  | none =>
    have h0 : ys.length = 0 := (hsrc.nil rfl).1
    have hc0 : cap = 0 := (hsrc.nil rfl).2
    obtain rfl : ys = [] := List.eq_nil_of_length_eq_zero h0
    obtain ⟨i, hi, hz0, hz1, hz2⟩ := info_parts hinfo
    subst hc0
    refine wpList_append_own_none hgd s x t ho B e i (Rep.sz α) ht hi v acc.length vs hs hown hx ?_
    exact h v w ⟨vs, by rw [List.append_nil]; exact hown, by rw [List.append_nil]; exact hc⟩ (Below.refl _ _) (fun _ _ _ h => h)
  | some ad =>
    refine wpList_app2 hgd s x t ho B e (Rep.sz α) bytes z ht hinfo hzs RepC.pos hby v acc.length vs hs hown ad ys.length cap us hx hsrc hmax hB ?_
    intro v' w' h1 _ h3 h4
    exact h v' w' ⟨vs ++ us, by rw [List.length_append]; exact h1, (hc.keeps h4).append (hu.keeps h4)⟩ h3 h4

set_option maxHeartbeats 800000 in
theorem refvars_new (a : Option Addr) (cap : Nat) (w : World) (xs : List Cel) (hr : Row w a cap xs) (hl : xs.length ≤ 1000000) :
    Calls Try.prog 32 #[.slice a xs.length cap] w fun e w' => ∃ a' cap', e = .returned (.slice a' (varsL xs).length cap') ∧ NewRow w.heap.size w' a' cap' (varsL xs) ∧ Below w.heap.size w w' := by
  have hc := hr.le
  have hc2 := hr.max
  have hm0 := World.ownsRow_made (base := w.heap.size) (e := 3) (size := 1) w #[] 0 (Nat.le_refl _) (by unfold maxLen; omega) rfl
  have hb0 := (Below.refl w.heap.size w).new (.cells #[] 3)
  go_enter Try.func32, Try.ntmps32
  go_wp2_with fail
  go_loopw [3, 4] (fun v i wr => ∃ (k : Nat) (acc : List Int), k ≤ xs.length ∧ acc.length ≤ k ∧ i = .int .i64 k ∧ wr.ownsRow w.heap.size 3 1 v acc.length (acc.map (Value.int .i64)) ∧ Below w.heap.size w wr ∧ (∀ n ∈ acc, -9223372036854775808 ≤ n ∧ n ≤ 9223372036854775807) ∧ Hid (varsL xs = varsGo acc (xs.drop k))) (fun v i wr => xs.length - (intOf i).toNat)
  case atStart => exact ⟨0, [], Nat.zero_le _, Nat.zero_le _, rfl, hm0, hb0, by simp, rfl⟩
  case round =>
    obtain ⟨k, acc, hk, hak, rfl, hown, hbl, haf, HS⟩ := hrel
    obtain ⟨a', cap', rfl, hrowN⟩ := own_rowI (under_own hown) haf
    have hrow := Row.keeps hrowN (under_keeps _ _)
    have HN := mkHid hrowN
    clear hrowN
    have HA := mkHid haf
    by_cases hlt : k < xs.length
    · obtain ⟨b, off, rfl, hb, hat⟩ := hr.cases.resolve_left (fun e => by simp [e] at hlt)
      obtain ⟨c0, c1, c2, hf⟩ := cel_at hat hbl hlt
      have hst := varsGo_step acc xs k hlt
      by_cases h1 : xs[k].k = 1
      · have t1 : (xs[k].k == 1) = true := by simp [h1]
        by_cases h2 : xs[k].n ∈ acc
        · have HT : Hid (varsL xs = varsGo acc (xs.drop (k + 1))) := by rw [Hid, HS.out, hst, if_neg (by simp [h2])]
          have hd := mkHid (decide_eq_true h2)
          clear h1 h2 HS hst haf
          go_wp2_with (go_at_call 62; refine (refin_any a' cap' xs[k].n _ acc hrow).mono ?_; rintro e w' ⟨rfl, hb1⟩; rw [hd.out])
          go_round
          case rel => exact ⟨k + 1, acc, by omega, by omega, by go_num, own_below hown hb1, hbl.then hb1, HA.out, HT⟩
          case measure => simp [intOf]; omega
        · have HT : Hid (varsL xs = varsGo (acc ++ [xs[k].n]) (xs.drop (k + 1))) := by rw [Hid, HS.out, hst, if_pos ⟨h1, h2⟩]
          have hd := mkHid (decide_eq_false h2)
          clear h1 h2 HS hst haf
          go_wp2_with (first
            | (go_at_call 62; refine (refin_any a' cap' xs[k].n _ acc hrow).mono ?_; rintro e w' ⟨rfl, hb1⟩; rw [hd.out]; have d0 := keep c0 hb1; have d2 := keep c2 hb1; have hown1 := own_below hown hb1; have hbl1 := hbl.then hb1; clear c0 c1 c2)
            | (at_builtin; refine wpList_app rfl _ _ 29 rfl w.heap.size 3 1 8 _ Try.underlying29 Try.infoInt rfl (by decide) (by decide) _ acc.length _ rfl (hown1.alloc _) (some ⟨_, 0, none⟩) 1 1 [.int .i64 xs[k].n] rfl (src_new _ #[.int .i64 xs[k].n] _ 1 rfl (by simp [Value.oneCell'])) (by omega) (Nat.le_trans hbl1.size (by simp)) ?_; intro v' w2 hown2 _ hb2))
          go_round
          case rel => exact ⟨k + 1, acc ++ [xs[k].n], by omega, by simp; omega, by go_num, by simpa using hown2, (hbl1.new _).trans hb2, out_fit HA.out hf.n1 hf.n2, HT⟩
          case measure => simp [intOf]; omega
      · have t1 : (xs[k].k == 1) = false := by simp [h1]
        have HT : Hid (varsL xs = varsGo acc (xs.drop (k + 1))) := by rw [Hid, HS.out, hst, if_neg (fun h => h1 h.1)]
        clear h1 HS hst haf
        go_wp2
        go_round
        case rel => exact ⟨k + 1, acc, by omega, by omega, by go_num, hown, hbl, HA.out, HT⟩
        case measure => simp [intOf]; omega
    · have HT : Hid (varsL xs = acc) := by rw [Hid, HS.out, List.drop_eq_nil_of_le (by omega)]; rfl
      clear HS haf
      go_wp2
      go_ret
      exact ⟨a', cap', by rw [HT.out]; rfl, by rw [HT.out]; exact HN.out, hbl⟩
end Go.Proofs.Ytfcebbfphjbkoaa
namespace Go.Proofs.Ytfcebbfphjbkoaa
open Go.RowKit

theorem AccInv.lit1 {B : Nat} {T : Nat} (w : World) (c : Cel) (hc : c.fit) (hB : B ≤ w.heap.size) : AccInv B T [c] (.slice (some ⟨w.heap.size, 0, none⟩) 1 1) (w.alloc (.cells #[.int .i64 c.k, .string c.s, .int .i64 c.n] T)) :=
  ⟨flat [c], by
    have := World.ownsRow_lit (base := B) (e := T) (size := 3) w #[.int .i64 c.k, .string c.s, .int .i64 c.n] 1 hB (by unfold maxLen; omega) rfl
    exact this, crows_flat _ (by simp [hc])⟩

section arms
variable {z w6 : World} {a aP : Option Addr} {cap e n T : Nat} {v : Value} {vs : List Value} {ts : List Cel} {P : List (List Cel)} {c : Cel}
/-- the parts, and then the first cell in a new row -/
theorem parts_armA (hop : w6.ownsRow z.heap.size e 1 v P.length vs) (hsl : ∀ z, Row z a cap ts → SlRows z vs P) (ht : Row z a cap ts) (hb : Below z.heap.size z w6) (hc : c.fit) :
    ∃ aP capP, v = .slice aP P.length capP ∧ AccInv z.heap.size T [c] (.slice (some ⟨w6.heap.size, 0, none⟩) 1 1) (w6.alloc (.cells #[.int .i64 c.k, .string c.s, .int .i64 c.n] T)) ∧ Below z.heap.size z (w6.alloc (.cells #[.int .i64 c.k, .string c.s, .int .i64 c.n] T)) ∧ Row (hide (Value.slice (some ⟨w6.heap.size, 0, none⟩) 1 1).ownBlock (w6.alloc (.cells #[.int .i64 c.k, .string c.s, .int .i64 c.n] T))) aP capP P := by
  obtain ⟨aP, capP, rfl, hr⟩ := own_rowL hop (hsl w6 (ht.below hb))
  exact ⟨aP, capP, rfl, AccInv.lit1 w6 c hc hb.size, hb.new _, Row.keeps hr (fresh_keeps (Keeps.of ((Below.refl _ _).new _)) (Nat.le_refl _))⟩
/-- the first cell in a new row, and then the parts -/
theorem parts_armB (hop : w6.ownsRow (z.alloc (.cells #[.int .i64 c.k, .string c.s, .int .i64 c.n] T)).heap.size e 1 v P.length vs) (hsl : ∀ z, Row z a cap ts → SlRows z vs P) (ht : Row z a cap ts) (hb : Below (z.alloc (.cells #[.int .i64 c.k, .string c.s, .int .i64 c.n] T)).heap.size (z.alloc (.cells #[.int .i64 c.k, .string c.s, .int .i64 c.n] T)) w6) (hc : c.fit) :
    ∃ aP capP, v = .slice aP P.length capP ∧ AccInv z.heap.size T [c] (.slice (some ⟨z.heap.size, 0, none⟩) 1 1) w6 ∧ Below z.heap.size z w6 ∧ Row (hide (Value.slice (some ⟨z.heap.size, 0, none⟩) 1 1).ownBlock w6) aP capP P := by
  have hb2 := ((Below.refl z.heap.size z).new (.cells #[.int .i64 c.k, .string c.s, .int .i64 c.n] T)).then hb
  obtain ⟨aP, capP, rfl, hr⟩ := own_rowL (own_hide (r := some z.heap.size) hop (fun g e => by cases e; simp)) (hsl _ (Row.keeps ht (fresh_keeps (Keeps.of hb2) (Nat.le_refl _))))
  exact ⟨aP, capP, rfl, (AccInv.lit1 z c hc (Nat.le_refl _)).below hb, hb2, hr⟩
end arms

set_option maxHeartbeats 16000000 in
set_option maxRecDepth 100000 in
theorem lawParts2_any (w : World) (xs : List Bnd) (ts : List Cel) (a : Option Addr) (cap : Nat) (a' : Option Addr) (cap' : Nat) (hx : Row w a cap xs) (ht : Row w a' cap' ts) :
    Calls Try.prog 9 #[.slice a xs.length cap, .slice a' ts.length cap'] w fun e w' => e = .returned (.bool true) ∧ Below w.heap.size w w' := by
  cases hM : mayB xs ts with
  | false =>
    have HM := mkHid hM
    clear hM
    go_enter Try.func9, Try.ntmps9
    go_wp2_with fail
    refine (head2_any _).mono ?_; rintro e w1 ⟨rfl, hb⟩
    go_wp2_with fail
    refine (may_lit (hx.below hb) (ht.below hb) HM.out).mono ?_; rintro e w2 ⟨rfl, hb2⟩
    go_wp2_with fail
    go_ret
    exact ⟨rfl, hb.then hb2⟩
  | true =>
  have hS := may_spec hM
  have HM := mkHid hM
  have HS := mkHid hS
  have hl := hS.l
  have hn := hS.n
  have h0 := right_pos hS.rt
  clear hM hS
  have hm := hx.max
  have hm2 := hx.le
  obtain ⟨bt, offt, rfl, hbt, hatt⟩ := ht.cases.resolve_left (fun e => by simp [e] at h0)
  obtain ⟨_, _, _, hf⟩ := cel_at hatt (Below.refl _ _) h0
  by_cases h3 : ts[0].k = 3
  · have t3 : (ts[0].k != 3) = false := by simp [h3]
    have h0i : (0 : Int) < (ts.length : Int) := by omega
    have h0n : 0 < ts.length := h0
    have h0d : decide ((0 : Int) < (ts.length : Int)) = true := by simp; omega
    have H3 := mkHid h3
    clear h3
    have HBX : Hid ((outB (look xs) ts = true → outL (look xs) ts = putL (look xs) ts) ∧ (outB (look xs) ts = false → outL (look xs) ts = []) ∧ (outB (look xs) ts = true ↔ (putL (look xs) ts).length ≤ 200)) :=
      ⟨fun h => by unfold outL; rw [if_pos h], fun h => by unfold outL; rw [if_neg (by simp [h])], outB_iff⟩
    go_enter Try.func9, Try.ntmps9
    go_wp2_with fail
    refine (head2_any _).mono ?_; rintro e w1 ⟨rfl, hb⟩
    go_wp2_with fail
    refine (may_lit (hx.below hb) (ht.below hb) HM.out).mono ?_; rintro e w2 ⟨rfl, hb2⟩
    replace hb := hb.then hb2
    obtain ⟨c0, c1, c2, _⟩ := cel_at hatt hb h0
    simp only [Nat.zero_mul, Nat.add_zero] at c0 c1 c2
    go_wp2_with fail
    refine (apply_lit (xs := xs) rfl (hx.below hb) rfl (ht.below hb) (by omega) (by omega) (b := outB (look xs) ts) (by rw [HS.out.e]) (ts := outL (look xs) ts) (by rw [HS.out.e]) rfl).mono ?_; rintro e w5 ⟨a5, cap5, rfl, r5, hb5⟩
    clear c0 c1 c2
    replace hb := hb.then hb5
    obtain ⟨c0, c1, c2, _⟩ := cel_at hatt hb h0
    simp only [Nat.zero_mul, Nat.add_zero] at c0 c1 c2
    have ht5 := ht.below hb
    generalize outB (look xs) ts = B at *
    generalize outL (look xs) ts = X at *
    go_wp2_with fail
    have htW : Row w5.drew (some ⟨bt, offt, none⟩) cap' ts := ht5.below (Below.refl _ _).drew
    have hbn := (Below.refl w5.drew.heap.size w5.drew).new (.cells #[.int .i64 ts[0].k, .string ts[0].s, .int .i64 ts[0].n] 24)
    go_region_held3 (fun w' => w'.cell? ⟨bt, offt, none⟩ = some (.int .i64 ts[0].k) ∧ w'.cell? ⟨bt, offt + 1, none⟩ = some (.string ts[0].s) ∧ w'.cell? ⟨bt, offt + 2, none⟩ = some (.int .i64 ts[0].n))
      (first
        | exact ⟨c0, c1, c2⟩
        | exact ⟨keep (w := w5.drew) c0 hb6, keep (w := w5.drew) c1 hb6, keep (w := w5.drew) c2 hb6⟩
        | exact ⟨keep (w := w5.drew) c0 hbn, keep (w := w5.drew) c1 hbn, keep (w := w5.drew) c2 hbn⟩
        | exact ⟨keep (keep (w := w5.drew) c0 hb6) ((Below.refl _ _).new _), keep (keep (w := w5.drew) c1 hb6) ((Below.refl _ _).new _), keep (keep (w := w5.drew) c2 hb6) ((Below.refl _ _).new _)⟩
        | exact ⟨keep (keep (w := w5.drew) c0 hbn) hb6, keep (keep (w := w5.drew) c1 hbn) hb6, keep (keep (w := w5.drew) c2 hbn) hb6⟩)
      (first
        | (go_at_call 34; refine (refparts_own _ cap' _ ts htW HS.out.rt h0 H3.out).mono ?_; rintro e w6 ⟨vp, vsp, rfl, hop, hsl, hb6⟩; obtain ⟨aP, capP, rfl, hacc, hbl, hrh⟩ := parts_armA (T := 24) (c := ts[0]) hop hsl htW hb6 hf; clear hop hsl)
        | (go_at_call 34; refine (refparts_own _ cap' _ ts (htW.below hbn) HS.out.rt h0 H3.out).mono ?_; rintro e w6 ⟨vp, vsp, rfl, hop, hsl, hb6⟩; obtain ⟨aP, capP, rfl, hacc, hbl, hrh⟩ := parts_armB (T := 24) (c := ts[0]) hop hsl htW hb6 hf; clear hop hsl))
    all_goals
      have HPP : Hid (accP ts[0] (look xs) (partsL ts) = putL (look xs) ts) := by
        obtain ⟨c, l, rfl⟩ : ∃ c l, ts = c :: l := by cases ts with | nil => simp at h0 | cons c l => exact ⟨c, l, rfl⟩
        exact accP_all _ HS.out.rt (by have := H3.out; simp at this ⊢; omega)
      have hP6 := parts_le HS.out.rt
      have HPL : Hid (∀ p ∈ partsL ts, p.length ≤ 200) := by
        obtain ⟨c, l, rfl⟩ : ∃ c l, ts = c :: l := by cases ts with | nil => simp at h0 | cons c l => exact ⟨c, l, rfl⟩
        intro p hp; have := parts_len HS.out.rt p hp; simp at hl; omega
      have hx5 : Row w5.drew a cap xs := (hx.below hb).below (Below.refl _ _).drew
      have r5d : Row w5.drew a5 cap5 X := r5.below (Below.refl _ _).drew
      replace hb : Below w.heap.size w w5.drew := hb.then (Below.refl _ _).drew
      clear c0 c1 c2 htW hbn ht5 r5 hb5 hb2 hb6
      generalize partsL ts = P at *
      generalize ts[0] = c at *
      replace hacc := hacc.lit (show [c] = accP c (look xs) (P.take 0) by simp [accP])
      go_wp2_with fail
      go_loopw [9, 10, 11, 12] (fun v i y one wr => ∃ k : Nat, k ≤ P.length ∧ i = .int .i64 k ∧ AccInv w5.drew.heap.size 24 (accP c (look xs) (P.take k)) v wr ∧ Below w5.drew.heap.size w5.drew wr ∧ Row (hide v.ownBlock wr) aP capP P ∧ Hid (∀ p ∈ P.take k, (putL (look xs) p).length ≤ 200)) (fun v i y one wr => P.length - (intOf i).toNat)
      case atStart => exact ⟨0, Nat.zero_le _, rfl, hacc, hbl, hrh, by simp [Hid]⟩
      case round =>
        clear hacc hbl hrh
        obtain ⟨k, hk, rfl, hacc, hbl, hrh, HF⟩ := hrel
        have hle := accP_le c (look xs) (P.take k) HF.out
        have hlk : (P.take k).length ≤ k := List.length_take_le _ _
        by_cases hlt : k < P.length
        · obtain ⟨b, off, rfl, hb', hat⟩ := (Row.keeps hrh (hide_keeps _ _)).cases.resolve_left (fun e => by simp [e] at hlt)
          obtain ⟨a1, cap1, d0, hr1⟩ := list_at hat (Below.refl _ _) hlt
          have hp1 := HPL.out _ (List.getElem_mem hlt)
          have HTk := mkHid (accP_take c (look xs) P hlt)
          cases hO : outB (look xs) P[k] with
          | false =>
            have hlong := accP_long c (look xs) P hlt
            rw [HPP.out] at hlong
            obtain ⟨rfl, rfl⟩ : B = false ∧ X = [] := by
              have h1 : ¬ (putL (look xs) P[k]).length ≤ 200 := fun h => by rw [outB_iff.2 h] at hO; cases hO
              have h2 : B = false := by
                cases B with
                | false => rfl
                | true => have := HBX.out.2.2.1 rfl; omega
              exact ⟨h2, HBX.out.2.1 h2⟩
            have HO := mkHid hO
            clear hO hlong
            go_wp2_with fail
            refine (apply_no (hx5.below hbl) hr1 (by omega) (by omega) HS.out.e HO.out).mono ?_; rintro e w7 ⟨a7, cap7, rfl, r7, hb7⟩
            clear r7
            go_wp2_with fail
            go_ret
            exact ⟨rfl, (hb.then hbl).then hb7⟩
          | true =>
            have hO2 := outB_iff.1 hO
            have HO := mkHid hO
            have HF2 : Hid (∀ p ∈ P.take (k + 1), (putL (look xs) p).length ≤ 200) := by
              rw [Hid]; intro p hp
              rw [List.take_succ_eq_append_getElem hlt, List.mem_append, List.mem_singleton] at hp
              rcases hp with hp | rfl
              · exact HF.out p hp
              · exact hO2
            clear hO
            go_wp2_with (first
              | (go_at_call 21; refine (apply_yes (hx5.below hbl) hr1 (by omega) (by omega) HS.out.e HO.out).mono ?_; rintro e w7 ⟨a7, cap7, rfl, r7, hb7⟩; have hbl2 := hbl.then hb7; have hacc2 := hacc.below hb7; have hrh2 := Row.keeps hrh (below_hide hb7 _); have hC := hacc.newer (Nat.le_refl _) r7)
              | (at_builtin; refine wpList_accsK (α := Cel) rfl _ _ 22 rfl w5.drew.heap.size 24 32 _ Try.underlying22 Try.infoCell rfl (by decide) _ (accP c (look xs) (P.take k)) hacc2 (by rfl) _ _ (putL (look xs) P[k]) hC (by rfl) (by omega) hbl2.size ?_; intro v' w8 hacc3 hb8 hk8))
            go_round
            case rel => exact ⟨k + 1, by omega, by go_num, hacc3.lit HTk.out.symm, hbl2.trans hb8, Row.keeps hrh2 hk8, HF2⟩
            case measure => simp [intOf]; omega
        · have HL : Hid (P.take k = P) := List.take_of_length_le (by omega)
          rw [HL.out] at hle
          rw [HPP.out] at hle
          obtain ⟨aA, capA, rfl, hrA⟩ := hacc.row
          rw [HL.out, HPP.out] at hrA ⊢
          clear hacc hrh HF hlk
          cases B with
          | true =>
            have h200 := HBX.out.2.2.1 rfl
            obtain rfl : X = putL (look xs) ts := HBX.out.1 rfl
            clear HBX
            have t1 : decide (((putL (look xs) ts).length : Int) ≤ 200) = true := by simp; omega
            go_wp2_with fail
            refine (refsame1_lit rfl (r5d.below hbl) rfl hrA (b := true) (by simp)).mono ?_; rintro e w9 ⟨rfl, hb9⟩
            go_wp2_with fail
            go_ret
            exact ⟨rfl, (hb.then hbl).then hb9⟩
          | false =>
            have h200 : ¬ (putL (look xs) ts).length ≤ 200 := fun h => by have := HBX.out.2.2.2 h; cases this
            obtain rfl : X = [] := HBX.out.2.1 rfl
            clear HBX
            have t1 : decide (((putL (look xs) ts).length : Int) ≤ 200) = false := by simp; omega
            go_wp2_with fail
            go_ret
            exact ⟨rfl, hb.then hbl⟩
  · have t3 : (ts[0].k != 3) = true := by simp [h3]
    clear h3
    go_enter Try.func9, Try.ntmps9
    go_wp2_with fail
    refine (head2_any _).mono ?_; rintro e w1 ⟨rfl, hb⟩
    go_wp2_with fail
    refine (may_lit (hx.below hb) (ht.below hb) HM.out).mono ?_; rintro e w2 ⟨rfl, hb2⟩
    replace hb := hb.then hb2
    obtain ⟨c0, c1, c2, _⟩ := cel_at hatt hb h0
    simp only [Nat.zero_mul, Nat.add_zero] at c0 c1 c2
    go_wp2_with fail
    go_ret
    exact ⟨rfl, hb⟩
end Go.Proofs.Ytfcebbfphjbkoaa
namespace Go.Proofs.Ytfcebbfphjbkoaa
open Go.RowKit Go.ChangeShapes Go.WideShapes Go.Deep Go.ChangeAt

theorem Try.own : ownKnob Try.prog.godebug = none := by kernel_rfl
theorem Try.laidOut : laidOutB Try.prog = true := by kernel_rfl
theorem Try.cells24 : Try.prog.cellsOf 24 = 3 := by kernel_rfl
theorem Try.cells22 : Try.prog.cellsOf 22 = 1 := by kernel_rfl
theorem Try.cells3 : Try.prog.cellsOf 3 = 1 := by kernel_rfl
theorem Try.cells9 : Try.prog.cellsOf 9 = 1 := by kernel_rfl

theorem i64_wf {n : Int} (h : (Lit.int .i64 n).wf = true) : -9223372036854775808 ≤ n ∧ n ≤ 9223372036854775807 := by
  simp [Lit.wf, IntKind.min, IntKind.max, IntKind.signed, IntKind.bits] at h
  omega
theorem add_lit (b o j : Nat) : (Addr.mk b o none).add j = ⟨b, o + j, none⟩ := by unfold Addr.add; split <;> simp_all

section
variable {H : Type} {enc : TypeId × Value → H} {w : World} {spare : Nat → Bool} {held : Bool}
set_option maxRecDepth 100000 in
/-- three cells that read as a cell of a term -/
theorem open_cell {n : Nat} {cs : List Value} {x : DataW H × List MemPlace} (h : DataW.trod enc Try.prog w 0 spare held n 24 cs = some x) :
    ∃ c : Cel, cs = [.int .i64 c.k, .string c.s, .int .i64 c.n] ∧ c.fit := by
  obtain ⟨ys, m, _, _, hlen, hyl, hf⟩ := DataW.trod_struct Try.underlying24 h
  rw [Try.cells24] at hlen
  match cs, hlen with
  | [v0, v1, v2], _ =>
    have h0 : DataW.trod enc Try.prog w 0 spare held m 3 (([v0, v1, v2].drop 0).take (Try.prog.cellsOf 3)) = ys[0]? := hf 0 _ rfl
    have h1 : DataW.trod enc Try.prog w 0 spare held m 9 (([v0, v1, v2].drop 1).take (Try.prog.cellsOf 9)) = ys[1]? := hf 1 _ rfl
    have h2 : DataW.trod enc Try.prog w 0 spare held m 3 (([v0, v1, v2].drop 2).take (Try.prog.cellsOf 3)) = ys[2]? := hf 2 _ rfl
    rw [Try.cells3] at h0 h2
    rw [Try.cells9] at h1
    have hy : ∀ i : Nat, i < 3 → ∃ y, ys[i]? = some y := fun i hi => ⟨_, List.getElem?_eq_getElem (by rw [hyl]; exact hi)⟩
    obtain ⟨y0, e0⟩ := hy 0 (by omega)
    obtain ⟨y1, e1⟩ := hy 1 (by omega)
    obtain ⟨y2, e2⟩ := hy 2 (by omega)
    rw [e0] at h0
    rw [e1] at h1
    rw [e2] at h2
    obtain ⟨a0, q0, _, f0⟩ := DataW.trod_int Try.underlying3 h0
    obtain ⟨a1, q1, _, f1⟩ := DataW.trod_string Try.underlying9 h1
    obtain ⟨a2, q2, _, f2⟩ := DataW.trod_int Try.underlying3 h2
    simp at q0 q1 q2
    refine ⟨⟨a0, a1, a2⟩, by rw [q0, q1, q2], ⟨(i64_wf f0).1, (i64_wf f0).2, (i64_wf f2).1, (i64_wf f2).2, by unfold maxLen at f1; exact f1⟩⟩

/-- what rows of a kind are made of -/
theorem open_rows {α : Type} [Rep α] {t e : TypeId} (ht : Try.prog.underlying t = some (.slice e)) (hC : Try.prog.cellsOf e = Rep.sz α)
    (hE : ∀ (n : Nat) (a : Addr) (cs : List Value) (x : DataW H × List MemPlace), w.cells? 0 a (Rep.sz α) = some cs → DataW.trod enc Try.prog w 0 (fun _ => true) held n e cs = some x → ∃ (b o : Nat) (y : α), a = ⟨b, o, none⟩ ∧ Rep.E w b o y)
    {fuel : Nat} {a : Option Addr} {len cap : Nat} {x : DataW H × List MemPlace} (h : DataW.trod enc Try.prog w 0 (fun _ => true) held fuel t [.slice a len cap] = some x) :
    ∃ xs : List α, xs.length = len ∧ Row w a cap xs := by
  rcases open_slice ht h with ⟨hcs, _⟩ | ⟨ad, l, c, m, n, D, Pl, hcs, _, hl, hm, hmm, _, hi⟩
  · simp at hcs
    obtain ⟨rfl, rfl, rfl⟩ := hcs
    exact ⟨[], rfl, Row.empty _ _ _ (by omega) (fun _ => rfl)⟩
  · simp at hcs
    obtain ⟨rfl, rfl, rfl⟩ := hcs
    simp only [if_true] at hmm
    subst hmm
    have key : ∀ i, i < len → ∃ (b o : Nat) (y : α), ad.add (i * Rep.sz α) = ⟨b, o, none⟩ ∧ Rep.E w b o y := by
      intro i hil
      obtain ⟨cs', hc, ht'⟩ := hi i (by omega)
      rw [hC] at hc
      exact hE n _ cs' _ hc ht'
    have hy : ∀ i : Fin len, ∃ y : α, ∃ b o, ad.add (i.val * Rep.sz α) = ⟨b, o, none⟩ ∧ Rep.E w b o y := fun i => by
      obtain ⟨b, o, y, e1, e2⟩ := key i.val i.isLt
      exact ⟨y, b, o, e1, e2⟩
    let f : Fin len → α := fun i => Classical.choose (hy i)
    have hf : ∀ i : Fin len, ∃ b o, ad.add (i.val * Rep.sz α) = ⟨b, o, none⟩ ∧ Rep.E w b o (f i) := fun i => Classical.choose_spec (hy i)
    refine ⟨List.ofFn f, List.length_ofFn, ⟨by rw [List.length_ofFn]; exact hl, by unfold maxLen at hm; omega, (fun e => by cases e), fun i x hx => ?_⟩⟩
    have hil : i < len := by
      have := (List.getElem?_eq_some_iff.1 hx).1; rwa [List.length_ofFn] at this
    have hx' : f ⟨i, hil⟩ = x := by
      rw [List.getElem?_eq_getElem (by rw [List.length_ofFn]; exact hil), List.getElem_ofFn] at hx
      exact Option.some.inj hx
    obtain ⟨b, o, e1, e2⟩ := hf ⟨i, hil⟩
    obtain ⟨b0, o0, s0⟩ := ad
    have hz := hf ⟨0, by omega⟩
    obtain ⟨b1, o1, e3, _⟩ := hz
    simp only [Nat.zero_mul, Addr.add, if_true] at e3
    injection e3 with e3 e4 e5
    subst e5
    rw [add_lit] at e1
    injection e1 with e1 e6
    subst e1
    refine ⟨b0, o0, rfl, ?_⟩
    rw [hx'] at e2
    rw [← e6] at e2
    exact e2

theorem spot_none {a : Addr} {v : Value} (h : w.cell? a = some v) : ∃ b o, a = ⟨b, o, none⟩ := by
  have := World.cell?_spot h
  obtain ⟨b, o, s⟩ := a
  simp at this
  subst this
  exact ⟨b, o, rfl⟩
theorem E_cell (n : Nat) (a : Addr) (cs : List Value) (x : DataW H × List MemPlace) (hc : w.cells? 0 a 3 = some cs) (h : DataW.trod enc Try.prog w 0 spare held n 24 cs = some x) : ∃ (b o : Nat) (y : Cel), a = ⟨b, o, none⟩ ∧ Rep.E w b o y := by
  obtain ⟨c, rfl, hf⟩ := open_cell h
  obtain ⟨_, _, hat⟩ := World.cells?_some hc
  have h0 := hat 0 (by omega)
  obtain ⟨b, o, rfl⟩ : ∃ b o, a = ⟨b, o, none⟩ := spot_none (by simpa [Addr.add] using h0)
  refine ⟨b, o, c, rfl, ?_⟩
  have h1 := hat 1 (by omega)
  have h2 := hat 2 (by omega)
  rw [add_lit] at h0 h1 h2
  exact ⟨h0, h1, h2, hf⟩
/-- []Cell -/
theorem open_cells {fuel : Nat} {a : Option Addr} {len cap : Nat} {x : DataW H × List MemPlace} (h : DataW.trod enc Try.prog w 0 (fun _ => true) held fuel 22 [.slice a len cap] = some x) :
    ∃ xs : List Cel, xs.length = len ∧ Row w a cap xs :=
  open_rows Try.underlying22 Try.cells24 (fun n a cs x h1 h2 => E_cell n a cs x h1 h2) h
theorem E_list {α : Type} [Rep α] {e : TypeId} {el : TypeId} (he : Try.prog.underlying e = some (.slice el))
    (hop : ∀ {fuel : Nat} {a : Option Addr} {len cap : Nat} {x : DataW H × List MemPlace}, DataW.trod enc Try.prog w 0 (fun _ => true) held fuel e [.slice a len cap] = some x → ∃ xs : List α, xs.length = len ∧ Row w a cap xs)
    (n : Nat) (a : Addr) (cs : List Value) (x : DataW H × List MemPlace) (hc : w.cells? 0 a 1 = some cs) (h : DataW.trod enc Try.prog w 0 (fun _ => true) held n e cs = some x) : ∃ (b o : Nat) (y : List α), a = ⟨b, o, none⟩ ∧ Rep.E w b o y := by
  obtain ⟨_, hl, hat⟩ := World.cells?_some hc
  have h0 := hat 0 (by omega)
  match cs, hl with
  | [v], _ =>
    have hv : ∃ a' len cap, v = .slice a' len cap := by
      rcases open_slice he h with ⟨hcs, _⟩ | ⟨ad, l, c, m, n, D, Pl, hcs, _⟩
      · simp at hcs; exact ⟨_, _, _, hcs⟩
      · simp at hcs; exact ⟨_, _, _, hcs⟩
    obtain ⟨a', len, cap, rfl⟩ := hv
    obtain ⟨xs, rfl, hr⟩ := hop h
    obtain ⟨b, o, rfl⟩ : ∃ b o, a = ⟨b, o, none⟩ := spot_none (by simpa [Addr.add] using h0)
    rw [add_lit] at h0
    exact ⟨b, o, xs, rfl, ⟨a', cap, h0, hr⟩⟩
/-- [][]Cell -/
theorem open_cellss {fuel : Nat} {a : Option Addr} {len cap : Nat} {x : DataW H × List MemPlace} (h : DataW.trod enc Try.prog w 0 (fun _ => true) held fuel 49 [.slice a len cap] = some x) :
    ∃ xs : List (List Cel), xs.length = len ∧ Row w a cap xs :=
  open_rows Try.underlying49 Try.cells22 (fun n a cs x h1 h2 => E_list (α := Cel) Try.underlying22 open_cells n a cs x h1 h2) h
end
end Go.Proofs.Ytfcebbfphjbkoaa
namespace Go.Proofs.Ytfcebbfphjbkoaa
open Go.RowKit Go.ChangeShapes Go.WideShapes Go.Deep Go.ChangeAt

theorem Try.cells46 : Try.prog.cellsOf 46 = 2 := by kernel_rfl
section
variable {H : Type} {enc : TypeId × Value → H} {w : World} {held : Bool}
set_option maxRecDepth 100000 in
/-- two cells that read as a binding -/
theorem open_bind {n : Nat} {cs : List Value} {x : DataW H × List MemPlace} (h : DataW.trod enc Try.prog w 0 (fun _ => true) held n 46 cs = some x) :
    ∃ (v : Int) (t : List Cel) (a : Option Addr) (cap : Nat), cs = [.int .i64 v, .slice a t.length cap] ∧ Row w a cap t ∧ -9223372036854775808 ≤ v ∧ v ≤ 9223372036854775807 := by
  obtain ⟨ys, m, _, _, hlen, hyl, hf⟩ := DataW.trod_struct Try.underlying46 h
  rw [Try.cells46] at hlen
  match cs, hlen with
  | [v0, v1], _ =>
    have h0 : DataW.trod enc Try.prog w 0 (fun _ => true) held m 3 (([v0, v1].drop 0).take (Try.prog.cellsOf 3)) = ys[0]? := hf 0 _ rfl
    have h1 : DataW.trod enc Try.prog w 0 (fun _ => true) held m 22 (([v0, v1].drop 1).take (Try.prog.cellsOf 22)) = ys[1]? := hf 1 _ rfl
    rw [Try.cells3] at h0
    rw [Try.cells22] at h1
    have hy : ∀ i : Nat, i < 2 → ∃ y, ys[i]? = some y := fun i hi => ⟨_, List.getElem?_eq_getElem (by rw [hyl]; exact hi)⟩
    obtain ⟨y0, e0⟩ := hy 0 (by omega)
    obtain ⟨y1, e1⟩ := hy 1 (by omega)
    rw [e0] at h0
    rw [e1] at h1
    obtain ⟨a0, q0, _, f0⟩ := DataW.trod_int Try.underlying3 h0
    simp at q0
    have h1' : DataW.trod enc Try.prog w 0 (fun _ => true) held m 22 [v1] = some y1 := by simpa using h1
    have hv : ∃ a' len cap, v1 = .slice a' len cap := by
      rcases open_slice Try.underlying22 h1' with ⟨hcs, _⟩ | ⟨ad, l, c, m, n, D, Pl, hcs, _⟩
      · simp at hcs; exact ⟨_, _, _, hcs⟩
      · simp at hcs; exact ⟨_, _, _, hcs⟩
    obtain ⟨a', len, cap, rfl⟩ := hv
    obtain ⟨xs, rfl, hr⟩ := open_cells h1'
    exact ⟨a0, xs, a', cap, by rw [q0], hr, (i64_wf f0).1, (i64_wf f0).2⟩
theorem E_bind (n : Nat) (a : Addr) (cs : List Value) (x : DataW H × List MemPlace) (hc : w.cells? 0 a 2 = some cs) (h : DataW.trod enc Try.prog w 0 (fun _ => true) held n 46 cs = some x) : ∃ (b o : Nat) (y : Bnd), a = ⟨b, o, none⟩ ∧ Rep.E w b o y := by
  obtain ⟨v, t, a', cap, rfl, hr, hl, hh⟩ := open_bind h
  obtain ⟨_, _, hat⟩ := World.cells?_some hc
  have h0 := hat 0 (by omega)
  obtain ⟨b, o, rfl⟩ : ∃ b o, a = ⟨b, o, none⟩ := spot_none (by simpa [Addr.add] using h0)
  refine ⟨b, o, ⟨v, t⟩, rfl, ?_⟩
  have h1 := hat 1 (by omega)
  rw [add_lit] at h0 h1
  exact ⟨⟨a', cap, h0, h1, hr⟩, hl, hh⟩
/-- []Bind -/
theorem open_binds {fuel : Nat} {a : Option Addr} {len cap : Nat} {x : DataW H × List MemPlace} (h : DataW.trod enc Try.prog w 0 (fun _ => true) held fuel 28 [.slice a len cap] = some x) :
    ∃ xs : List Bnd, xs.length = len ∧ Row w a cap xs :=
  open_rows Try.underlying28 Try.cells46 (fun n a cs x h1 h2 => E_bind n a cs x h1 h2) h
end
end Go.Proofs.Ytfcebbfphjbkoaa
namespace Go.Proofs.Ytfcebbfphjbkoaa
open Go.RowKit Go.ChangeShapes Go.WideShapes Go.ChangeAt
open Go.ChangeMaps (open_string)

set_option maxRecDepth 100000 in
set_option maxHeartbeats 1000000 in
theorem SubstParts_lifted (os : Os) (started : os.Started) (H : Type) (enc : TypeId × Value → H) :
    ReturnsInHanded {} Try.checked os 9 .any (Rows.substPartsSpec.pre6 enc Try.prog Try.f9 Rows.substPartsRow.domain false) (Rows.substPartsSpec.post enc Try.prog Try.f9 false true false false) := by
  refine returnsInHanded_of_change (C := Try.checked) Try.own started (by kernel_rfl) Try.func9
    (ChangeSpec.witness6 (enc := enc) (C := Try.checked) false ⟨#[], #[.slice none 0 0, .slice none 0 0], []⟩ 8 (by kernel_rfl) (by kernel_rfl) (by kernel_rfl) (by kernel_rfl)) ?_
  intro W base args ds gs before hval0 hW hcnd _
  have hval : ∀ (j : Nat) t v, Try.f9.params[j]? = some t → args[j]? = some v → Value.okWide Try.prog W .any base t v := hval0
  have hW' := hW
  obtain ⟨p, q, hA0, hV, rfl, hfz, hnd⟩ := hW
  have hA : DataW.TrodAll enc Try.prog W 0 (fun _ => true) true Try.f9.params.toList args.toList ds p := hA0
  rw [Try.params9] at hA hval
  obtain ⟨v0, vs0, d0, ds0, p0, q0, hargs, rfl, rfl, h0, r0⟩ := trodAll_cons hA
  obtain ⟨v1, vs1, d1, ds1, p1, q1, rfl, rfl, rfl, h1, r1⟩ := trodAll_cons r0
  obtain ⟨rfl, rfl, rfl⟩ := trodAll_nil r1
  obtain rfl : args = #[v0, v1] := by cases args; simp_all
  obtain ⟨rfl, rfl⟩ := trodVars_none hV
  have k0 := h0
  have lt0 : ∀ x ∈ p0, x.block < W.heap.size := by obtain ⟨m, hm⟩ := k0; exact DataW.trod_lt m _ _ _ hm
  obtain ⟨a0, len0, cap0, rfl⟩ := okWide_slice Try.underlying28 (hval 0 28 v0 rfl rfl)
  obtain ⟨xs0, rfl, hr0⟩ : ∃ xs : List Bnd, xs.length = len0 ∧ Row W a0 cap0 xs := by
    obtain ⟨fuel, hf⟩ := h0
    exact open_binds hf
  have k1 := h1
  have lt1 : ∀ x ∈ p1, x.block < W.heap.size := by obtain ⟨m, hm⟩ := k1; exact DataW.trod_lt m _ _ _ hm
  obtain ⟨a1, len1, cap1, rfl⟩ := okWide_slice Try.underlying22 (hval 1 22 v1 rfl rfl)
  obtain ⟨xs1, rfl, hr1⟩ : ∃ xs : List Cel, xs.length = len1 ∧ Row W a1 cap1 xs := by
    obtain ⟨fuel, hf⟩ := h1
    exact open_cells hf
  clear hA0 hval0
  refine (lawParts2_any W xs0 xs1 a0 cap0 a1 cap1 hr0 hr1).mono fun e W' ⟨he, bel⟩ => ?_
  subst he
  exact ⟨_, rfl, _, _, _, [], _, [], hW', trodAll_mk1 (shut_bool Try.underlying4 _), (trodAll_cons_mk (Below.trod Try.laidOut (by kernel_rfl) (of_decide_eq_true (by kernel_rfl)) k0 bel lt0) (trodAll_cons_mk (Below.trod Try.laidOut (by kernel_rfl) (of_decide_eq_true (by kernel_rfl)) k1 bel lt1) trodAll_mk0)), rfl, bel.frame _, fun h => by cases h⟩

theorem SubstParts_over : Rows.substPartsRow.holds Try.pinned (OpenSpec.ofChange Rows.substPartsSpec) :=
  OpenClaim.holds_of_wide 9 Try.f9 rfl rfl rfl rfl rfl rfl rfl ⟨rfl, rfl, rfl, rfl, rfl⟩ rfl rfl rfl rfl rfl (by kernel_rfl) Try.func9 (by kernel_rfl)
    (of_decide_eq_true (by kernel_rfl)) (by unfold Func.isWrapper; first | (rw [if_pos (by decide +kernel)]; kernel_rfl) | (rw [if_neg (by decide +kernel)]; exact ⟨rfl, rfl⟩))
    (fun os started H enc _ => SubstParts_lifted os started H enc)

theorem SubstParts_holds : Rows.SubstPartsSaid := SubstParts_over
end Go.Proofs.Ytfcebbfphjbkoaa
