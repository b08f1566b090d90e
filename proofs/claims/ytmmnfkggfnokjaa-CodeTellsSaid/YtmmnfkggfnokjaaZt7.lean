import Derived.Test.YtmmnfkggfnokjaaZt6
import Derived.OrdersHeld
import Derived.Deep.RegionHeld3
import Derived.Deep.LoopGhost
set_option linter.unusedVariables false
namespace Go.Proofs.Ytmmnfkggfnokjaa
open Go.RowKit
/-! ### every variable of a clause has a register -/
def Mp (m : MkS) (n : Int) : Prop := ∃ r, m.at_ n = some r
theorem Mp.keep {m m' : MkS} {n : Int} (h : Mp m n) (k : NewV m m') : Mp m' n := let ⟨r, e⟩ := h; ⟨r, k.keep n r e⟩
mutual
theorem VarsT.imp {P Q : Int → Prop} (h : ∀ n, P n → Q n) : ∀ {t : Tm}, VarsT P t → VarsT Q t
  | .mk c ts, hv => ⟨fun e => h _ (hv.1 e), VarsTs.imp h hv.2⟩
theorem VarsTs.imp {P Q : Int → Prop} (h : ∀ n, P n → Q n) : ∀ {ts : List Tm}, VarsTs P ts → VarsTs Q ts
  | [], _ => trivial
  | t :: ts, hv => ⟨VarsT.imp h hv.1, VarsTs.imp h hv.2⟩
end
theorem VarsTs.all {P : Int → Prop} : ∀ {ts : List Tm}, (∀ t ∈ ts, VarsT P t) → VarsTs P ts
  | [], _ => trivial
  | t :: ts, h => ⟨h t List.mem_cons_self, VarsTs.all fun u hu => h u (List.mem_cons_of_mem _ hu)⟩
theorem var_mp (m : MkS) (n f g a : Int) : Mp (m.var n f g a) n := by
  unfold MkS.var
  cases h : m.at_ n with
  | some r => exact ⟨r, h⟩
  | none => exact ⟨m.next, by simp [MkS.lay]⟩
theorem leafV {P : Int → Prop} {t : Tm} (hk : Kinds t) (h3 : t.hd.k ≠ 3) (h1 : t.hd.k = 1 → P t.hd.n) : VarsT P t := by
  obtain ⟨c, ts⟩ := t
  have e : ts = [] := hk.2.1 h3
  subst e
  exact ⟨h1, trivial⟩
theorem unifyS_mp : ∀ (ts : List Tm) (m : MkS), KindsL ts → ∀ t ∈ ts, (∃ r, (t, r) ∈ (unifyS ts m).2) ∨ VarsT (Mp (unifyS ts m).1) t
  | [], m, _, t, h => by cases h
  | u :: ts, m, hk, t, h => by
    have hu : u.hd.k = 1 ∨ u.hd.k = 2 ∨ u.hd.k = 3 := KindsL.mem hk u List.mem_cons_self
    unfold unifyS
    by_cases h1 : u.hd.k = 1
    · rw [if_pos h1]
      rcases List.mem_cons.1 h with rfl | h
      · exact .inr (leafV hk.1 (by omega) fun _ => (var_mp m t.hd.n 5 6 0).keep (NewV.of_unify ts _))
      · exact unifyS_mp ts _ hk.2 t h
    · rw [if_neg h1]
      by_cases h2 : u.hd.k = 2
      · rw [if_pos h2]
        rcases List.mem_cons.1 h with rfl | h
        · exact .inr (leafV hk.1 (by omega) fun e => absurd e h1)
        · exact unifyS_mp ts _ hk.2 t h
      · rw [if_neg h2, if_pos (by omega)]
        rcases List.mem_cons.1 h with rfl | h
        · exact .inl ⟨m.next, List.mem_cons_self⟩
        · rcases unifyS_mp ts _ hk.2 t h with ⟨r, hr⟩ | hr
          · exact .inl ⟨r, List.mem_cons_of_mem _ hr⟩
          · exact .inr hr
theorem rowS_mp : ∀ (f : Nat) (ps : List (Tm × Int)) (m : MkS), (∀ p ∈ ps, Kinds p.1) → sumF ps ≤ f → ∀ p ∈ ps, VarsT (Mp (rowS f ps m)) p.1
  | 0, [], _, _, _, p, h => by cases h
  | 0, q :: ps, m, hk, hs, p, h => by
    have := flat_pos q.1
    have e1 : sumF (q :: ps) = q.1.flat.length + sumF ps := by simp [sumF]
    omega
  | f + 1, [], _, _, _, p, h => by cases h
  | f + 1, q :: ps, m, hk, hs, p, h => by
    have hq := hk q List.mem_cons_self
    obtain ⟨hg1, hg2, hg3⟩ := getS_len q m hq
    have hqp := flat_pos q.1
    have hsum : sumF (ps ++ (getS q m).2) ≤ f := by
      have e1 : sumF (q :: ps) = q.1.flat.length + sumF ps := by simp [sumF]
      have e2 : sumF (ps ++ (getS q m).2) = sumF ps + sumF (getS q m).2 := by simp [sumF]
      omega
    have hkk : ∀ p ∈ ps ++ (getS q m).2, Kinds p.1 := fun p hp => by
      rcases List.mem_append.1 hp with hp | hp
      · exact hk p (List.mem_cons_of_mem _ hp)
      · have hm := getS_mem q m p hp
        obtain ⟨⟨c, az⟩, r⟩ := q
        exact kindsL_mem hq.2.2 _ hm
    have ih := rowS_mp f (ps ++ (getS q m).2) (getS q m).1 hkk hsum
    show VarsT (Mp (rowS f (ps ++ (getS q m).2) (getS q m).1)) p.1
    have hnv := NewV.of_row f (ps ++ (getS q m).2) (getS q m).1
    rcases List.mem_cons.1 h with rfl | h
    · obtain ⟨⟨c, az⟩, r⟩ := p
      have hk' : c.k = 1 ∨ c.k = 2 ∨ c.k = 3 := hq.1
      rcases hk' with h1 | h1 | h1
      · refine leafV hq (by show c.k ≠ 3; omega) fun _ => ?_
        have e1 : getS (.mk c az, r) m = (m.var c.n 1 2 r, []) := by unfold getS; simp [Tm.hd, h1]
        rw [e1] at hnv ⊢
        exact (var_mp m c.n 1 2 r).keep hnv
      · exact leafV hq (by show c.k ≠ 3; omega) fun e => by have : c.k = 1 := e; omega
      · have e1 : getS (.mk c az, r) m = unifyS az (m.lay ⟨4, 0, r, c.s, c.n, false⟩) := by unfold getS; simp [Tm.hd, Tm.args, h1]
        refine ⟨fun e => by omega, VarsTs.all fun t ht => ?_⟩
        rcases unifyS_mp az (m.lay ⟨4, 0, r, c.s, c.n, false⟩) hq.2.2 t ht with ⟨r', hr'⟩ | hr'
        · exact ih (t, r') (List.mem_append_right _ (by rw [e1]; exact hr'))
        · rw [e1] at hnv ⊢
          exact VarsT.imp (fun n hn => hn.keep hnv) hr'
    · exact ih p (List.mem_append_left _ h)
theorem setS_mp (t : Tm) (r : Int) (m : MkS) (hk : Kinds t) (h3 : t.hd.k ≠ 3) : VarsT (Mp (setS t.hd r m)) t := by
  refine leafV hk h3 fun h1 => ?_
  unfold setS
  rw [if_pos h1]
  exact var_mp m t.hd.n 9 10 0
theorem setsS_mp : ∀ (ts : List Tm) (rs : List Int) (m : MkS), KindsL ts → ts.length = rs.length → ∀ t ∈ ts, t.hd.k ≠ 3 → VarsT (Mp (setsS ts rs m)) t
  | [], _, _, _, _, t, h, _ => by cases h
  | u :: ts, [], _, _, hl, _, _, _ => by simp at hl
  | u :: ts, r :: rs, m, hk, hl, t, h, h3 => by
    unfold setsS
    rcases List.mem_cons.1 h with rfl | h
    · exact VarsT.imp (fun n hn => hn.keep (NewV.of_sets ts rs _)) (setS_mp t r m hk.1 h3)
    · exact setsS_mp ts rs _ hk.2 (by simpa using hl) t h h3
theorem innerS_rl : ∀ (ts : List Tm) (m : MkS), ts.length = (innerS ts m).2.length
  | [], m => by unfold innerS; rfl
  | t :: ts, m => by
    unfold innerS
    split
    · simp only [List.length_cons]; rw [innerS_rl ts]
    · simp only [List.length_cons]; rw [innerS_rl ts]
mutual
theorem structS_mp : ∀ (t : Tm) (m : MkS), Kinds t → t.hd.k = 3 → VarsT (Mp (structS t m).1) t
  | .mk c ts, m, hk, h3 => by
    have h3' : c.k = 3 := h3
    refine ⟨fun e => by omega, VarsTs.all fun t ht => ?_⟩
    unfold structS
    dsimp only
    by_cases h : t.hd.k = 3
    · refine VarsT.imp (fun n hn => hn.keep ?_) (innerS_mp ts m hk.2.2 t ht h)
      exact ((NewV.fresh _).trans (NewV.lay _ _)).trans (NewV.of_sets ts _ _)
    · exact setsS_mp ts _ _ hk.2.2 (innerS_rl ts m) t ht h
theorem innerS_mp : ∀ (ts : List Tm) (m : MkS), KindsL ts → ∀ t ∈ ts, t.hd.k = 3 → VarsT (Mp (innerS ts m).1) t
  | [], _, _, t, h, _ => by cases h
  | u :: ts, m, hk, t, h, h3 => by
    unfold innerS
    by_cases hu : u.hd.k = 3
    · rw [if_pos hu]
      rcases List.mem_cons.1 h with e | h
      · rw [e]
        exact VarsT.imp (fun n hn => hn.keep (NewV.of_inner ts _)) (structS_mp u m hk.1 hu)
      · exact innerS_mp ts _ hk.2 t h h3
    · rw [if_neg hu]
      rcases List.mem_cons.1 h with rfl | h
      · exact absurd h3 hu
      · exact innerS_mp ts _ hk.2 t h h3
end
theorem lits_mp : ∀ (b : List (Bool × Tm)) (m : MkS), (∀ x ∈ b, Kinds x.2 ∧ x.2.hd.k = 3) → ∀ x ∈ b, VarsT (Mp (b.foldl (fun m x => litS x m) m)) x.2
  | [], _, _, x, h => by cases h
  | y :: b, m, hb, x, h => by
    rw [List.foldl_cons]
    rcases List.mem_cons.1 h with rfl | h
    · obtain ⟨h1, h2⟩ := hb x List.mem_cons_self
      refine VarsT.imp (fun n hn => hn.keep ?_) (structS_mp x.2 m h1 h2)
      exact (NewV.lay _ _).trans (NewV.of_lits b _)
    · exact lits_mp b _ (fun z hz => hb z (List.mem_cons_of_mem _ hz)) x h
end Go.Proofs.Ytmmnfkggfnokjaa
set_option linter.unusedVariables false
namespace Go.Proofs.Ytmmnfkggfnokjaa
open Go.RowKit
theorem rowOf_has : ∀ (ts : List Tm) (i : Nat) (t : Tm), t ∈ ts → ∃ r, (t, r) ∈ rowOf ts i
  | [], _, _, h => by cases h
  | u :: ts, i, t, h => by
    unfold rowOf
    rcases List.mem_cons.1 h with rfl | h
    · exact ⟨_, List.mem_cons_self⟩
    · obtain ⟨r, hr⟩ := rowOf_has ts (i + 1) t h
      exact ⟨r, List.mem_cons_of_mem _ hr⟩
theorem compS_dec2 (h : Tm) (b : List (Bool × Tm)) (hh : Kinds h) (ha : Aris h) (h3 : h.hd.k = 3) (hb : ∀ x ∈ b, Kinds x.2 ∧ Aris x.2 ∧ x.2.hd.k = 3) : ∃ (F : Int → Int) (P : Int → Prop) (ch1 ch2 : List Ins), InjP F P ∧ VarsT P h ∧ (∀ x ∈ b, VarsT P x.2) ∧ compS h b = ch1 ++ (ch2 ++ [⟨13, 0, 0, h.hd.s, h.hd.n, false⟩]) ∧ HeadR (funsOf (compS h b)) ch1 ((rowOf h.args 0).map fun p => renT F p.1) ∧ BodyR ch2 (fun _ => none) (b.map fun x => (x.1, renT F x.2)) := by
  cases h with
  | mk c ts =>
    have hn : c.n = (ts.length : Int) := ha.1 h3
    have hf0 : (⟨[], c.n, fun _ => none⟩ : MkS).fit := ⟨by simp only; omega, fun n r hr => by cases hr⟩
    have hps : ∀ p ∈ rowOf ts 0, Kinds p.1 ∧ 0 ≤ p.2 ∧ p.2 < c.n := fun p hp => by
      have := rowOf_low ts 0 p hp
      exact ⟨KindsL.of hh.2.2 _ (rowOf_mem ts 0 p hp), by omega, by omega⟩
    have hsum : sumF (rowOf ts 0) ≤ 2 * (Tm.mk c ts).flat.length + 1 := by rw [rowOf_sums]; simp [Tm.flat]; omega
    have l1 := rowS_lays (2 * (Tm.mk c ts).flat.length + 1) (rowOf ts 0) ⟨[], c.n, fun _ => none⟩ hps hf0
    obtain ⟨s1, es, hsep⟩ := rowS_sep (2 * (Tm.mk c ts).flat.length + 1) (rowOf ts 0) ⟨[], c.n, fun _ => none⟩ (fun p hp => ⟨(hps p hp).1, (hps p hp).2, fun n q e => by cases e⟩) hf0
    obtain ⟨n4, e4, h4⟩ := lits_no4 b (rowS (2 * (Tm.mk c ts).flat.length + 1) (rowOf ts 0) ⟨[], c.n, fun _ => none⟩) (fun x hx => (hb x hx).1)
    have hnv := NewV.of_lits b (rowS (2 * (Tm.mk c ts).flat.length + 1) (rowOf ts 0) ⟨[], c.n, fun _ => none⟩)
    have hF : FOk (fun n => ((b.foldl (fun m x => litS x m) (rowS (2 * (Tm.mk c ts).flat.length + 1) (rowOf ts 0) ⟨[], c.n, fun _ => none⟩)).at_ n).getD 0) (b.foldl (fun m x => litS x m) (rowS (2 * (Tm.mk c ts).flat.length + 1) (rowOf ts 0) ⟨[], c.n, fun _ => none⟩)) := fun n r e => by simp only; rw [e]; rfl
    have hc : compS (Tm.mk c ts) b = (rowS (2 * (Tm.mk c ts).flat.length + 1) (rowOf ts 0) ⟨[], c.n, fun _ => none⟩).code ++ (n4 ++ [⟨13, 0, 0, c.s, c.n, false⟩]) := by
      unfold compS
      show ((b.foldl (fun m x => litS x m) (rowS (2 * (Tm.mk c ts).flat.length + 1) (rowOf ts 0) ⟨[], c.n, fun _ => none⟩)).lay ⟨13, 0, 0, c.s, c.n, false⟩).code = _
      unfold MkS.lay
      rw [e4]
      simp
    have hv : ∀ n r, (rowS (2 * (Tm.mk c ts).flat.length + 1) (rowOf ts 0) ⟨[], c.n, fun _ => none⟩).at_ n = some r → funsOf (compS (Tm.mk c ts) b) r = false := fun n r e => by
      cases hfo : funsOf (compS (Tm.mk c ts) b) r with
      | false => rfl
      | true =>
        obtain ⟨i, hi, o4, oa⟩ := funsOf_iff.1 hfo
        rw [hc] at hi
        rcases List.mem_append.1 hi with hi | hi
        · have hi' : i ∈ s1 := by rw [es] at hi; simpa using hi
          exact absurd oa.symm ((hsep i hi' o4).2 n r e)
        · rcases List.mem_append.1 hi with hi | hi
          · exact absurd o4 (h4 i hi)
          · simp at hi
            subst hi
            simp at o4
    have hfun : ∀ i ∈ (rowS (2 * (Tm.mk c ts).flat.length + 1) (rowOf ts 0) ⟨[], c.n, fun _ => none⟩).code, i.op = 4 → funsOf (compS (Tm.mk c ts) b) i.a = true := fun i hi o4 => funsOf_iff.2 ⟨i, by rw [hc]; exact List.mem_append_left _ hi, o4, rfl⟩
    obtain ⟨ch1, e1, d1⟩ := rowS_dec (funs := funsOf (compS (Tm.mk c ts) b)) (2 * (Tm.mk c ts).flat.length + 1) (rowOf ts 0) ⟨[], c.n, fun _ => none⟩ (fun p hp => ⟨(hps p hp).1, ArisL.of ha.2 _ (rowOf_mem ts 0 p hp)⟩) hsum (hF.back hnv) hv hfun
    obtain ⟨ch2, e2, d2⟩ := lits_dec b (rowS (2 * (Tm.mk c ts).flat.length + 1) (rowOf ts 0) ⟨[], c.n, fun _ => none⟩) hb l1.1 hF
    have e42 : n4 = ch2 := by rw [e4] at e2; exact List.append_cancel_left e2
    have hI : InjM (b.foldl (fun m x => litS x m) (rowS (2 * (Tm.mk c ts).flat.length + 1) (rowOf ts 0) ⟨[], c.n, fun _ => none⟩)) := InjM.ofLits b (InjM.ofRow _ _ ⟨hf0, fun n n' r e => by cases e⟩)
    refine ⟨_, Mp (b.foldl (fun m x => litS x m) (rowS (2 * (Tm.mk c ts).flat.length + 1) (rowOf ts 0) ⟨[], c.n, fun _ => none⟩)), ch1, ch2, ?_, ?_, ?_, ?_, d1, d2 _ ⟨fun _ _ => rfl, fun _ _ _ => rfl⟩⟩
    · rintro x y ⟨r, hx⟩ ⟨r', hy⟩ e
      have e' : r = r' := by
        have := e
        simp only [hx, hy, Option.getD_some] at this
        exact this
      subst e'
      exact hI.2 x y r hx hy
    · have h3' : c.k = 3 := h3
      refine ⟨fun e => by omega, VarsTs.all fun t ht => ?_⟩
      obtain ⟨k, hk, e⟩ := List.getElem_of_mem ht
      have hm : ∃ r, (t, r) ∈ rowOf ts 0 := rowOf_has ts 0 t ht
      obtain ⟨r, hr⟩ := hm
      exact VarsT.imp (fun n hn => hn.keep hnv) (rowS_mp _ (rowOf ts 0) _ (fun p hp => (hps p hp).1) hsum (t, r) hr)
    · exact lits_mp b _ (fun x hx => ⟨(hb x hx).1, (hb x hx).2.2⟩)
    · rw [hc, e42, e1]
      simp [Tm.hd]
end Go.Proofs.Ytmmnfkggfnokjaa
set_option linter.unusedVariables false
namespace Go.Proofs.Ytmmnfkggfnokjaa
open Go.RowKit
mutual
theorem vars_flat {P : Int → Prop} : ∀ (t : Tm), (∀ c ∈ t.flat, c.k = 1 → P c.n) → VarsT P t
  | .mk c ts, h => by
    simp only [Tm.flat] at h
    exact ⟨h c List.mem_cons_self, vars_flats ts fun d hd => h d (List.mem_cons_of_mem _ hd)⟩
theorem vars_flats {P : Int → Prop} : ∀ (ts : List Tm), (∀ c ∈ flats ts, c.k = 1 → P c.n) → VarsTs P ts
  | [], _ => trivial
  | t :: ts, h => by
    simp only [flats] at h
    exact ⟨vars_flat t fun c hc => h c (List.mem_append_left _ hc), vars_flats ts fun c hc => h c (List.mem_append_right _ hc)⟩
end
mutual
theorem flat_vars {P : Int → Prop} : ∀ (t : Tm), VarsT P t → ∀ c ∈ t.flat, c.k = 1 → P c.n
  | .mk c ts, h, d, hd, hk => by
    simp only [Tm.flat] at hd
    rcases List.mem_cons.1 hd with rfl | hd
    · exact h.1 hk
    · exact flats_vars ts h.2 d hd hk
theorem flats_vars {P : Int → Prop} : ∀ (ts : List Tm), VarsTs P ts → ∀ c ∈ flats ts, c.k = 1 → P c.n
  | [], _, d, hd, _ => by simp [flats] at hd
  | t :: ts, h, d, hd, hk => by
    simp only [flats] at hd
    rcases List.mem_append.1 hd with hd | hd
    · exact flat_vars t h.1 d hd hk
    · exact flats_vars ts h.2 d hd hk
end
/-- a clause's cells numbered by first place: the head's, the literals' -/
def numH (h : Tm) : List Cel := (nuL nu0 h.flat).1
def numB (h : Tm) (bl : List (Bool × Tm)) : List (List Cel) := (nuLs (nuL nu0 h.flat).2 (bl.map fun x => x.2.flat)).1
theorem nu0_inj : NuInj nu0 := ⟨nu0_ok, fun a b r h => by cases h⟩
/-- what is told of a clause's code, numbered, is the clause numbered -/
theorem told_num (h : Tm) (bl : List (Bool × Tm)) (hh : Kinds h) (hn : NoName h) (h3 : h.hd.k = 3) (hb : ∀ x ∈ bl, Kinds x.2 ∧ x.2.hd.k = 3 ∧ NoName x.2) {F : Int → Int} {P : Int → Prop} (hF : InjP F P) (hv : VarsT P h) (hvb : ∀ x ∈ bl, VarsT P x.2) : numH (renT F h) = numH h ∧ numB (renT F h) (bl.map (renL F)) = numB h bl := by
  have hx : ∀ xs ∈ (bl.map fun x => x.2.flat), ∀ c ∈ xs, c.k = 1 → P c.n := fun xs hxs c hc hk => by
    obtain ⟨x, hx, rfl⟩ := List.mem_map.1 hxs
    exact flat_vars x.2 (hvb x hx) c hc hk
  obtain ⟨a, b⟩ := nu_same_of hF h.flat (bl.map fun x => x.2.flat) (flat_vars h hv) hx
  unfold numH numB
  rw [ren_flat F h hh hn]
  refine ⟨a, ?_⟩
  rw [← b, List.map_map, List.map_map]
  congr 2
  refine List.map_congr_left fun x hx => ?_
  show (renT F x.2).flat = x.2.flat.map _
  rw [ren_flat F x.2 (hb x hx).1 (hb x hx).2.2]
end Go.Proofs.Ytmmnfkggfnokjaa
set_option linter.unusedVariables false
namespace Go.Proofs.Ytmmnfkggfnokjaa
open Go.RowKit
mutual
theorem ok_noname : ∀ t : Tm, t.ok → NoName t
  | .mk c ts, h => by
    refine ⟨fun h3 => ?_, oks_nonames ts h.2.2⟩
    have h1 := h.1
    unfold cellOk at h1
    simp only [Bool.or_eq_true, Bool.and_eq_true, decide_eq_true_eq] at h1
    rcases h1 with (h1 | h1) | h1
    · exact (toList_inj _ _).1 (h1.1.1.2.trans (by rw [ByteArray.toList, ByteArray.toList.loop]; rfl))
    · exact (toList_inj _ _).1 (h1.1.1.2.trans (by rw [ByteArray.toList, ByteArray.toList.loop]; rfl))
    · exact absurd h1.1.1.1 h3
theorem oks_nonames : ∀ ts : List Tm, oks ts → NoNames ts
  | [], _ => trivial
  | t :: ts, h => ⟨ok_noname t h.1, oks_nonames ts h.2⟩
end
mutual
theorem ok_aris : ∀ t : Tm, t.ok → Aris t
  | .mk c ts, h => by
    refine ⟨fun h3 => ?_, oks_aris ts h.2.2⟩
    have h1 := h.1
    have h2 := h.2.1
    unfold ar at h2
    rw [if_pos h3] at h2
    unfold cellOk at h1
    simp only [Bool.or_eq_true, Bool.and_eq_true, decide_eq_true_eq] at h1
    rcases h1 with (h1 | h1) | h1
    · have := h1.1.1.1; omega
    · have := h1.1.1.1; omega
    · have := h1.1.2; omega
theorem oks_aris : ∀ ts : List Tm, oks ts → ArisL ts
  | [], _ => trivial
  | t :: ts, h => ⟨ok_aris t h.1, oks_aris ts h.2⟩
end
end Go.Proofs.Ytmmnfkggfnokjaa
set_option linter.unusedVariables false
namespace Go.Proofs.Ytmmnfkggfnokjaa
open Go.RowKit
/-! ### told: a row's registers of Funs -/
theorem Row.takeN {w : World} {a : Option Addr} {c : Nat} {xs : List Ins} (h : Row w a c xs) (k : Nat) : Row w a c (xs.take k) := by
  have hle := h.le
  refine ⟨by rw [List.length_take]; omega, h.max, h.nil, fun i x hi => ?_⟩
  rw [List.getElem?_take] at hi
  split at hi
  · exact h.at_ i x hi
  · cases hi
theorem funsOf_next {L : List Ins} {k : Nat} (hk : k < L.length) (r : Int) : funsOf (L.take (k + 1)) r = (funsOf (L.take k) r || (L[k].op == 4 && L[k].a == r)) := by
  unfold funsOf
  rw [List.take_succ_eq_append_getElem hk, List.any_append]
  simp only [List.any_cons, List.any_nil, Bool.or_false]
/-- the teller made anew -/
theorem TW.start {w W : World} {b off c : Nat} {L : List Ins} (hr : Row w (some ⟨b, off, none⟩) c L) (h1 : L.length ≤ 100000) (hW : Below w.heap.size w W) : TW w (((W.alloc (.map #[] 0)).alloc (.map #[] 0)).alloc (.cells #[.slice (some ⟨b, off, none⟩) L.length c, .map (some W.heap.size), .map (some (W.heap.size + 1)), .bool false] 194)) (W.heap.size + 2) W.heap.size (W.heap.size + 1) { rest := L, funs := fun _ => false, built := fun _ => none, bad := false, nb := 0, H := fun _ => none } (fun _ => .slice none 0 0) := by
  have hs := hW.size
  have hm1 := MapV.made Try.prog 3 W
  have hm2 := MapV.made Try.prog 3 (W.alloc (.map #[] 0))
  rw [World.size_alloc] at hm2
  refine ⟨((hW.alloc hs _).alloc (by simp; omega) _).alloc (by simp; omega) _, ⟨some ⟨b, off, none⟩, c, ?_, hr⟩, ⟨0, by omega, ?_⟩, ⟨0, ⟨Nat.le_refl _, h1⟩, ?_⟩, fun p d h => (by cases h), fun p q dp dq h => (by cases h), by omega, by omega, by omega, by omega⟩
  · have e : W.heap.size + 2 = ((W.alloc (.map #[] 0)).alloc (.map #[] 0)).heap.size := by simp
    rw [e]
    exact heap_alloc_new _ _
  · refine ((hm1.alloc _).alloc _).congr fun i => rfl
  · refine (hm2.alloc _).congr fun i => rfl
end Go.Proofs.Ytmmnfkggfnokjaa
set_option linter.unusedVariables false
namespace Go.Proofs.Ytmmnfkggfnokjaa
open Go.RowKit
/-- what told makes of a row -/
def ToldPost (w : World) (L0 : List Ins) (e : Ins) (r : Ending) (W' : World) : Prop :=
  Below w.heap.size w W' ∧ ((r = .returned (.tuple #[.agg #[.slice none 0 0, .slice none 0 0], .bool false]) ∧ ∀ ch us bs r2, L0 = ch ++ r2 → HeadR (funsOf (L0 ++ [e])) ch us → us.length = e.n.toNat → BodyR r2 (fun _ => none) bs → ¬ e.n ≤ 6) ∨ ∃ (gh ch : Nat) (ab : Option Addr) (cb : Nat) (t : Tm) (ls : List LitV) (lits : List (Bool × Tm)),
    r = .returned (.tuple #[.agg #[.slice (some ⟨gh, 0, none⟩) t.flat.length ch, .slice ab ls.length cb], .bool true]) ∧ AccInv w.heap.size 79 (nuL nu0 t.flat).1 (.slice (some ⟨gh, 0, none⟩) t.flat.length ch) W' ∧ AccInv w.heap.size 88 ls (.slice ab ls.length cb) W' ∧ RowsN W' w.heap.size ls (nuLs (nuL nu0 t.flat).2 (lits.map fun x => x.2.flat)).1 ∧ ls.map LitV.neg = lits.map Prod.fst ∧ t.flat.length + sumT lits ≤ 20000 ∧
    ∀ ch us bs r2, L0 = ch ++ r2 → HeadR (funsOf (L0 ++ [e])) ch us → us.length = e.n.toNat → BodyR r2 (fun _ => none) bs → t = .mk (funI e) us ∧ lits = bs)
theorem hl_le : ∀ lits : List (Bool × Tm), lits.length ≤ sumT lits
  | [] => by simp [sumT]
  | x :: l => by
    have h1 := hl_le l
    have h2 := flat_pos x.2
    unfold sumT at *
    simp only [List.map_cons, List.sum_cons, List.length_cons]
    omega
set_option maxHeartbeats 3200000 in
/-- no body is told, where the head was lost -/
theorem body_bad (W0 w : World) (R fm bm : Nat) (S : TS) (kv : Nat → Value) (hT : TW W0 w R fm bm S kv) (hbad : S.bad = true) :
    Calls Try.prog 154 #[.pointer (some ⟨R, 0, none⟩)] w fun e W' => e = .returned (.slice none 0 0) ∧ W' = w := by
  obtain ⟨ra, rc, r0, _, _, r3, _, _⟩ := hT.cR
  rw [hbad] at r3
  clear hT
  go_enter Try.func154, Try.ntmps154
  go_wp2_with fail
  go_loopg [3] 0 (fun kk vo wr => vo = .slice none 0 0 ∧ wr = w)
  case atStart => exact ⟨rfl, rfl⟩
  case round =>
    obtain ⟨rfl, rfl⟩ := hrel
    cases hS : S.rest with
    | nil =>
      rw [hS] at r0
      rw [List.length_nil] at r0
      go_wp2_with fail
      go_ret
      exact ⟨rfl, rfl⟩
    | cons i l =>
      rw [hS] at r0
      rw [List.length_cons] at r0
      clear hS
      go_wp2_with fail
      go_ret
      exact ⟨rfl, rfl⟩
set_option maxRecDepth 100000 in
set_option maxHeartbeats 12800000 in
theorem told_any (w : World) (b off c : Nat) (L0 : List Ins) (e : Ins) (hr : Row w (some ⟨b, off, none⟩) c (L0 ++ [e])) (h1 : L0.length ≤ 3600) :
    Calls Try.prog 74 #[.slice (some ⟨b, off, none⟩) (L0.length + 1) c] w (ToldPost w L0 e) := by
  have hll : (L0 ++ [e]).length = L0.length + 1 := by simp
  have hle := hr.le
  have hmx := hr.max
  rw [hll] at hle
  have hat : ∀ i (hi : i < (L0 ++ [e]).length), Rep.E w b (off + i * Rep.sz Ins) (L0 ++ [e])[i] := fun i hi => by
    obtain ⟨b', off', e1, h2⟩ := hr.at_ i _ (List.getElem?_eq_getElem hi)
    cases e1
    exact h2
  have HAT := mkHid hat
  have HR := mkHid (hr.takeN L0.length)
  have hel : (L0 ++ [e])[L0.length]'(by omega) = e := by simp
  obtain ⟨c0, c1, c2, c3, c4, c5, hfit⟩ := ins_at hat ((Below.refl w.heap.size w).new (.cells #[.slice none 0 0, .slice none 0 0] 25)) (k := L0.length) (by omega)
  rw [hel] at c0 c1 c2 c3 c4 c5 hfit
  have HFIT := mkHid hfit
  obtain ⟨o1, o2, x1', x2', a1, a2, hsz, hn1, hn2⟩ := hfit
  have HLL := mkHid hll
  clear hat hr hll hel
  have hmm := @run_makeMap Try.prog
  go_enter Try.func74, Try.ntmps74
  by_cases h6 : e.n > 6
  · have HN := mkHid h6
    have hbz := ((Below.refl w.heap.size w).new (.cells #[.slice none 0 0, .slice none 0 0] 25)).new (.cells #[.int .i64 e.op, .int .i64 e.x, .int .i64 e.a, .string e.s, .int .i64 e.n, .bool e.neg] 90)
    have HBZ := mkHid hbz
    clear hbz
    go_wp2_with fail
    refine bodyPost_ret (v := .tuple #[.agg #[.slice none 0 0, .slice none 0 0], .bool false]) (by simp [results, Try.results74, go_sem, *]) rfl ⟨?_, .inl ⟨rfl, fun ch us bs r2 _ _ _ _ => by have := HN.out; omega⟩⟩
    exact HBZ.out
  · go_wp2_with fail
    obtain ⟨w2, hw2⟩ : ∃ X, ((w.alloc (.cells #[.slice none 0 0, .slice none 0 0] 25)).alloc (.cells #[.int .i64 e.op, .int .i64 e.x, .int .i64 e.a, .string e.s, .int .i64 e.n, .bool e.neg] 90)) = X := ⟨_, rfl⟩
    have hb2 : Below w.heap.size w w2 := by rw [← hw2]; exact ((Below.refl w.heap.size w).new _).new _
    have hs2 : w2.heap.size = w.heap.size + 2 := by rw [← hw2]; simp
    have hcl : w2.heap[w.heap.size]? = some (.cells #[.slice none 0 0, .slice none 0 0] 25 (0, 0)) := by
      rw [← hw2, heap_alloc_old _ _ (by simp)]; exact heap_alloc_new _ _
    have hbe : w2.heap[w.heap.size + 1]? = some (.cells #[.int .i64 e.op, .int .i64 e.x, .int .i64 e.a, .string e.s, .int .i64 e.n, .bool e.neg] 90 (0, 0)) := by
      rw [← hw2]
      have e1 : w.heap.size + 1 = (w.alloc (.cells #[.slice none 0 0, .slice none 0 0] 25)).heap.size := by simp
      rw [e1]; exact heap_alloc_new _ _
    have hr0 := HR.out
    rw [List.take_left' rfl] at hr0
    have HTS := mkHid (TW.start hr0 (by omega) hb2)
    have HM0 := mkHid (((MapV.made Try.prog 3 w2).alloc (.map #[] 0)).alloc (.cells #[.slice (some ⟨b, off, none⟩) L0.length c, .map (some w2.heap.size), .map (some (w2.heap.size + 1)), .bool false] 194))
    obtain ⟨w3, hw3⟩ : ∃ X, (((w2.alloc (.map #[] 0)).alloc (.map #[] 0)).alloc (.cells #[.slice (some ⟨b, off, none⟩) L0.length c, .map (some w2.heap.size), .map (some (w2.heap.size + 1)), .bool false] 194)) = X := ⟨_, rfl⟩
    have hs3 : w3.heap.size = w.heap.size + 5 := by rw [← hw3]; simp [hs2]
    have hcl3 : w3.heap[w.heap.size]? = some (.cells #[.slice none 0 0, .slice none 0 0] 25 (0, 0)) := by
      rw [← hw3, heap_alloc_old _ _ (by simp; omega), heap_alloc_old _ _ (by simp; omega), heap_alloc_old _ _ (by omega)]; exact hcl
    have hbe3 : w3.heap[w.heap.size + 1]? = some (.cells #[.int .i64 e.op, .int .i64 e.x, .int .i64 e.a, .string e.s, .int .i64 e.n, .bool e.neg] 90 (0, 0)) := by
      rw [← hw3, heap_alloc_old _ _ (by simp; omega), heap_alloc_old _ _ (by simp; omega), heap_alloc_old _ _ (by omega)]; exact hbe
    rw [hw3, hs2] at HTS HM0
    have hb3 : Below w.heap.size w w3 := HTS.out.bel
    have HW : Hid ((((((w.alloc (.cells #[.slice none 0 0, .slice none 0 0] 25)).alloc (.cells #[.int .i64 e.op, .int .i64 e.x, .int .i64 e.a, .string e.s, .int .i64 e.n, .bool e.neg] 90)).alloc (.map #[] 0)).alloc (.map #[] 0)).alloc (.cells #[.slice (some ⟨b, off, none⟩) L0.length c, .map (some (w.heap.size + 2)), .map (some (w.heap.size + 3)), .bool false] 194)) = w3) := by
      rw [Hid, hw2, ← hw3, hs2]
    have HT0 := mkHid (Tr.refl HTS.out)
    have HS3 := mkHid hs3
    have HCL := mkHid hcl3
    have HBE := mkHid hbe3
    have HN6 := mkHid h6
    have HMM := mkHid (show MapV Try.prog 3 w3 (w.heap.size + 2) 0 (MapF (funsOf ((L0 ++ [e]).take 0))) from HM0.out.congr fun i => rfl)
    clear hw2 hb2 hs2 hcl hbe hr0 hw3 hs3 hcl3 hbe3 hb3 h6 c0 c1 c2 c3 c4 c5 hmm HM0
    obtain ⟨kv0, hkv0⟩ : ∃ x : Nat → Value, x = fun _ => .slice none 0 0 := ⟨_, rfl⟩
    rw [← hkv0] at HT0 HTS
    clear hkv0
    have hre : Hid (w.heap.size + 1 + 1 + 1 + 1 = w.heap.size + 4) := by rw [Hid]
    try rw [hre.out]
    clear hre
    obtain ⟨S0, hS0⟩ : ∃ S0 : Nat → TS, ∀ k, S0 k = { rest := L0, funs := funsOf ((L0 ++ [e]).take k), built := fun _ => none, bad := false, nb := 0, H := fun _ => none } := ⟨_, fun _ => rfl⟩
    have HS0 := mkHid hS0
    have HT0' : Hid (Tr w w3 (w.heap.size + 4) (w.heap.size + 2) (w.heap.size + 3) (S0 0) kv0 w3 (S0 0) kv0) := by
      rw [Hid, hS0]; exact HT0.out
    clear HT0 hS0
    first | rw [HW.out] | skip
    go_loopw [7, 32] (fun _ i wr => ∃ k : Nat, i = .int .i64 k ∧ k ≤ L0.length + 1 ∧ Hid (Tr w w3 (w.heap.size + 4) (w.heap.size + 2) (w.heap.size + 3) (S0 0) kv0 wr (S0 k) kv0) ∧ Hid (∃ n, n ≤ k ∧ MapV Try.prog 3 wr (w.heap.size + 2) n (MapF (funsOf ((L0 ++ [e]).take k))))) (fun _ i wr => (L0.length + 1) - (intOf i).toNat)
    case atStart => exact ⟨0, rfl, Nat.zero_le _, HT0', mkHid ⟨0, Nat.le_refl _, HMM.out⟩⟩
    case round =>
      clear HT0'
      obtain ⟨k, rfl, hk, HT, HMK⟩ := hrel
      by_cases hlt : k < L0.length + 1
      · have hkl : k < (L0 ++ [e]).length := by rw [HLL.out]; exact hlt
        obtain ⟨c0, c1, c2, c3, c4, c5, hfx⟩ := ins_at HAT.out HT.out.tw.bel hkl
        have HNX := mkHid (fun r => funsOf_next hkl r)
        obtain ⟨x, hx⟩ : ∃ x, (L0 ++ [e])[k] = x := ⟨_, rfl⟩
        rw [hx] at c0 c1 c2 c3 c4 c5 hfx HNX
        clear hx
        have hxa1 := hfx.a1
        have hxa2 := hfx.a2
        clear hfx
        have hb5 := (Below.refl wr.heap.size wr).new (.cells #[.int .i64 x.op, .int .i64 x.x, .int .i64 x.a, .string x.s, .int .i64 x.n, .bool x.neg] 90)
        have HT5 := mkHid (HT.out.below hb5)
        obtain ⟨n, hn, hm⟩ := HMK.out
        have hm5 := hm.below hb5
        by_cases h4 : x.op = 4
        · have t4 : (x.op == 4) = true := by simp [h4]
          have HF : Hid (∀ r, funsOf ((L0 ++ [e]).take (k + 1)) r = (funsOf ((L0 ++ [e]).take k) r || (x.a == r))) := fun r => by rw [HNX.out, h4]; simp
          clear h4 hb5 hm
          go_wp2_with fail
          obtain ⟨w5, hw5⟩ : ∃ X, wr.alloc (.cells #[.int .i64 x.op, .int .i64 x.x, .int .i64 x.a, .string x.s, .int .i64 x.n, .bool x.neg] 90) = X := ⟨_, rfl⟩
          have hx2 : w5.cell? ⟨wr.heap.size, 2, none⟩ = some (.int .i64 x.a) := by rw [← hw5]; exact World.cell?_alloc_at _ _ _ _ rfl
          rw [hw5] at HT5 hm5 ⊢
          clear hw5
          obtain ⟨_, _, _, r1, _, _, _, _⟩ := HT5.out.tw.cR
          have hbd : Below w5.heap.size w5 w5.drew := (Below.refl _ _).drew
          have HT6 := mkHid (HT5.out.below hbd)
          obtain ⟨w8, hrun, hm8, hg8⟩ := (hm5.below hbd).run_updN (t := 191) (e := 4) Try.underlying3 Try.underlying191 (by omega) x.a (wf64 hxa1 hxa2) (.bool true)
          have hm8' := hm8.congr (g := MapF (funsOf ((L0 ++ [e]).take (k + 1)))) (fun i => by
            unfold MapF
            rw [HF.out]
            by_cases hi : i = x.a
            · subst hi; simp
            · have : (x.a == i) = false := by simpa using fun e => hi e.symm
              rw [if_neg hi, this, Bool.or_false])
          have hf8 : Fr [w.heap.size + 2] w5.drew w8 := grown_frN hg8
          have HT8 : Hid (Tr w w3 (w.heap.size + 4) (w.heap.size + 2) (w.heap.size + 3) (S0 0) kv0 w8 (S0 (k + 1)) kv0) := by
            have h1 := Tr.of (HT6.out.tw.blkF hf8 (funs := funsOf ((L0 ++ [e]).take (k + 1))) (by omega : n + 1 ≤ 100000) hm8')
            have h2 := HT6.out.trans h1
            rw [HS0.out k] at h2
            rw [Hid, HS0.out (k + 1)]
            exact h2
          have HM8 : Hid (∃ n, n ≤ k + 1 ∧ MapV Try.prog 3 w8 (w.heap.size + 2) n (MapF (funsOf ((L0 ++ [e]).take (k + 1))))) := ⟨n + 1, by omega, hm8'⟩
          have hx8 : w8.cell? ⟨wr.heap.size, 2, none⟩ = some (.int .i64 x.a) := by
            have h5 := HT.out.fr.size
            have h6 := HS3.out
            exact (World.cell?_of_block (a := ⟨wr.heap.size, 2, none⟩) (hg8.block wr.heap.size (cell_lt (keep hx2 hbd)) (by simp; omega))).trans (keep hx2 hbd)
          have HX8 := mkHid hx8
          clear hm8 hm8' hg8 hf8 hm5 c0 c1 c2 c3 c4 c5 hx8
          refine wp_region_noPanic ?_
          refine wp_region_held_drew (S := fun X => X.cell? ⟨w.heap.size + 4, 1, none⟩ = some (.map (some (w.heap.size + 2))) ∧ X.cell? ⟨wr.heap.size, 2, none⟩ = some (.int .i64 x.a)) (by kernel_rfl) ⟨keep r1 hbd, keep hx2 hbd⟩ (fun hSd => ?_)
          refine wpAnyH_take (i := 0) (oi := _) (v := ?_) rfl (by kernel_rfl) (by kernel_rfl) (by kernel_rfl) (fun _ _ _ h => h) (Or.inl ⟨by rfl, ?_⟩) (by assumption) ?_
          rotate_left
          · (intro w' hSw; obtain ⟨z0, z1⟩ := hSw; go_simp; try with_reducible rfl)
          (try simp only [List.getElem_toArray, List.getElem_cons_succ, List.getElem_cons_zero, Act.put, List.setIfInBounds_toArray, List.set_cons_zero, List.set_cons_succ])
          refine wpAnyH_take (i := 1) (oi := _) (v := ?_) rfl (by kernel_rfl) (by kernel_rfl) (by kernel_rfl) (fun _ _ _ h => h) (Or.inl ⟨by rfl, ?_⟩) (by assumption) ?_
          rotate_left
          · (intro w' hSw; obtain ⟨z0, z1⟩ := hSw; go_simp; try with_reducible rfl)
          (try simp only [List.getElem_toArray, List.getElem_cons_succ, List.getElem_cons_zero, Act.put, List.setIfInBounds_toArray, List.set_cons_zero, List.set_cons_succ])
          refine wpAnyH_take (i := 2) (oi := _) (v := ?_) rfl (by kernel_rfl) (by kernel_rfl) (by kernel_rfl) (fun _ _ _ h => h) (Or.inl ⟨by rfl, ?_⟩) (by assumption) ?_
          rotate_left
          · (intro w' hSw; obtain ⟨z0, z1⟩ := hSw; go_simp; try with_reducible rfl)
          (try simp only [List.getElem_toArray, List.getElem_cons_succ, List.getElem_cons_zero, Act.put, List.setIfInBounds_toArray, List.set_cons_zero, List.set_cons_succ])
          refine wpAnyH_take (i := 3) (oi := _) (v := ?_) rfl (by kernel_rfl) (by kernel_rfl) (by kernel_rfl) (fun _ _ _ h => h) (Or.inl ⟨by rfl, ?_⟩) (by assumption) ?_
          rotate_left
          · (intro w' hSw; obtain ⟨z0, z1⟩ := hSw; go_simp; try with_reducible rfl)
          (try simp only [List.getElem_toArray, List.getElem_cons_succ, List.getElem_cons_zero, Act.put, List.setIfInBounds_toArray, List.set_cons_zero, List.set_cons_succ])
          refine wpAnyH_take (i := 4) (oi := _) (v := ?_) rfl (by kernel_rfl) (by kernel_rfl) (by kernel_rfl) (fun _ _ _ h => h) (Or.inl ⟨by rfl, ?_⟩) (by assumption) ?_
          rotate_left
          · (intro w' hSw; obtain ⟨z0, z1⟩ := hSw; go_simp; try with_reducible rfl)
          (try simp only [List.getElem_toArray, List.getElem_cons_succ, List.getElem_cons_zero, Act.put, List.setIfInBounds_toArray, List.set_cons_zero, List.set_cons_succ])
          refine wpAnyH_take (i := 5) (oi := _) (v := ?_) rfl (by kernel_rfl) (by kernel_rfl) (by kernel_rfl) (fun _ _ _ h => h) (Or.inl ⟨by rfl, ?_⟩) (by assumption) ?_
          rotate_left
          · (intro w' hSw; obtain ⟨z0, z1⟩ := hSw; go_simp; try with_reducible rfl)
          (try simp only [List.getElem_toArray, List.getElem_cons_succ, List.getElem_cons_zero, Act.put, List.setIfInBounds_toArray, List.set_cons_zero, List.set_cons_succ])
          have HS8 : Hid (w8.cell? ⟨w.heap.size + 4, 1, none⟩ = some (.map (some (w.heap.size + 2))) ∧ w8.cell? ⟨wr.heap.size, 2, none⟩ = some (.int .i64 x.a)) := by
            obtain ⟨_, _, _, r8, _⟩ := HT8.out.tw.cR
            exact ⟨r8, HX8.out⟩
          refine wpAnyH_ready (rs := [6]) (by kernel_rfl) (by simp) ?_
          refine AllReadyH.cons (o := _) rfl (fun K hK => ?_) AllReadyH.nil
          (rw [if_pos (by rfl)]; simp [Oper.wp, execOp, resolve, invoke, Oper.upon, Act.eval, hrun, Result.andThen, Sem.run_bind])
          try dsimp only
          refine hK.out _ _ HS8.out (fun _ => ?_)
          clear hK K
          (try simp only [List.getElem_toArray, List.getElem_cons_succ, List.getElem_cons_zero, Act.put, List.setIfInBounds_toArray, List.set_cons_zero, List.set_cons_succ])
          refine wpAnyH_done (by kernel_rfl) (NoPanic.normal ?_) _
          clear hrun HS8
          go_wp2_with fail
          go_round
          case rel => exact ⟨k + 1, by go_num, by omega, HT8, HM8⟩
          case measure => simp [intOf]; omega
        · have t4 : (x.op == 4) = false := by simp [h4]
          have HF : Hid (funsOf ((L0 ++ [e]).take (k + 1)) = funsOf ((L0 ++ [e]).take k)) := funext fun r => by rw [HNX.out, t4]; simp
          have HT6 : Hid (Tr w w3 (w.heap.size + 4) (w.heap.size + 2) (w.heap.size + 3) (S0 0) kv0 (wr.alloc (.cells #[.int .i64 x.op, .int .i64 x.x, .int .i64 x.a, .string x.s, .int .i64 x.n, .bool x.neg] 90)) (S0 (k + 1)) kv0) := by
            have h2 := HT5.out
            rw [HS0.out k] at h2
            rw [Hid, HS0.out (k + 1), HF.out]
            exact h2
          have HM6 : Hid (∃ n, n ≤ k + 1 ∧ MapV Try.prog 3 (wr.alloc (.cells #[.int .i64 x.op, .int .i64 x.x, .int .i64 x.a, .string x.s, .int .i64 x.n, .bool x.neg] 90)) (w.heap.size + 2) n (MapF (funsOf ((L0 ++ [e]).take (k + 1))))) := by
            rw [Hid, HF.out]; exact ⟨n, by omega, hm5⟩
          clear h4 hb5 hm hm5
          go_wp2_with fail
          go_round
          case rel => exact ⟨k + 1, by go_num, by omega, HT6, HM6⟩
          case measure => simp [intOf]; omega
      · obtain rfl : k = L0.length + 1 := by omega
        have hno : ∀ b', b' < w.heap.size + 2 → ¬ Own (w.heap.size + 4) (w.heap.size + 2) (w.heap.size + 3) (S0 0) kv0 b' := fun b' hb' hO => by
          rw [HS0.out 0] at hO
          rcases hO with h | h | h | ⟨d, h⟩ | ⟨p, d, h, _⟩
          · omega
          · omega
          · omega
          · cases h
          · cases h
        have hcl := (HT.out.fr.block w.heap.size (by have := HS3.out; omega) (hno _ (by omega))).trans HCL.out
        have hbe := (HT.out.fr.block (w.heap.size + 1) (by have := HS3.out; omega) (hno _ (by omega))).trans HBE.out
        have hws : w.heap.size + 5 ≤ wr.heap.size := by have h5 := HT.out.fr.size; have h6 := HS3.out; omega
        have hTW : TW w wr (w.heap.size + 4) (w.heap.size + 2) (w.heap.size + 3) { rest := L0, funs := funsOf (L0 ++ [e]), built := fun _ => none, bad := false, nb := 0, H := fun _ => none } kv0 := by
          have h := HT.out.tw
          rw [HS0.out, List.take_of_length_le (by have := HLL.out; omega)] at h
          exact h
        have HNO : Hid (∀ b', b' < w.heap.size + 2 → ¬ Own (w.heap.size + 4) (w.heap.size + 2) (w.heap.size + 3) { rest := L0, funs := funsOf (L0 ++ [e]), built := fun _ => none, bad := false, nb := 0, H := fun _ => none } kv0 b') := fun b' hb' hO => by
          rcases hO with h | h | h | ⟨d, h⟩ | ⟨p, d, h, _⟩
          · omega
          · omega
          · omega
          · cases h
          · cases h
        have HTW := mkHid hTW
        have HCL' := mkHid hcl
        have HWS := mkHid hws
        have d0 : wr.cell? ⟨w.heap.size + 1, 0, none⟩ = some (.int .i64 e.op) := by rw [cell_of_row wr _ 0 _ _ _ hbe]; rfl
        have d1 : wr.cell? ⟨w.heap.size + 1, 1, none⟩ = some (.int .i64 e.x) := by rw [cell_of_row wr _ 1 _ _ _ hbe]; rfl
        have d2 : wr.cell? ⟨w.heap.size + 1, 2, none⟩ = some (.int .i64 e.a) := by rw [cell_of_row wr _ 2 _ _ _ hbe]; rfl
        have d3 : wr.cell? ⟨w.heap.size + 1, 3, none⟩ = some (.string e.s) := by rw [cell_of_row wr _ 3 _ _ _ hbe]; rfl
        have d4 : wr.cell? ⟨w.heap.size + 1, 4, none⟩ = some (.int .i64 e.n) := by rw [cell_of_row wr _ 4 _ _ _ hbe]; rfl
        have d5 : wr.cell? ⟨w.heap.size + 1, 5, none⟩ = some (.bool e.neg) := by rw [cell_of_row wr _ 5 _ _ _ hbe]; rfl
        clear hno hcl hbe hTW hws
        go_wp2_with fail
        refine (thead_any w wr _ _ _ _ kv0 HTW.out e HFIT.out (by have := HN6.out; omega) rfl).mono ?_
        rintro e5 w5 ⟨a5, n5, c5, t, rest5, bad5, H5, kv5, rfl, hT5, hA5, ho5, hl5, hc5⟩
        have HT5 := mkHid hT5
        have HA5 := mkHid hA5
        have HO5 := mkHid ho5
        have HC5 := mkHid hc5
        have HL5 := mkHid hl5
        clear hT5 hA5 ho5 hc5 hl5 d0 d1 d2 d3 d4 d5
        go_wp2_with fail
        cases bad5 with
        | true =>
          refine (body_bad w w5 _ _ _ _ kv5 HT5.out.tw rfl).mono ?_
          rintro e6 w6 ⟨rfl, hw6⟩
          subst hw6
          obtain ⟨_, _, _, _, _, r3, _, _⟩ := HT5.out.tw.cR
          dsimp only at r3
          have hcl6 := (HT5.out.fr.block w.heap.size (by have := HWS.out; omega) (HNO.out _ (by omega))).trans HCL'.out
          have l0 : w6.cell? ⟨w.heap.size, 0, none⟩ = some (.slice none 0 0) := by rw [cell_of_row w6 _ 0 _ _ _ hcl6]; rfl
          have l1 : w6.cell? ⟨w.heap.size, 1, none⟩ = some (.slice none 0 0) := by rw [cell_of_row w6 _ 1 _ _ _ hcl6]; rfl
          have g0 : w6.frozen? ⟨w.heap.size, 0, none⟩ = false := by simp [World.frozen?, hcl6]
          have g1 : w6.frozen? ⟨w.heap.size, 1, none⟩ = false := by simp [World.frozen?, hcl6]
          clear hcl6
          go_wp2_with fail
          refine bodyPost_ret (v := .tuple #[.agg #[.slice none 0 0, .slice none 0 0], .bool false]) (by simp [results, Try.results74, go_sem, *]) rfl ⟨?_, .inl ⟨rfl, fun ch us bs r2 h1 h2 h3 h4 => ?_⟩⟩
          · exact (HT5.out.tw.bel.setCell (by simp) _).setCell (by simp) _
          · have := (HC5.out ch us r2 h1 h2 h3).1
            cases this
        | false =>
          refine (body_any w w5 _ _ _ _ kv5 HT5.out.tw rfl (fun i => rfl) (Nat.zero_le _)).mono ?_
          rintro e6 w6 ⟨a6, n6, c6, ls, lits, rest6, bad6, built6, nb6, H6, kv6, rfl, hT6, hA6, ho6, hok6, hl6, hc6⟩
          have hTT := HT5.out.trans hT6
          have HT6 := mkHid hTT
          have HA6 := mkHid hA6
          have HOK6 := mkHid hok6
          have HC6 := mkHid hc6
          have HL6 := mkHid hl6
          have HA56 := mkHid (hT6.fr.acc (fun h => h) HA5.out HO5.out)
          have hcl6 := (hTT.fr.block w.heap.size (by have := HWS.out; omega) (HNO.out _ (by omega))).trans HCL'.out
          have l0 : w6.cell? ⟨w.heap.size, 0, none⟩ = some (.slice none 0 0) := by rw [cell_of_row w6 _ 0 _ _ _ hcl6]; rfl
          have l1 : w6.cell? ⟨w.heap.size, 1, none⟩ = some (.slice none 0 0) := by rw [cell_of_row w6 _ 1 _ _ _ hcl6]; rfl
          have g0 : w6.frozen? ⟨w.heap.size, 0, none⟩ = false := by simp [World.frozen?, hcl6]
          have g1 : w6.frozen? ⟨w.heap.size, 1, none⟩ = false := by simp [World.frozen?, hcl6]
          obtain ⟨_, _, _, _, _, r3, _, _⟩ := hTT.tw.cR
          dsimp only at r3
          have h56 : w5.heap.size ≤ w6.heap.size := hT6.fr.size
          have h35 : wr.heap.size ≤ w5.heap.size := HT5.out.fr.size
          have HSZ := mkHid (And.intro h35 h56)
          clear hTT hT6 hA6 ho6 hok6 hc6 hl6 h56 h35
          cases bad6 with
          | true =>
            clear hcl6
            go_wp2_with fail
            refine bodyPost_ret (v := .tuple #[.agg #[.slice none 0 0, .slice none 0 0], .bool false]) (by simp [results, Try.results74, go_sem, *]) rfl ⟨?_, .inl ⟨rfl, fun ch us bs r2 h1 h2 h3 h4 => ?_⟩⟩
            · exact (HT6.out.tw.bel.setCell (by simp) _).setCell (by simp) _
            · obtain ⟨_, hr5, _⟩ := HC5.out ch us r2 h1 h2 h3
              subst hr5
              have := (HC6.out bs h4).1
              cases this
          | false =>
            have hok := HOK6.out rfl
            have hll := hok.len
            obtain ⟨gh, ch, hgh⟩ := row_lit HA56.out (List.ne_nil_of_length_pos (flat_pos t))
            injection hgh with hg1 hg2 hg3
            subst hg1
            subst hg2
            subst hg3
            have hn6 : n6 = ls.length := by
              obtain ⟨a', c', e9, _⟩ := HA6.out.row
              cases e9
              rfl
            subst hn6
            have hghl : gh < w5.heap.size := (HA5.out.lt gh rfl).2
            have hneq : ∀ l ∈ ls, l.v.ownBlock ≠ some gh := fun l hl e9 => by
              obtain ⟨x9, hx9⟩ := hok.of hl
              have := (hx9.lt gh e9).1
              omega
            have hrows : RowsN w6 wr.heap.size ls (lits.map fun x => x.2.flat) := ⟨fun k9 l9 c9 q1 q2 => by
              rw [List.getElem?_map] at q2
              cases q3 : lits[k9]? with
              | none => rw [q3] at q2; cases q2
              | some x9 =>
                rw [q3] at q2
                cases q2
                exact (hok.at_ k9 l9 x9 q1 q3).baseN HSZ.out.1⟩
            have hsz : t.flat.length + sumL (lits.map fun x => x.2.flat) ≤ 20000 := by
              have q1 := HL5.out
              have q2 := HL6.out
              dsimp only at q1 q2
              have q3 : sumL (lits.map fun x => x.2.flat) = sumT lits := by unfold sumL sumT; rw [List.map_map]; rfl
              omega
            have hlls : ls.length ≤ 20000 := by
              have q1 := hl_le lits
              have q3 : sumL (lits.map fun x => x.2.flat) = sumT lits := by unfold sumL sumT; rw [List.map_map]; rfl
              omega
            have hb7 := (Below.refl w6.heap.size w6).new (.cells #[.slice (some ⟨gh, 0, none⟩) t.flat.length c5, .slice a6 ls.length c6] 25)
            have hlbl : ∀ l ∈ ls, ∀ b9, l.v.ownBlock = some b9 → w5.heap.size ≤ b9 ∧ b9 < w6.heap.size := fun l hl b9 e9 => by
              obtain ⟨x9, hx9⟩ := hok.of hl
              exact hx9.lt b9 e9
            have hghr : wr.heap.size ≤ gh := (HA5.out.lt gh rfl).1
            have HA7 := mkHid (HA56.out.below hb7)
            have HL7 := mkHid (HA6.out.below hb7)
            have HR7 := mkHid (hrows.blocks (W' := (w6.alloc (.cells #[.slice (some ⟨gh, 0, none⟩) t.flat.length c5, .slice a6 ls.length c6] 25))) (fun l hl b9 e9 => hb7.block b9 (hlbl l hl b9 e9).2))
            have HLB := mkHid hlbl
            have HOK := mkHid hok
            have HNQ := mkHid hneq
            have HSS := mkHid hsz
            have HGG := mkHid (And.intro hghl hghr)
            have HCL6 := mkHid hcl6
            have HLLL := mkHid hll
            have HN3 := mkHid hlls
            clear hb7 hlbl hok hneq hsz hrows hghl hghr hcl6 l0 l1 g0 g1 hll hlls
            have hnum := numberC_any (w6.alloc (.cells #[.slice (some ⟨gh, 0, none⟩) t.flat.length c5, .slice a6 ls.length c6] 25)) gh wr.heap.size c5 w5.heap.size t.flat ls (lits.map fun x => x.2.flat) a6 ls.length c6 HA7.out HL7.out HR7.out (by rw [List.length_map]; exact HLLL.out) (fun c9 hc9 => by
              obtain ⟨x9, _, rfl⟩ := List.mem_map.1 hc9
              exact List.ne_nil_of_length_pos (flat_pos _)) HNQ.out HOK.out.sep (by have := HSS.out; omega) (by have := HN3.out; omega)
            have HNUM := mkHid hnum
            clear hnum
            go_wp2_with fail
            refine HNUM.out.mono ?_
            rintro e8 w8 ⟨rfl, hN8⟩
            have z1 := HWS.out
            have z2 := HSZ.out.1
            have z3 := HSZ.out.2
            have z4 := HGG.out.1
            have z5 := HGG.out.2
            have hcl8 : w8.heap[w.heap.size]? = some (.cells #[.slice none 0 0, .slice none 0 0] 25 (0, 0)) := by
              rw [hN8.bel w.heap.size (by simp; omega) (by omega) (fun l hl e9 => by have := (HLB.out l hl _ e9).1; omega), heap_alloc_old _ _ (by omega)]; exact HCL6.out
            have hcb8 : w8.heap[w6.heap.size]? = some (.cells #[.slice (some ⟨gh, 0, none⟩) t.flat.length c5, .slice a6 ls.length c6] 25 (0, 0)) := by
              rw [hN8.bel w6.heap.size (by simp) (by omega) (fun l hl e9 => by have := (HLB.out l hl _ e9).2; omega)]; exact heap_alloc_new _ _
            have k0 : w8.cell? ⟨w6.heap.size, 0, none⟩ = some (.slice (some ⟨gh, 0, none⟩) t.flat.length c5) := by rw [cell_of_row w8 _ 0 _ _ _ hcb8]; rfl
            have k1 : w8.cell? ⟨w6.heap.size, 1, none⟩ = some (.slice a6 ls.length c6) := by rw [cell_of_row w8 _ 1 _ _ _ hcb8]; rfl
            have l0 : w8.cell? ⟨w.heap.size, 0, none⟩ = some (.slice none 0 0) := by rw [cell_of_row w8 _ 0 _ _ _ hcl8]; rfl
            have l1 : w8.cell? ⟨w.heap.size, 1, none⟩ = some (.slice none 0 0) := by rw [cell_of_row w8 _ 1 _ _ _ hcl8]; rfl
            have g0 : w8.frozen? ⟨w.heap.size, 0, none⟩ = false := by simp [World.frozen?, hcl8]
            have g1 : w8.frozen? ⟨w.heap.size, 1, none⟩ = false := by simp [World.frozen?, hcl8]
            have hb8 : Below w.heap.size w w8 := by
              refine ⟨hN8.os.1.trans HT6.out.tw.bel.os, hN8.os.2.1.trans HT6.out.tw.bel.tape, hN8.os.2.2.1.trans HT6.out.tw.bel.output, by have := hN8.os.2.2.2; simp at this; omega, fun k9 hk9 => ?_⟩
              rw [hN8.bel k9 (by simp; omega) (by omega) (fun l hl e9 => by have := (HLB.out l hl _ e9).1; omega), heap_alloc_old _ _ (by omega)]
              exact HT6.out.tw.bel.block k9 hk9
            have HB8 := mkHid hb8
            have HL8 : Hid (AccInv w5.heap.size 88 ls (.slice a6 ls.length c6) w8) := HL7.out.blockN (fun h => h) fun b9 e9 => by
              have q1 := (HL7.out.lt b9 e9).1
              refine hN8.bel b9 (HL7.out.lt b9 e9).2 (by omega) fun l hl e10 => ?_
              obtain ⟨x9, hx9⟩ := HOK.out.of hl
              obtain ⟨cs1, q2⟩ := own_typeG hx9 e10
              obtain ⟨cs2, q3⟩ := own_typeG HA6.out e9
              rw [q2] at q3
              simp at q3
            have HN8 := mkHid hN8
            clear hcl8 hcb8 hb8 hN8 z1 z2 z3 z4 z5
            go_wp2_with fail
            have hf : Fr [w.heap.size] w8 ((w8.setCell ⟨w.heap.size, 0, none⟩ (.slice (some ⟨gh, 0, none⟩) t.flat.length c5)).setCell ⟨w.heap.size, 1, none⟩ (.slice a6 ls.length c6)) := ((Fr.refl _ _).set (by simp) _).set (by simp) _
            have z1 := HWS.out
            have z2 := HSZ.out.1
            refine bodyPost_ret (v := .tuple #[.agg #[.slice (some ⟨gh, 0, none⟩) t.flat.length c5, .slice a6 ls.length c6], .bool true]) (by simp [results, Try.results74, go_sem, *]) rfl ⟨?_, .inr ⟨gh, c5, a6, c6, t, ls, lits, rfl, ?_, ?_, ?_, HOK.out.neg, ?_, fun ch us bs r2 h1 h2 h3 h4 => ?_⟩⟩
            · exact (HB8.out.setCell (by simp) _).setCell (by simp) _
            · exact (HN8.out.hd.blockN (fun h => h) fun b9 e9 => hf.block b9 (HN8.out.hd.lt b9 e9).2 (by have := (HN8.out.hd.lt b9 e9).1; simp; omega)).baseN (by omega)
            · exact (HL8.out.blockN (fun h => h) fun b9 e9 => hf.block b9 (HL8.out.lt b9 e9).2 (by have := (HL8.out.lt b9 e9).1; simp; omega)).baseN (by omega)
            · have hr8 := HN8.out.rows.blocks (W' := ((w8.setCell ⟨w.heap.size, 0, none⟩ (.slice (some ⟨gh, 0, none⟩) t.flat.length c5)).setCell ⟨w.heap.size, 1, none⟩ (.slice a6 ls.length c6))) (fun l hl b9 e9 => hf.block b9 (by have q1 := (HLB.out l hl b9 e9).2; have q2 := HN8.out.os.2.2.2; simp at q2; omega) (by have q1 := (HLB.out l hl b9 e9).1; simp; omega))
              exact ⟨fun k9 l9 c9 q1 q2 => (hr8.at_ k9 l9 c9 q1 q2).baseN (by omega)⟩
            · have q3 : sumL (lits.map fun x => x.2.flat) = sumT lits := by unfold sumL sumT; rw [List.map_map]; rfl
              have := HSS.out
              omega
            · obtain ⟨_, hr5, ht5⟩ := HC5.out ch us r2 h1 h2 h3
              subst hr5
              exact ⟨ht5, ((HC6.out bs h4).2).symm⟩
end Go.Proofs.Ytmmnfkggfnokjaa
set_option linter.unusedVariables false
namespace Go.Proofs.Ytmmnfkggfnokjaa
open Go.RowKit
theorem drewN_belowI (w : World) (n : Nat) : Below w.heap.size w (w.drewN n) := ⟨rfl, rfl, rfl, Nat.le_refl _, fun _ _ => rfl⟩
theorem Ins.eq_iff (x y : Ins) : x = y ↔ x.op = y.op ∧ x.x = y.x ∧ x.a = y.a ∧ x.s = y.s ∧ x.n = y.n ∧ x.neg = y.neg := by
  constructor
  · rintro rfl; exact ⟨rfl, rfl, rfl, rfl, rfl, rfl⟩
  · obtain ⟨_, _, _, _, _, _⟩ := x
    obtain ⟨_, _, _, _, _, _⟩ := y
    rintro ⟨h1, h2, h3, h4, h5, h6⟩
    simp only at h1 h2 h3 h4 h5 h6
    subst h1; subst h2; subst h3; subst h4; subst h5; subst h6
    rfl
instance instDecIns : DecidableEq Ins := fun x y => decidable_of_iff _ (Ins.eq_iff x y).symm
set_option maxHeartbeats 1600000 in
theorem run_neq_ins (x y : Ins) (w : World) : (binOp .neq 90 (.agg #[.int .i64 x.op, .int .i64 x.x, .int .i64 x.a, .string x.s, .int .i64 x.n, .bool x.neg]) (.agg #[.int .i64 y.op, .int .i64 y.x, .int .i64 y.a, .string y.s, .int .i64 y.n, .bool y.neg])).run Try.prog w = .ok (.bool (!decide (x = y))) w := by
  by_cases h1 : x.op = y.op
  · by_cases h2 : x.x = y.x
    · by_cases h3 : x.a = y.a
      · by_cases h4 : x.s = y.s
        · by_cases h5 : x.n = y.n
          · by_cases h6 : x.neg = y.neg
            · go_simp
              exact (Ins.eq_iff x y).2 ⟨h1, h2, h3, h4, h5, h6⟩
            · have g4 : ¬ x = y := fun e => h6 (by rw [e])
              have g5 : (x.neg == y.neg) = false := by simp [h6]
              go_simp
          · have g4 : ¬ x = y := fun e => h5 (by rw [e])
            have g5 : (x.n == y.n) = false := by simp [h5]
            go_simp
        · have g4 : ¬ x = y := fun e => h4 (by rw [e])
          have g5 : (x.s.toList == y.s.toList) = false := by simp [toList_inj, h4]
          go_simp
      · have g4 : ¬ x = y := fun e => h3 (by rw [e])
        have g5 : (x.a == y.a) = false := by simp [h3]
        go_simp
    · have g4 : ¬ x = y := fun e => h2 (by rw [e])
      have g5 : (x.x == y.x) = false := by simp [h2]
      go_simp
  · have g4 : ¬ x = y := fun e => h1 (by rw [e])
    have g5 : (x.op == y.op) = false := by simp [h1]
    go_simp
set_option maxRecDepth 100000 in
set_option maxHeartbeats 3200000 in
theorem refsamei_any (a : Option Addr) (cap : Nat) (a' : Option Addr) (cap' : Nat) (w : World) (xs ys : List Ins) (hx : Row w a cap xs) (hy : Row w a' cap' ys) :
    Calls Try.prog 18 #[.slice a xs.length cap, .slice a' ys.length cap'] w fun e w' => e = .returned (.bool (decide (xs = ys))) ∧ Below w.heap.size w w' := by
  have hm := hx.max
  have hm2 := hx.le
  have hm3 := hy.max
  have hm4 := hy.le
  by_cases hlen : xs.length = ys.length
  · have hlt2 : ys.length ≤ xs.length := by omega
    have hlt3 : xs.length ≤ ys.length := by omega
    have hne : ((xs.length : Int) != (ys.length : Int)) = false := by simp [hlen]
    clear hlen
    go_enter Try.func18, Try.ntmps18
    go_wp2
    go_loopw [5] (fun i wr => ∃ k : Nat, k ≤ xs.length ∧ i = .int .i64 k ∧ Below w.heap.size w wr ∧ Hid (xs.take k = ys.take k)) (fun i wr => xs.length - (intOf i).toNat)
    case atStart => exact ⟨0, Nat.zero_le _, rfl, Below.refl _ _, rfl⟩
    case round =>
      obtain ⟨k, hk, rfl, hbl, HS⟩ := hrel
      by_cases hlt : k < xs.length
      · have hlt' : k < ys.length := by omega
        obtain ⟨b, off, rfl, hb, hat⟩ := hx.cases.resolve_left (fun e => by simp [e] at hlt)
        obtain ⟨b', off', rfl, hb', hat'⟩ := hy.cases.resolve_left (fun e => by simp [e] at hlt')
        obtain ⟨c0, c1, c2, c3, c4, c5, _⟩ := ins_at hat hbl hlt
        obtain ⟨d0, d1, d2, d3, d4, d5, _⟩ := ins_at hat' hbl hlt'
        have hne := fun w => run_neq_ins xs[k] ys[k] w
        by_cases he : xs[k] = ys[k]
        · have HT : Hid (xs.take (k + 1) = ys.take (k + 1)) := take_eq_snoc HS.out hlt hlt' he
          rw [decide_eq_true he] at hne
          clear he HS
          go_wp2
          go_quiet (fail)
          go_wp2
          go_round
          case rel => exact ⟨k + 1, by omega, by go_num, hbl.then (drewN_belowI _ _), HT⟩
          case measure => simp [intOf]; omega
        · have HE : Hid (false = decide (xs = ys)) := by
            rw [Hid, decide_eq_false]; intro e; subst e; exact he rfl
          rw [decide_eq_false he] at hne
          clear he HS
          go_wp2
          go_quiet (fail)
          go_wp2
          go_ret
          exact ⟨ret_bool HE.out, hbl.then (drewN_belowI _ _)⟩
      · have HE : Hid (true = decide (xs = ys)) := by
          rw [Hid, decide_eq_true (take_all HS.out (by omega) (by omega))]
        clear HS
        go_wp2
        go_ret
        exact ⟨ret_bool HE.out, hbl⟩
  · have HE : Hid (false = decide (xs = ys)) := by
      rw [Hid, decide_eq_false]; intro e; rw [e] at hlen; exact hlen rfl
    have hne : ((xs.length : Int) != (ys.length : Int)) = true := by simp; omega
    clear hlen
    go_enter Try.func18, Try.ntmps18
    go_wp2
    go_ret
    exact ⟨ret_bool HE.out, Below.refl _ _⟩
set_option maxRecDepth 100000 in
set_option maxHeartbeats 3200000 in
theorem equal_any (a : Option Addr) (cap : Nat) (a' : Option Addr) (cap' : Nat) (w : World) (xs ys : List Ins) (hx : Row w a cap xs) (hy : Row w a' cap' ys) :
    Calls Try.prog 75 #[.slice a xs.length cap, .slice a' ys.length cap'] w fun e w' => e = .returned (.bool (decide (xs = ys))) ∧ Below w.heap.size w w' := by
  have hm := hx.max
  have hm2 := hx.le
  have hm3 := hy.max
  have hm4 := hy.le
  by_cases hlen : xs.length = ys.length
  · have hlt2 : ys.length ≤ xs.length := by omega
    have hlt3 : xs.length ≤ ys.length := by omega
    have hne : ((xs.length : Int) != (ys.length : Int)) = false := by simp [hlen]
    clear hlen
    go_enter Try.func75, Try.ntmps75
    go_wp2
    go_loopw [5, 13] (fun _ i wr => ∃ k : Nat, k ≤ xs.length ∧ i = .int .i64 k ∧ Below w.heap.size w wr ∧ Hid (xs.take k = ys.take k)) (fun _ i wr => xs.length - (intOf i).toNat)
    case atStart => exact ⟨0, Nat.zero_le _, rfl, Below.refl _ _, rfl⟩
    case round =>
      obtain ⟨k, hk, rfl, hbl, HS⟩ := hrel
      by_cases hlt : k < xs.length
      · have hlt' : k < ys.length := by omega
        obtain ⟨b, off, rfl, hb, hat⟩ := hx.cases.resolve_left (fun e => by simp [e] at hlt)
        obtain ⟨b', off', rfl, hb', hat'⟩ := hy.cases.resolve_left (fun e => by simp [e] at hlt')
        obtain ⟨c0, c1, c2, c3, c4, c5, _⟩ := ins_at hat hbl hlt
        obtain ⟨d0, d1, d2, d3, d4, d5, _⟩ := ins_at hat' hbl hlt'
        have hne := fun w => run_neq_ins xs[k] ys[k] w
        by_cases he : xs[k] = ys[k]
        · have HT : Hid (xs.take (k + 1) = ys.take (k + 1)) := take_eq_snoc HS.out hlt hlt' he
          rw [decide_eq_true he] at hne
          clear he HS
          go_wp2
          go_quiet (fail)
          go_wp2
          go_round
          case rel => exact ⟨k + 1, by omega, by go_num, hbl.then (drewN_belowI _ _), HT⟩
          case measure => simp [intOf]; omega
        · have HE : Hid (false = decide (xs = ys)) := by
            rw [Hid, decide_eq_false]; intro e; subst e; exact he rfl
          rw [decide_eq_false he] at hne
          clear he HS
          go_wp2
          go_quiet (fail)
          go_wp2
          go_ret
          exact ⟨ret_bool HE.out, hbl.then (drewN_belowI _ _)⟩
      · have HE : Hid (true = decide (xs = ys)) := by
          rw [Hid, decide_eq_true (take_all HS.out (by omega) (by omega))]
        clear HS
        go_wp2
        go_ret
        exact ⟨ret_bool HE.out, hbl⟩
  · have HE : Hid (false = decide (xs = ys)) := by
      rw [Hid, decide_eq_false]; intro e; rw [e] at hlen; exact hlen rfl
    have hne : ((xs.length : Int) != (ys.length : Int)) = true := by simp; omega
    clear hlen
    go_enter Try.func75, Try.ntmps75
    go_wp2
    go_ret
    exact ⟨ret_bool HE.out, Below.refl _ _⟩
end Go.Proofs.Ytmmnfkggfnokjaa
set_option linter.unusedVariables false
namespace Go.Proofs.Ytmmnfkggfnokjaa
open Go.RowKit
set_option maxHeartbeats 1600000 in
theorem standsx_any (w : World) (op : Int) : Calls Try.prog 71 #[.int .i64 op] w fun e w' => e = .returned (.bool (op == 1 || op == 2 || op == 5 || op == 6 || op == 9 || op == 10)) ∧ w' = w := by
  by_cases h1 : op = 1
  · subst h1
    go_enter Try.func71, Try.ntmps71
    go_wp2
    go_ret
    exact ⟨rfl, rfl⟩
  · by_cases h2 : op = 2
    · subst h2
      go_enter Try.func71, Try.ntmps71
      go_wp2
      go_ret
      exact ⟨rfl, rfl⟩
    · by_cases h5 : op = 5
      · subst h5
        go_enter Try.func71, Try.ntmps71
        go_wp2
        go_ret
        exact ⟨rfl, rfl⟩
      · by_cases h6 : op = 6
        · subst h6
          go_enter Try.func71, Try.ntmps71
          go_wp2
          go_ret
          exact ⟨rfl, rfl⟩
        · by_cases h9 : op = 9
          · subst h9
            go_enter Try.func71, Try.ntmps71
            go_wp2
            go_ret
            exact ⟨rfl, rfl⟩
          · by_cases h10 : op = 10
            · subst h10
              go_enter Try.func71, Try.ntmps71
              go_wp2
              go_ret
              exact ⟨rfl, rfl⟩
            · have t1 : (op == 1) = false := by simp [h1]
              have t2 : (op == 2) = false := by simp [h2]
              have t5 : (op == 5) = false := by simp [h5]
              have t6 : (op == 6) = false := by simp [h6]
              have t9 : (op == 9) = false := by simp [h9]
              have t10 : (op == 10) = false := by simp [h10]
              rw [t1, t2, t5, t6, t9, t10]
              go_enter Try.func71, Try.ntmps71
              go_wp2
              go_ret
              exact ⟨rfl, rfl⟩
set_option maxHeartbeats 1600000 in
theorem standsa_any (w : World) (op : Int) : Calls Try.prog 72 #[.int .i64 op] w fun e w' => e = .returned (.bool (op == 1 || op == 2 || op == 3 || op == 4 || op == 8 || op == 12)) ∧ w' = w := by
  by_cases h1 : op = 1
  · subst h1
    go_enter Try.func72, Try.ntmps72
    go_wp2
    go_ret
    exact ⟨rfl, rfl⟩
  · by_cases h2 : op = 2
    · subst h2
      go_enter Try.func72, Try.ntmps72
      go_wp2
      go_ret
      exact ⟨rfl, rfl⟩
    · by_cases h3 : op = 3
      · subst h3
        go_enter Try.func72, Try.ntmps72
        go_wp2
        go_ret
        exact ⟨rfl, rfl⟩
      · by_cases h4 : op = 4
        · subst h4
          go_enter Try.func72, Try.ntmps72
          go_wp2
          go_ret
          exact ⟨rfl, rfl⟩
        · by_cases h8 : op = 8
          · subst h8
            go_enter Try.func72, Try.ntmps72
            go_wp2
            go_ret
            exact ⟨rfl, rfl⟩
          · by_cases h12 : op = 12
            · subst h12
              go_enter Try.func72, Try.ntmps72
              go_wp2
              go_ret
              exact ⟨rfl, rfl⟩
            · have t1 : (op == 1) = false := by simp [h1]
              have t2 : (op == 2) = false := by simp [h2]
              have t3 : (op == 3) = false := by simp [h3]
              have t4 : (op == 4) = false := by simp [h4]
              have t8 : (op == 8) = false := by simp [h8]
              have t12 : (op == 12) = false := by simp [h12]
              rw [t1, t2, t3, t4, t8, t12]
              go_enter Try.func72, Try.ntmps72
              go_wp2
              go_ret
              exact ⟨rfl, rfl⟩
theorem regsL_next {xs : List Ins} {k : Nat} (hk : k < xs.length) : regsL (xs.take (k + 1)) = regs1 (regsL (xs.take k)) xs[k] := by
  unfold regsL
  rw [List.take_succ_eq_append_getElem hk, List.foldl_append]
  rfl
set_option maxRecDepth 100000 in
set_option maxHeartbeats 6400000 in
theorem regs_any (a : Option Addr) (cap : Nat) (w : World) (xs : List Ins) (hx : Row w a cap xs) (hb : ∀ i ∈ xs, i.x < 9223372036854775807 ∧ i.a < 9223372036854775807) :
    Calls Try.prog 19 #[.slice a xs.length cap] w fun e w' => e = .returned (.int .i64 (regsL xs)) ∧ Below w.heap.size w w' := by
  have hm := hx.max
  have hm2 := hx.le
  have HBB := mkHid hb
  clear hb
  go_enter Try.func19, Try.ntmps19
  go_wp2_with fail
  go_loopw [3, 5, 8] (fun m _ i wr => ∃ k : Nat, k ≤ xs.length ∧ i = .int .i64 k ∧ m = .int .i64 (regsL (xs.take k)) ∧ Below w.heap.size w wr) (fun _ _ i wr => xs.length - (intOf i).toNat)
  case atStart => exact ⟨0, Nat.zero_le _, rfl, rfl, Below.refl _ _⟩
  case round =>
    obtain ⟨k, hk, rfl, rfl, hbl⟩ := hrel
    by_cases hlt : k < xs.length
    · obtain ⟨b, off, rfl, hb, hat⟩ := hx.cases.resolve_left (fun e => by simp [e] at hlt)
      obtain ⟨c0, c1, c2, c3, c4, c5, hfx⟩ := ins_at hat hbl hlt
      have hbb := HBB.out xs[k] (List.getElem_mem hlt)
      have HNX := mkHid (regsL_next hlt)
      obtain ⟨m, hmm⟩ : ∃ m, regsL (xs.take k) = m := ⟨_, rfl⟩
      rw [hmm] at HNX ⊢
      clear hmm
      obtain ⟨x, hxx⟩ : ∃ x, xs[k] = x := ⟨_, rfl⟩
      rw [hxx] at c0 c1 c2 c3 c4 c5 hfx hbb HNX
      clear hxx
      obtain ⟨o1, o2, x1, x2, a1, a2, _, _, _⟩ := hfx
      obtain ⟨hb1, hb2⟩ := hbb
      have hb5 := mkHid (hbl.then ((Below.refl wr.heap.size wr).new (.cells #[.int .i64 x.op, .int .i64 x.x, .int .i64 x.a, .string x.s, .int .i64 x.n, .bool x.neg] 90)))
      have e1 : (x.op == 1 || x.op == 2 || x.op == 5 || x.op == 6 || x.op == 9 || x.op == 10) = inX x := rfl
      have e2 : (x.op == 1 || x.op == 2 || x.op == 3 || x.op == 4 || x.op == 8 || x.op == 12) = inA x := rfl
      have E1 := mkHid e1
      have E2 := mkHid e2
      clear e1 e2
      go_wp2_with fail
      refine (standsx_any _ x.op).mono ?_
      rintro e w5 ⟨rfl, rfl⟩
      rw [E1.out]
      cases hX : inX x with
      | true =>
        by_cases hm1 : m < x.x + 1
        · skip
          go_wp2_with fail
          refine (standsa_any _ x.op).mono ?_
          rintro e w6 ⟨rfl, rfl⟩
          rw [E2.out]
          cases hA : inA x with
          | true =>
            by_cases hm2 : x.x + 1 < x.a + 1
            · go_wp2_with fail
              go_round
              case rel => exact ⟨k + 1, by omega, by go_num, by rw [HNX.out]; unfold regs1; simp only [hX, hA, if_true, Bool.false_eq_true, if_false]; try (congr 1; omega), hb5.out⟩
              case measure => simp [intOf]; omega
            · go_wp2_with fail
              go_round
              case rel => exact ⟨k + 1, by omega, by go_num, by rw [HNX.out]; unfold regs1; simp only [hX, hA, if_true, Bool.false_eq_true, if_false]; try (congr 1; omega), hb5.out⟩
              case measure => simp [intOf]; omega
          | false =>
            go_wp2_with fail
            go_round
            case rel => exact ⟨k + 1, by omega, by go_num, by rw [HNX.out]; unfold regs1; simp only [hX, hA, if_true, Bool.false_eq_true, if_false]; try (congr 1; omega), hb5.out⟩
            case measure => simp [intOf]; omega
        · skip
          go_wp2_with fail
          refine (standsa_any _ x.op).mono ?_
          rintro e w6 ⟨rfl, rfl⟩
          rw [E2.out]
          cases hA : inA x with
          | true =>
            by_cases hm2 : m < x.a + 1
            · go_wp2_with fail
              go_round
              case rel => exact ⟨k + 1, by omega, by go_num, by rw [HNX.out]; unfold regs1; simp only [hX, hA, if_true, Bool.false_eq_true, if_false]; try (congr 1; omega), hb5.out⟩
              case measure => simp [intOf]; omega
            · go_wp2_with fail
              go_round
              case rel => exact ⟨k + 1, by omega, by go_num, by rw [HNX.out]; unfold regs1; simp only [hX, hA, if_true, Bool.false_eq_true, if_false]; try (congr 1; omega), hb5.out⟩
              case measure => simp [intOf]; omega
          | false =>
            go_wp2_with fail
            go_round
            case rel => exact ⟨k + 1, by omega, by go_num, by rw [HNX.out]; unfold regs1; simp only [hX, hA, if_true, Bool.false_eq_true, if_false]; try (congr 1; omega), hb5.out⟩
            case measure => simp [intOf]; omega
      | false =>
        go_wp2_with fail
        refine (standsa_any _ x.op).mono ?_
        rintro e w6 ⟨rfl, rfl⟩
        rw [E2.out]
        cases hA : inA x with
        | true =>
          by_cases hm2 : m < x.a + 1
          · go_wp2_with fail
            go_round
            case rel => exact ⟨k + 1, by omega, by go_num, by rw [HNX.out]; unfold regs1; simp only [hX, hA, if_true, Bool.false_eq_true, if_false]; try (congr 1; omega), hb5.out⟩
            case measure => simp [intOf]; omega
          · go_wp2_with fail
            go_round
            case rel => exact ⟨k + 1, by omega, by go_num, by rw [HNX.out]; unfold regs1; simp only [hX, hA, if_true, Bool.false_eq_true, if_false]; try (congr 1; omega), hb5.out⟩
            case measure => simp [intOf]; omega
        | false =>
          go_wp2_with fail
          go_round
          case rel => exact ⟨k + 1, by omega, by go_num, by rw [HNX.out]; unfold regs1; simp only [hX, hA, if_true, Bool.false_eq_true, if_false]; try (congr 1; omega), hb5.out⟩
          case measure => simp [intOf]; omega
    · obtain rfl : k = xs.length := by omega
      rw [List.take_length]
      go_wp2_with fail
      go_ret
      exact ⟨rfl, hbl⟩
end Go.Proofs.Ytmmnfkggfnokjaa
set_option linter.unusedVariables false
namespace Go.Proofs.Ytmmnfkggfnokjaa
open Go.RowKit
/-! ### what was told, as a clause that Compile reads -/
def ltOf (l : LitV) (c : List Cel) : Lt := ⟨l.neg, c⟩
theorem lits_row {w : World} {B B2 cb : Nat} {ls : List LitV} {cs : List (List Cel)} {ab : Option Addr} (hB : AccInv B2 88 ls (.slice ab ls.length cb) w) (hR : RowsN w B ls cs) (hl : ls.length = cs.length) : Row w ab cb (List.zipWith ltOf ls cs) := by
  obtain ⟨a, cap, e, hr⟩ := hB.row
  injection e with e1 e2 e3
  subst e1
  subst e3
  have hlen : (List.zipWith ltOf ls cs).length = ls.length := by rw [List.length_zipWith]; omega
  refine ⟨by rw [hlen]; exact hr.le, hr.max, hr.nil, fun i x hi => ?_⟩
  have hi1 : i < (List.zipWith ltOf ls cs).length := (List.getElem?_eq_some_iff.1 hi).1
  have hil : i < ls.length := by omega
  have hic : i < cs.length := by omega
  rw [List.getElem?_eq_getElem hi1] at hi
  cases hi
  rw [List.getElem_zipWith]
  obtain ⟨b, off, e1, hE⟩ := hr.at_ i ls[i] (List.getElem?_eq_getElem hil)
  have hE' : LitVE w b (off + i * 2) ls[i] := hE
  obtain ⟨a', c', hv, hr'⟩ := (hR.at_ i ls[i] cs[i] (List.getElem?_eq_getElem hil) (List.getElem?_eq_getElem hic)).row
  refine ⟨b, off, e1, ?_⟩
  have h1 := hE'.c1
  rw [hv] at h1
  exact (⟨⟨a', c', hE'.c0, h1, hr'⟩⟩ : LtE w b (off + i * 2) (ltOf ls[i] cs[i]))
/-- the cells of trees, numbered, one row after the other -/
theorem zip_map {ls : List LitV} {lits : List (Bool × Tm)} (h : ls.map LitV.neg = lits.map Prod.fst) : ∀ cs : List (List Cel), cs.length = lits.length → List.zipWith ltOf ls cs = List.zipWith (fun (p : Bool × Tm) c => (⟨p.1, c⟩ : Lt)) lits cs := by
  induction ls generalizing lits with
  | nil => cases lits with
    | nil => intro cs _; simp
    | cons p l => simp at h
  | cons x ls ih => cases lits with
    | nil => simp at h
    | cons p l =>
      intro cs hc
      cases cs with
      | nil => simp at hc
      | cons c cs =>
        simp only [List.map_cons, List.cons.injEq] at h
        simp only [List.length_cons, Nat.add_right_cancel_iff] at hc
        rw [List.zipWith_cons_cons, List.zipWith_cons_cons, ih h.2 cs hc, ltOf, h.1]
end Go.Proofs.Ytmmnfkggfnokjaa
set_option linter.unusedVariables false
namespace Go.Proofs.Ytmmnfkggfnokjaa
open Go.RowKit
/-! ### a clause that may be, numbered, may be -/
structure NumLow (s : NumS) (L : List Int) : Prop where
  nd : L.Nodup
  len : L.length = s.2
  key : ∀ j, j ∈ L → ∃ r, s.1 j = some r
  low : ∀ j, j ∈ L → 0 ≤ j ∧ j ≤ 999
theorem NumLow.nil : NumLow nu0 [] := ⟨List.nodup_nil, rfl, fun j h => (by cases h), fun j h => (by cases h)⟩
theorem NumLow.one {s : NumS} {L : List Int} (h : NumLow s L) (c : Cel) (hc : c.k = 1 → 0 ≤ c.n ∧ c.n ≤ 999) : ∃ L', NumLow (nuC s c).2 L' := by
  unfold nuC
  split
  · rename_i hk
    cases hs : s.1 c.n with
    | some r => exact ⟨L, h⟩
    | none =>
      refine ⟨c.n :: L, List.nodup_cons.2 ⟨fun hm => ?_, h.nd⟩, by simp [h.len], fun j hj => ?_, fun j hj => ?_⟩
      · obtain ⟨r, hr⟩ := h.key _ hm
        rw [hs] at hr; cases hr
      · dsimp only
        by_cases e : j = c.n
        · exact ⟨_, by rw [if_pos e]⟩
        · rw [if_neg e]
          exact h.key j ((List.mem_cons.1 hj).resolve_left e)
      · rcases List.mem_cons.1 hj with rfl | hj
        · exact hc hk
        · exact h.low j hj
  · exact ⟨L, h⟩
theorem NumLow.all : ∀ (xs : List Cel) {s : NumS} {L : List Int} (h : NumLow s L) (hx : ∀ c ∈ xs, c.k = 1 → 0 ≤ c.n ∧ c.n ≤ 999), ∃ L', NumLow (nuL s xs).2 L'
  | [], s, L, h, _ => ⟨L, h⟩
  | c :: xs, s, L, h, hx => by
    obtain ⟨L1, h1⟩ := h.one c (hx c List.mem_cons_self)
    exact NumLow.all xs h1 fun d hd => hx d (List.mem_cons_of_mem _ hd)
theorem NumLow.alls : ∀ (cs : List (List Cel)) {s : NumS} {L : List Int} (h : NumLow s L) (hx : ∀ xs ∈ cs, ∀ c ∈ xs, c.k = 1 → 0 ≤ c.n ∧ c.n ≤ 999), ∃ L', NumLow (nuLs s cs).2 L'
  | [], s, L, h, _ => ⟨L, h⟩
  | c :: cs, s, L, h, hx => by
    obtain ⟨L1, h1⟩ := h.all c (hx c List.mem_cons_self)
    exact NumLow.alls cs h1 fun d hd => hx d (List.mem_cons_of_mem _ hd)
theorem nat_sub_len : ∀ {l r : List Nat}, l.Nodup → (∀ p ∈ l, p ∈ r) → l.length ≤ r.length
  | [], r, _, _ => by simp
  | a :: l, r, hn, h => by
    obtain ⟨h1, h2⟩ := List.nodup_cons.1 hn
    have ha := h a (by simp)
    have := nat_sub_len (r := r.erase a) h2 fun p hp => (List.mem_erase_of_ne (fun e : p = a => h1 (by rw [← e]; exact hp))).2 (h p (by simp [hp]))
    rw [List.length_erase_of_mem ha] at this
    have := List.length_pos_of_mem ha
    rw [List.length_cons]; omega
theorem NumLow.few {s : NumS} {L : List Int} (h : NumLow s L) : s.2 ≤ 1000 := by
  have h1 : (L.map Int.toNat).Nodup := by
    rw [List.Nodup, List.pairwise_map]
    refine List.Pairwise.imp_of_mem ?_ h.nd
    intro a b ha hb hne e
    have h1 := h.low a ha
    have h2 := h.low b hb
    exact hne (by omega)
  have h2 := nat_sub_len (r := List.range 1000) h1 fun p hp => by
    obtain ⟨j, hj, rfl⟩ := List.mem_map.1 hp
    have := h.low j hj
    rw [List.mem_range]; omega
  rw [List.length_map, List.length_range, h.len] at h2
  exact h2
mutual
theorem ok_low : ∀ t : Tm, t.ok → ∀ c ∈ t.flat, c.k = 1 → 0 ≤ c.n ∧ c.n ≤ 999
  | .mk c ts, h, d, hd, hk => by
    simp only [Tm.flat] at hd
    rcases List.mem_cons.1 hd with rfl | hd
    · have h1 := h.1
      unfold cellOk at h1
      simp only [Bool.or_eq_true, Bool.and_eq_true, decide_eq_true_eq] at h1
      omega
    · exact oks_low ts h.2.2 d hd hk
theorem oks_low : ∀ ts : List Tm, oks ts → ∀ c ∈ flats ts, c.k = 1 → 0 ≤ c.n ∧ c.n ≤ 999
  | [], _, d, hd, _ => by simp [flats] at hd
  | t :: ts, h, d, hd, hk => by
    simp only [flats] at hd
    rcases List.mem_append.1 hd with hd | hd
    · exact ok_low t h.1 d hd hk
    · exact oks_low ts h.2 d hd hk
end
theorem bytes_nil : ((⟨#[]⟩ : ByteArray)).toList = [] := by rw [ByteArray.toList, ByteArray.toList.loop]; rfl
theorem renTs_len (F : Int → Int) : ∀ ts : List Tm, (renTs F ts).length = ts.length
  | [] => by unfold renTs; rfl
  | t :: ts => by unfold renTs; simp [renTs_len F ts]
mutual
theorem ren_ok (F : Int → Int) : ∀ t : Tm, t.ok → VarsT (fun n => 0 ≤ F n ∧ F n ≤ 999) t → (renT F t).ok
  | .mk c ts, h, hv => by
    have h1 := h.1
    have h2 := h.2.1
    unfold cellOk at h1
    simp only [Bool.or_eq_true, Bool.and_eq_true, decide_eq_true_eq] at h1
    unfold renT
    by_cases k1 : c.k = 1
    · rw [if_pos k1]
      have hF := hv.1 k1
      refine ⟨?_, ?_, trivial⟩
      · unfold cellOk
        dsimp only
        rw [bytes_nil]
        simp [hF.1, hF.2]
      · simp [ar]
    · rw [if_neg k1]
      by_cases k2 : c.k = 2
      · rw [if_pos k2]
        refine ⟨?_, ?_, trivial⟩
        · unfold cellOk
          dsimp only
          rw [bytes_nil]
          have : -2147483647 ≤ c.n ∧ c.n ≤ 2147483647 := by omega
          simp [this.1, this.2]
        · simp [ar]
      · rw [if_neg k2]
        have k3 : c.k = 3 := by omega
        refine ⟨?_, ?_, rens_ok F ts h.2.2 hv.2⟩
        · have := h.1
          unfold cellOk at this ⊢
          rw [k3] at this
          exact this
        · rw [renTs_len, h2]
          unfold ar
          rw [if_pos k3, if_pos rfl]
theorem rens_ok (F : Int → Int) : ∀ ts : List Tm, oks ts → VarsTs (fun n => 0 ≤ F n ∧ F n ≤ 999) ts → oks (renTs F ts)
  | [], _, _ => by unfold renTs; trivial
  | t :: ts, h, hv => by
    unfold renTs
    exact ⟨ren_ok F t h.1 hv.1, rens_ok F ts h.2 hv.2⟩
end
theorem ClT.kinds {x : Cl} {h : Tm} {bl : List (Bool × Tm)} (hT : ClT x h bl) : Kinds h := ok_kinds h hT.ok
theorem ClT.litk {x : Cl} {h : Tm} {bl : List (Bool × Tm)} (hT : ClT x h bl) : ∀ p ∈ bl, Kinds p.2 ∧ p.2.hd.k = 3 ∧ NoName p.2 := fun p hp => ⟨ok_kinds _ (hT.lits p hp).1, (hT.lits p hp).2.1, ok_noname _ (hT.lits p hp).1⟩
theorem ClT.lita {x : Cl} {h : Tm} {bl : List (Bool × Tm)} (hT : ClT x h bl) : ∀ p ∈ bl, Kinds p.2 ∧ Aris p.2 ∧ p.2.hd.k = 3 := fun p hp => ⟨ok_kinds _ (hT.lits p hp).1, ok_aris _ (hT.lits p hp).1, (hT.lits p hp).2.1⟩
/-- a clause with its variables numbered by first place -/
def numCl (h : Tm) (bl : List (Bool × Tm)) : Cl := ⟨numH h, List.zipWith (fun (p : Bool × Tm) c => (⟨p.1, c⟩ : Lt)) bl (numB h bl)⟩
theorem zip_lits (F : Int → Int) : ∀ bl : List (Bool × Tm), List.zipWith (fun (p : Bool × Tm) c => (⟨p.1, c⟩ : Lt)) bl ((bl.map (renL F)).map fun x => x.2.flat) = (bl.map (renL F)).map litOf
  | [] => rfl
  | p :: bl => by
    rw [List.map_cons, List.map_cons, List.map_cons, List.zipWith_cons_cons, zip_lits F bl]
    rfl
/-- NUMBERED, IT IS A CLAUSE THAT MAY BE, WITH THE SAME CODE -/
theorem num_clT {x : Cl} {h : Tm} {bl : List (Bool × Tm)} (hT : ClT x h bl) : ∃ G : Int → Int, ClT (numCl h bl) (renT G h) (bl.map (renL G)) ∧ compS (renT G h) (bl.map (renL G)) = compS h bl := by
  have hh := hT.kinds
  have hn := ok_noname h hT.ok
  have hb := hT.litk
  obtain ⟨S, hS⟩ : ∃ S, (nuLs (nuL nu0 h.flat).2 (bl.map fun x => x.2.flat)).2 = S := ⟨_, rfl⟩
  have hI : NuInj S := by rw [← hS]; exact (nu0_inj.all h.flat).alls _
  have hfew : S.2 ≤ 1000 := by
    obtain ⟨L1, h1⟩ := NumLow.nil.all h.flat (ok_low h hT.ok)
    obtain ⟨L2, h2⟩ := h1.alls (bl.map fun x => x.2.flat) fun xs hxs => by
      obtain ⟨p, hp, rfl⟩ := List.mem_map.1 hxs
      exact ok_low p.2 (hT.lits p hp).1
    rw [← hS]
    exact h2.few
  have hle : NuLe (nuL nu0 h.flat).2 S := by rw [← hS]; exact nuLs_le _ _
  have hle2 : NuLe (nuLs (nuL nu0 h.flat).2 (bl.map fun x => x.2.flat)).2 S := by rw [hS]; exact fun _ _ e => e
  have hG : ∀ j r, S.1 j = some r → (fun n => (S.1 n).getD 0) j = r := fun j r e => by simp only; rw [e]; rfl
  have hinj : InjP (fun n => (S.1 n).getD 0) (fun n => ∃ r, S.1 n = some r) := by
    rintro a b ⟨r, ha⟩ ⟨r', hb'⟩ e
    have e' : r = r' := by
      have := e
      simp only [ha, hb', Option.getD_some] at this
      exact this
    subst e'
    exact hI.2 a b r ha hb'
  have hlow : ∀ n, (∃ r, S.1 n = some r) → 0 ≤ (S.1 n).getD 0 ∧ (S.1 n).getD 0 ≤ 999 := by
    rintro n ⟨r, hr⟩
    have := hI.1 n r hr
    rw [hr, Option.getD_some]
    omega
  have hvh : VarsT (fun n => ∃ r, S.1 n = some r) h := vars_flat h fun c hc hk => by
    obtain ⟨r, hr⟩ := nuL_some nu0 h.flat c hc hk
    exact ⟨r, hle _ _ hr⟩
  have hvb : ∀ x ∈ bl, VarsT (fun n => ∃ r, S.1 n = some r) x.2 := fun x hx => vars_flat x.2 fun c hc hk => by
    obtain ⟨r, hr⟩ := nuLs_some (nuL nu0 h.flat).2 (bl.map fun x => x.2.flat) x.2.flat (List.mem_map.2 ⟨x, hx, rfl⟩) c hc hk
    exact ⟨r, hle2 _ _ hr⟩
  have hNB : numB h bl = (bl.map (renL fun n => (S.1 n).getD 0)).map fun x => x.2.flat := by
    unfold numB
    rw [nuLs_ren hG _ _ hle2, List.map_map, List.map_map]
    refine List.map_congr_left fun x hx => ?_
    show x.2.flat.map _ = (renT _ x.2).flat
    rw [ren_flat _ x.2 (hb x hx).1 (hb x hx).2.2]
  have hNH : numH h = (renT (fun n => (S.1 n).getD 0) h).flat := by
    unfold numH
    rw [nuL_ren hG nu0 h.flat hle, ren_flat _ h hh hn]
  refine ⟨fun n => (S.1 n).getD 0, ⟨hNH, ?_, ren_ok _ h hT.ok (VarsT.imp hlow hvh), ?_, ?_, ?_, ?_⟩, compS_ren hinj h bl hh hT.h3 hvh fun x hx => ⟨(hb x hx).1, (hb x hx).2.1, hvb x hx⟩⟩
  · unfold numCl
    dsimp only
    rw [hNB, zip_lits]
  · rw [(ren_hd _ h (ok_kinds h hT.ok |> fun k => by cases h; exact k.1)).1]; exact hT.h3
  · rw [ren_flat_len _ h hh]; exact hT.h200
  · rw [List.length_map]; exact hT.few
  · intro p hp
    obtain ⟨q, hq, rfl⟩ := List.mem_map.1 hp
    obtain ⟨q1, q2, q3⟩ := hT.lits q hq
    refine ⟨ren_ok _ q.2 q1 (VarsT.imp hlow (hvb q hq)), ?_, ?_⟩
    · show (renT _ q.2).hd.k = 3
      rw [(ren_hd _ q.2 (by have k := ok_kinds q.2 q1; generalize q.2 = u at k; cases u; exact k.1)).1]
      exact q2
    · show (renT _ q.2).flat.length ≤ 200
      rw [ren_flat_len _ q.2 (hb q hq).1]
      exact q3
end Go.Proofs.Ytmmnfkggfnokjaa
set_option linter.unusedVariables false
namespace Go.Proofs.Ytmmnfkggfnokjaa
open Go.RowKit
/-! ### what is told of a code -/
mutual
theorem tm_one : ∀ (t u : Tm) (r s : List Cel), t.ok → u.ok → t.flat ++ r = u.flat ++ s → t = u ∧ r = s
  | .mk c ts, .mk d us, r, s, h, g, e => by
    simp only [Tm.flat, List.cons_append, List.cons.injEq] at e
    obtain ⟨rfl, e⟩ := e
    obtain ⟨rfl, e2⟩ := tms_one ts us r s h.2.2 g.2.2 (by rw [h.2.1, g.2.1]) e
    exact ⟨rfl, e2⟩
theorem tms_one : ∀ (ts us : List Tm) (r s : List Cel), oks ts → oks us → ts.length = us.length → flats ts ++ r = flats us ++ s → ts = us ∧ r = s
  | [], [], r, s, _, _, _, e => ⟨rfl, by simpa [flats] using e⟩
  | [], u :: us, r, s, _, _, l, _ => by simp at l
  | t :: ts, [], r, s, _, _, l, _ => by simp at l
  | t :: ts, u :: us, r, s, h, g, l, e => by
    simp only [flats, List.append_assoc] at e
    obtain ⟨rfl, e1⟩ := tm_one t u _ _ h.1 g.1 e
    obtain ⟨rfl, e2⟩ := tms_one ts us r s h.2 g.2 (by simpa using l) e1
    exact ⟨rfl, e2⟩
end
theorem flatT_one {t u : Tm} (h : t.ok) (g : u.ok) (e : t.flat = u.flat) : t = u := (tm_one t u [] [] h g (by rw [e])).1
theorem lits_one : ∀ (a b : List (Bool × Tm)), (∀ p ∈ a, p.2.ok) → (∀ p ∈ b, p.2.ok) → a.map litOf = b.map litOf → a = b
  | [], [], _, _, _ => rfl
  | [], q :: b, _, _, e => by simp at e
  | p :: a, [], _, _, e => by simp at e
  | p :: a, q :: b, ha, hb, e => by
    rw [List.map_cons, List.map_cons, List.cons.injEq] at e
    have e1 := e.1
    unfold litOf at e1
    injection e1 with e2 e3
    rw [lits_one a b (fun x hx => ha x (List.mem_cons_of_mem _ hx)) (fun x hx => hb x (List.mem_cons_of_mem _ hx)) e.2]
    obtain ⟨n, t⟩ := p
    obtain ⟨m, u⟩ := q
    dsimp only at e2 e3
    have e4 : t = u := flatT_one (ha (n, t) List.mem_cons_self) (hb (m, u) List.mem_cons_self) e3
    rw [e2, e4]
/-- a clause is of one head and one body -/
theorem ClT.one {x : Cl} {h h' : Tm} {bl bl' : List (Bool × Tm)} (h1 : ClT x h bl) (h2 : ClT x h' bl') : h = h' ∧ bl = bl' :=
  ⟨flatT_one h1.ok h2.ok (h1.eh.symm.trans h2.eh), lits_one _ _ (fun p hp => (h1.lits p hp).1) (fun p hp => (h2.lits p hp).1) (h1.eb.symm.trans h2.eb)⟩
theorem atom_of {t : Tm} (h1 : t.ok) (h2 : t.hd.k = 3) (h3 : t.flat.length ≤ 200) : atomB t.flat = true := by
  unfold atomB
  rw [right_flat h1 h3, flat_cons]
  simpa [isFun] using h2
theorem ClT.may {x : Cl} {h : Tm} {bl : List (Bool × Tm)} (hT : ClT x h bl) : Go.Proofs.Ytmmnfkggfnokjaa.mayB x = true := by
  unfold Go.Proofs.Ytmmnfkggfnokjaa.mayB
  simp only [Bool.and_eq_true, decide_eq_true_eq, List.all_eq_true]
  refine ⟨⟨by rw [hT.eb, List.length_map]; exact hT.few, fun y hy => ?_⟩, by rw [hT.eh]; exact atom_of hT.ok hT.h3 hT.h200⟩
  rw [hT.eb] at hy
  obtain ⟨p, hp, rfl⟩ := List.mem_map.1 hy
  obtain ⟨p1, p2, p3⟩ := hT.lits p hp
  exact atom_of p1 p2 p3
theorem numB_len (h : Tm) (bl : List (Bool × Tm)) : (numB h bl).length = bl.length := by unfold numB; rw [nuLs_len, List.length_map]
/-- what is numbered is numbered as it is -/
theorem num_again (t : Tm) (lits : List (Bool × Tm)) : (nuL nu0 (numH t)).1 = numH t ∧ (nuLs (nuL nu0 (numH t)).2 (numB t lits)).1 = numB t lits := by
  obtain ⟨S, hS⟩ : ∃ S, (nuLs (nuL nu0 t.flat).2 (lits.map fun x => x.2.flat)).2 = S := ⟨_, rfl⟩
  have hI : NuInj S := by rw [← hS]; exact (nu0_inj.all t.flat).alls _
  have hle : NuLe (nuL nu0 t.flat).2 S := by rw [← hS]; exact nuLs_le _ _
  have hle2 : NuLe (nuLs (nuL nu0 t.flat).2 (lits.map fun x => x.2.flat)).2 S := by rw [hS]; exact fun _ _ e => e
  have hG : ∀ j r, S.1 j = some r → (fun n => (S.1 n).getD 0) j = r := fun j r e => by simp only; rw [e]; rfl
  have hinj : InjP (fun n => (S.1 n).getD 0) (fun n => ∃ r, S.1 n = some r) := by
    rintro a b ⟨r, ha⟩ ⟨r', hb'⟩ e
    have e' : r = r' := by
      have := e
      simp only [ha, hb', Option.getD_some] at this
      exact this
    subst e'
    exact hI.2 a b r ha hb'
  obtain ⟨a, b⟩ := nu_same_of hinj t.flat (lits.map fun x => x.2.flat) (fun c hc hk => by
    obtain ⟨r, hr⟩ := nuL_some nu0 t.flat c hc hk
    exact ⟨r, hle _ _ hr⟩) (fun xs hxs c hc hk => by
    obtain ⟨r, hr⟩ := nuLs_some (nuL nu0 t.flat).2 _ xs hxs c hc hk
    exact ⟨r, hle2 _ _ hr⟩)
  have e1 : numH t = t.flat.map (renC fun n => (S.1 n).getD 0) := nuL_ren hG nu0 t.flat hle
  have e2 : numB t lits = (lits.map fun x => x.2.flat).map fun c => c.map (renC fun n => (S.1 n).getD 0) := nuLs_ren hG _ _ hle2
  rw [e1, e2, a, b]
  exact ⟨e1, e2⟩
theorem zip_t : ∀ (lits : List (Bool × Tm)) (cs : List (List Cel)), cs.length = lits.length → (List.zipWith (fun (p : Bool × Tm) c => (⟨p.1, c⟩ : Lt)) lits cs).map Lt.t = cs
  | [], [], _ => rfl
  | [], c :: cs, h => by simp at h
  | p :: l, [], h => by simp at h
  | p :: l, c :: cs, h => by
    rw [List.zipWith_cons_cons, List.map_cons, zip_t l cs (by simpa using h)]
theorem zip_n : ∀ (lits : List (Bool × Tm)) (cs : List (List Cel)), cs.length = lits.length → (List.zipWith (fun (p : Bool × Tm) c => (⟨p.1, c⟩ : Lt)) lits cs).map Lt.neg = lits.map Prod.fst
  | [], [], _ => rfl
  | [], c :: cs, h => by simp at h
  | p :: l, [], h => by simp at h
  | p :: l, c :: cs, h => by
    rw [List.zipWith_cons_cons, List.map_cons, zip_n l cs (by simpa using h), List.map_cons]
theorem zip_of : ∀ (lits lits' : List (Bool × Tm)) (cs : List (List Cel)), lits.map Prod.fst = lits'.map Prod.fst → List.zipWith (fun (p : Bool × Tm) c => (⟨p.1, c⟩ : Lt)) lits cs = List.zipWith (fun (p : Bool × Tm) c => (⟨p.1, c⟩ : Lt)) lits' cs
  | [], [], _, _ => rfl
  | [], q :: l', _, h => by simp at h
  | p :: l, [], _, h => by simp at h
  | p :: l, q :: l', [], h => by simp
  | p :: l, q :: l', c :: cs, h => by
    rw [List.map_cons, List.map_cons, List.cons.injEq] at h
    rw [List.zipWith_cons_cons, List.zipWith_cons_cons, zip_of l l' cs h.2, h.1]
/-- a clause that is numbered, by its trees, is what it is numbered -/
theorem num_is {t h : Tm} {lits bl : List (Bool × Tm)} (hT : ClT (numCl t lits) h bl) : numCl h bl = numCl t lits := by
  have eh : numH t = h.flat := hT.eh
  have eb : List.zipWith (fun (p : Bool × Tm) c => (⟨p.1, c⟩ : Lt)) lits (numB t lits) = bl.map litOf := hT.eb
  have e1 : numB t lits = bl.map fun x => x.2.flat := by
    have := congrArg (List.map Lt.t) eb
    rw [zip_t _ _ (numB_len _ _), List.map_map] at this
    exact this
  have e2 : lits.map Prod.fst = bl.map Prod.fst := by
    have := congrArg (List.map Lt.neg) eb
    rw [zip_n _ _ (numB_len _ _), List.map_map] at this
    exact this
  obtain ⟨a, b⟩ := num_again t lits
  have n1 : numH h = numH t := by
    show (nuL nu0 h.flat).1 = _
    rw [← eh, a]
  have n2 : numB h bl = numB t lits := by
    show (nuLs (nuL nu0 h.flat).2 (bl.map fun x => x.2.flat)).1 = _
    rw [← eh, ← e1, b]
  unfold numCl
  rw [n1, n2, zip_of bl lits _ e2.symm]
theorem rowOf_renT (F : Int → Int) : ∀ (ts : List Tm) (i : Nat), (rowOf ts i).map (fun p => renT F p.1) = renTs F ts
  | [], _ => by unfold renTs rowOf; rfl
  | t :: ts, i => by
    unfold renTs rowOf
    rw [List.map_cons, rowOf_renT F ts]
/-- what is told of a clause's code: that clause, renamed; numbered, it is that clause numbered -/
theorem told_is {x0 : Cl} {h0 : Tm} {bl0 : List (Bool × Tm)} (hT : ClT x0 h0 bl0) {L0 : List Ins} {e : Ins} (hL : compS h0 bl0 = L0 ++ [e]) : e.n ≤ 6 ∧ e.op = 13 ∧ ∃ ch us bs r2, L0 = ch ++ r2 ∧ HeadR (funsOf (L0 ++ [e])) ch us ∧ us.length = e.n.toNat ∧ BodyR r2 (fun _ => none) bs ∧ numCl (.mk (funI e) us) bs = numCl h0 bl0 := by
  have hb := hT.litk
  obtain ⟨F, P, ch1, ch2, hF, hv, hvb, e1, e2, e3⟩ := compS_dec2 h0 bl0 hT.kinds (ok_aris h0 hT.ok) hT.h3 hT.lita
  have e4 : L0 ++ [e] = (ch1 ++ ch2) ++ [⟨13, 0, 0, h0.hd.s, h0.hd.n, false⟩] := by rw [← hL, e1, List.append_assoc]
  obtain ⟨rfl, e5⟩ := List.append_inj' e4 rfl
  have e6 : e = ⟨13, 0, 0, h0.hd.s, h0.hd.n, false⟩ := by simpa using e5
  have hk := ok_iff h0 |>.1 hT.ok
  have hn : 0 ≤ h0.hd.n ∧ h0.hd.n ≤ 6 := by
    have h1 := hk.1
    unfold cellOk at h1
    rw [hT.h3] at h1
    simp at h1
    omega
  rw [hL] at e2
  have htree : Tm.mk (funI e) ((rowOf h0.args 0).map fun p => renT F p.1) = renT F h0 := by
    rw [rowOf_renT]
    have h3 := hT.h3
    obtain ⟨c, ts⟩ := h0
    have h3' : c.k = 3 := h3
    unfold renT
    rw [if_neg (by omega), if_neg (by omega), e6]
    rfl
  refine ⟨by rw [e6]; exact hn.2, by rw [e6], ch1, _, _, ch2, rfl, e2, ?_, e3, ?_⟩
  · rw [rowOf_renT, renTs_len, hk.2.1, e6]
    unfold ar
    rw [if_pos hT.h3]
  · rw [htree]
    obtain ⟨a, b⟩ := told_num h0 bl0 hT.kinds (ok_noname h0 hT.ok) hT.h3 hb hF hv hvb
    have b' : numB (renT F h0) (bl0.map fun x => (x.1, renT F x.2)) = numB h0 bl0 := b
    unfold numCl
    rw [a, b', zip_of (bl0.map fun x => (x.1, renT F x.2)) bl0 _ (by rw [List.map_map]; rfl)]
theorem sum_bound (bl : List (Bool × Tm)) (h : ∀ p ∈ bl, p.2.flat.length ≤ 200) : (bl.map fun x => x.2.flat.length + funsL x.2.flat).sum ≤ 400 * bl.length := by
  induction bl with
  | nil => simp
  | cons p bl ih =>
    have h1 := ih fun q hq => h q (List.mem_cons_of_mem _ hq)
    have h2 := h p List.mem_cons_self
    have h3 := funsL_le p.2.flat
    simp only [List.map_cons, List.sum_cons, List.length_cons]
    omega
/-- a clause's code is no longer than this -/
theorem compS_short {x : Cl} {h : Tm} {bl : List (Bool × Tm)} (hT : ClT x h bl) : (compS h bl).length ≤ 3601 := by
  rw [compS_len h bl hT.kinds hT.h3 fun p hp => ⟨(hT.litk p hp).1, (hT.litk p hp).2.1⟩]
  have h1 := sumC_le (rowOf h.args 0)
  have h2 := rowOf_sums h.args 0
  have h3 := hT.h200
  rw [flat_cons, List.length_cons] at h3
  have h4 := sum_bound bl fun p hp => (hT.lits p hp).2.2
  have h5 := hT.few
  omega
end Go.Proofs.Ytmmnfkggfnokjaa
set_option linter.unusedVariables false
namespace Go.Proofs.Ytmmnfkggfnokjaa
open Go.RowKit
/-! ### what a clause's code has not -/
def zeroQ (i : Ins) : Prop := (inX i = false → i.x = 0) ∧ (inA i = false → i.a = 0) ∧ i.op ≠ 13
def callsL (l : List Ins) : List Bool := (l.filter fun i => i.op == 12).map Ins.neg
theorem callsL_app (a b : List Ins) : callsL (a ++ b) = callsL a ++ callsL b := by simp [callsL]
def LayQ (m m' : MkS) : Prop := ∃ ch : List Ins, m'.code = m.code ++ ch ∧ (∀ i ∈ ch, zeroQ i) ∧ callsL ch = []
theorem LayQ.refl (m : MkS) : LayQ m m := ⟨[], by simp, (fun i h => by cases h), rfl⟩
theorem LayQ.trans {m m' m'' : MkS} (h : LayQ m m') (h' : LayQ m' m'') : LayQ m m'' := by
  obtain ⟨c, e, z, q⟩ := h
  obtain ⟨c', e', z', q'⟩ := h'
  refine ⟨c ++ c', by rw [e', e, List.append_assoc], fun i hi => ?_, by rw [callsL_app, q, q']; rfl⟩
  rcases List.mem_append.1 hi with hi | hi
  · exact z i hi
  · exact z' i hi
theorem layq_one {m m' : MkS} (i : Ins) (e : m'.code = m.code ++ [i]) (hz : zeroQ i) (h : i.op ≠ 12) : LayQ m m' :=
  ⟨[i], e, fun j hj => by rw [List.mem_singleton] at hj; subst hj; exact hz, by simp [callsL, h]⟩
theorem var_q (m : MkS) (n f g a : Int) (hf : f = 1 ∨ f = 5 ∨ f = 9) (hg : g = f + 1) (ha : f ≠ 1 → a = 0) : LayQ m (m.var n f g a) := by
  subst hg
  unfold MkS.var
  split
  · refine layq_one _ rfl ?_ (by simp only; omega)
    rcases hf with rfl | rfl | rfl <;> simp [zeroQ, inX, inA] <;> exact ha (by decide)
  · refine layq_one _ rfl ?_ (by simp only; omega)
    rcases hf with rfl | rfl | rfl <;> simp [zeroQ, inX, inA] <;> exact ha (by decide)
theorem unifyS_q : ∀ (ts : List Tm) (m : MkS), LayQ m (unifyS ts m).1
  | [], m => LayQ.refl m
  | t :: ts, m => by
    unfold unifyS
    split
    · exact (var_q m t.hd.n 5 6 0 (by omega) (by omega) (fun _ => rfl)).trans (unifyS_q ts _)
    · split
      · exact (layq_one _ rfl (by simp [zeroQ, inX, inA]) (by simp)).trans (unifyS_q ts _)
      · split
        · exact (layq_one (m := m) (m' := m.fresh.lay ⟨5, m.next, 0, ⟨#[]⟩, 0, false⟩) _ rfl (by simp [zeroQ, inX, inA]) (by simp)).trans (unifyS_q ts _)
        · exact unifyS_q ts m
theorem getS_q (p : Tm × Int) (m : MkS) : LayQ m (getS p m).1 := by
  unfold getS
  split
  · exact var_q m p.1.hd.n 1 2 p.2 (by omega) (by omega) (fun h => absurd rfl h)
  · split
    · exact layq_one _ rfl (by simp [zeroQ, inX, inA]) (by simp)
    · split
      · exact (layq_one _ rfl (by simp [zeroQ, inX, inA]) (by simp)).trans (unifyS_q _ _)
      · exact LayQ.refl m
theorem rowS_q : ∀ (f : Nat) (ps : List (Tm × Int)) (m : MkS), LayQ m (rowS f ps m)
  | 0, _, m => LayQ.refl m
  | _ + 1, [], m => LayQ.refl m
  | f + 1, p :: ps, m => by
    unfold rowS
    exact (getS_q p m).trans (rowS_q f _ _)
theorem setS_q (c : Cel) (r : Int) (m : MkS) : LayQ m (setS c r m) := by
  unfold setS
  split
  · exact var_q m c.n 9 10 0 (by omega) (by omega) (fun _ => rfl)
  · split
    · exact layq_one _ rfl (by simp [zeroQ, inX, inA]) (by simp)
    · split
      · exact layq_one _ rfl (by simp [zeroQ, inX, inA]) (by simp)
      · exact LayQ.refl m
theorem setsS_q : ∀ (ts : List Tm) (rs : List Int) (m : MkS), LayQ m (setsS ts rs m)
  | [], [], m => LayQ.refl m
  | [], _ :: _, m => LayQ.refl m
  | _ :: _, [], m => LayQ.refl m
  | t :: ts, r :: rs, m => by
    unfold setsS
    exact (setS_q t.hd r m).trans (setsS_q ts rs _)
mutual
theorem structS_q : ∀ (t : Tm) (m : MkS), LayQ m (structS t m).1
  | .mk c ts, m => by
    unfold structS
    exact (innerS_q ts m).trans ((layq_one (m' := (innerS ts m).1.fresh.lay ⟨8, 0, (innerS ts m).1.next, c.s, c.n, false⟩) ⟨8, 0, (innerS ts m).1.next, c.s, c.n, false⟩ rfl (by simp [zeroQ, inX, inA]) (by simp)).trans (setsS_q ts _ _))
theorem innerS_q : ∀ (ts : List Tm) (m : MkS), LayQ m (innerS ts m).1
  | [], m => LayQ.refl m
  | t :: ts, m => by
    unfold innerS
    split
    · exact (structS_q t m).trans (innerS_q ts _)
    · exact innerS_q ts m
end
theorem lits_q : ∀ (bl : List (Bool × Tm)) (m : MkS), ∃ ch : List Ins, (bl.foldl (fun m x => litS x m) m).code = m.code ++ ch ∧ (∀ i ∈ ch, zeroQ i) ∧ callsL ch = bl.map Prod.fst
  | [], m => ⟨[], by simp, (fun i h => by cases h), rfl⟩
  | x :: bl, m => by
    obtain ⟨c, e, z, q⟩ := structS_q x.2 m
    obtain ⟨c', e', z', q'⟩ := lits_q bl (litS x m)
    refine ⟨c ++ (⟨12, 0, (structS x.2 m).2, ⟨#[]⟩, 0, x.1⟩ :: c'), ?_, fun i hi => ?_, ?_⟩
    · rw [List.foldl_cons, e']
      unfold litS MkS.lay
      rw [e]
      simp
    · rcases List.mem_append.1 hi with hi | hi
      · exact z i hi
      · rcases List.mem_cons.1 hi with rfl | hi
        · simp [zeroQ, inX, inA]
        · exact z' i hi
    · rw [callsL_app, q, List.nil_append, List.map_cons, ← q']
      simp [callsL]
/-- a clause's code: its end, its calls, and what its instructions leave empty -/
theorem compS_calls (h : Tm) (bl : List (Bool × Tm)) : ∃ ch : List Ins, compS h bl = ch ++ [⟨13, 0, 0, h.hd.s, h.hd.n, false⟩] ∧ (∀ i ∈ ch, zeroQ i) ∧ callsL ch = bl.map Prod.fst := by
  obtain ⟨c, e, z, q⟩ := rowS_q (2 * h.flat.length + 1) (rowOf h.args 0) ⟨[], h.hd.n, fun _ => none⟩
  obtain ⟨c', e', z', q'⟩ := lits_q bl (rowS (2 * h.flat.length + 1) (rowOf h.args 0) ⟨[], h.hd.n, fun _ => none⟩)
  refine ⟨c ++ c', ?_, fun i hi => ?_, by rw [callsL_app, q, q', List.nil_append]⟩
  · unfold compS
    show _ ++ _ = _
    rw [e', e]
    simp
  · rcases List.mem_append.1 hi with hi | hi
    · exact z i hi
    · exact z' i hi
theorem compS_zero {h : Tm} {bl : List (Bool × Tm)} : ∀ i ∈ compS h bl, (inX i = false → i.x = 0) ∧ (inA i = false → i.a = 0) := by
  obtain ⟨ch, e, z, _⟩ := compS_calls h bl
  intro i hi
  rw [e] at hi
  rcases List.mem_append.1 hi with hi | hi
  · exact ⟨(z i hi).1, (z i hi).2.1⟩
  · rw [List.mem_singleton] at hi
    subst hi
    exact ⟨fun _ => rfl, fun _ => rfl⟩
/-! ### how many parts are Funs -/
def funsTs (ts : List Tm) : Nat := (ts.filter fun t => t.hd.k == 3).length
/-! ### registers, set one by one -/
theorem onceGo_le : ∀ (l : List Ins) (k K : Int), onceGo k l = some K → k ≤ K ∧ K ≤ k + l.length
  | [], k, K, h => by
    unfold onceGo at h
    injection h with h
    subst h
    simp
  | i :: l, k, K, h => by
    rw [onceGo_cons] at h
    rw [List.length_cons]
    split at h
    · cases h
    · split at h
      · split at h
        · have := onceGo_le l _ _ h; omega
        · cases h
      · split at h
        · split at h
          · have := onceGo_le l _ _ h; omega
          · cases h
        · have := onceGo_le l _ _ h; omega
end Go.Proofs.Ytmmnfkggfnokjaa
set_option linter.unusedVariables false
namespace Go.Proofs.Ytmmnfkggfnokjaa
open Go.RowKit
theorem add_litR (b o j : Nat) : (Addr.mk b o none).add j = ⟨b, o + j, none⟩ := by unfold Addr.add; split <;> simp_all
theorem veil_toR {us vs : List Nat} {w W : World} (hf : Fr us w W) (h : ∀ k ∈ vs, k ∈ us ∨ w.heap.size ≤ k) : Keeps (veil us w) (veil vs W) := by
  intro b o v hc
  obtain ⟨h1, h2⟩ := veil_cell hc
  have hl := cell_lt h2
  refine veil_of (fun e => (h b e).elim h1 (fun q => by omega)) ((World.cell?_of_block (w := w) (a := ⟨b, o, none⟩) (hf.block b hl h1)).trans h2)
/-! ### rows that are appended to, their elements read in a view of the world -/
theorem veil_own {us : List Nat} {w : World} {B e size n : Nat} {v : Value} {xs : List Value} (h : w.ownsRow B e size v n xs) (hu : ∀ k ∈ us, k < B) : (veil us w).ownsRow B e size v n xs := by
  refine ⟨h.1, h.2.imp id fun ⟨g, cap, cur, e1, hB, hg, rest⟩ => ⟨g, cap, cur, e1, hB, (veil_heap fun e2 => ?_).trans hg, rest⟩⟩
  have := hu g e2
  omega
/-- a row of the call's own, its elements read in a view -/
def VOwn {α : Type} [RepC α] (V : World) (B e : Nat) (acc : List α) (v : Value) (w : World) : Prop := ∃ vs, w.ownsRow B e (Rep.sz α) v acc.length vs ∧ CRows V vs acc
theorem VOwn.row {α : Type} [RepC α] {V w : World} {B e : Nat} {acc : List α} {v : Value} (h : VOwn V B e acc v w) {us : List Nat} (hu : ∀ k ∈ us, k < B) (hk : Keeps V (veil us w)) : ∃ a cap, v = .slice a acc.length cap ∧ Row (veil us w) a cap acc := by
  obtain ⟨vs, ho, hc⟩ := h
  exact own_rowG (veil_own ho hu) (hc.keeps hk)
theorem VOwn.made {α : Type} [RepC α] (V : World) {B e : Nat} (w : World) (hB : B ≤ w.heap.size) : VOwn V B e ([] : List α) (.slice (some ⟨w.heap.size, 0, none⟩) 0 0) (w.alloc (.cells #[] e)) :=
  ⟨[], by simpa using World.ownsRow_made (base := B) (e := e) (size := Rep.sz α) w #[] 0 hB (by unfold maxLen; omega) (by simp), .nil⟩
theorem VOwn.below {α : Type} [RepC α] {V w w' : World} {B e : Nat} {acc : List α} {v : Value} (h : VOwn V B e acc v w) (hb : Below w.heap.size w w') : VOwn V B e acc v w' :=
  let ⟨vs, ho, hc⟩ := h
  ⟨vs, own_blockN ho fun b e => hb.block b (ho.lt b e).2, hc⟩
theorem VOwn.lt {α : Type} [RepC α] {V w : World} {B e : Nat} {acc : List α} {v : Value} (h : VOwn V B e acc v w) : ∀ k, v.ownBlock = some k → B ≤ k ∧ k < w.heap.size := let ⟨_, ho, _⟩ := h; ho.lt
section
variable {α : Type} [RepC α] {V w : World} {t B e bytes : Nat} {z : Value}
/-- append of all of a slice -/
theorem appAll (ht : Try.prog.underlying t = some (.slice e)) (hinfo : (Try.prog.info? e).map (fun i => (i.zero, i.size, i.bytes)) = some (some z, Rep.sz α, bytes)) (hzs : z.cells.size = Rep.sz α) (hby : bytes ≤ 1000)
    {v : Value} {acc : List α} (h : VOwn V B e acc v w) (hk : Keeps V w) {sa : Option Addr} {cap : Nat} {ys : List α} (hr : Row V sa cap ys) (hmax : acc.length + ys.length ≤ 1000000000) (hB : B ≤ w.heap.size) :
    ∃ v' w', (Builtin.append_ #[t, t] t #[v, .slice sa ys.length cap]).run Try.prog w = .ok v' w' ∧ VOwn V B e (acc ++ ys) v' w' ∧ Below B w w' ∧ w.grownBy w' v.ownBlock ∧ (v'.ownBlock = v.ownBlock ∨ v'.ownBlock = some w.heap.size) := by
  obtain ⟨vs, hown, hc⟩ := h
  obtain ⟨us, hu, hsrc⟩ := hr.srcK hk
  obtain ⟨i, hi, hz0, hz1, hz2⟩ := info_parts hinfo
  cases sa with
  | none =>
    have h0 : ys.length = 0 := (hsrc.nil rfl).1
    have hc0 : cap = 0 := (hsrc.nil rfl).2
    obtain rfl : ys = [] := List.eq_nil_of_length_eq_zero h0
    subst hc0
    exact ⟨v, w, run_append_owned_none (P := Try.prog) (w := w) B t t e i (Rep.sz α) ht hi v acc.length vs hown, ⟨vs, by rw [List.append_nil]; exact hown, by rw [List.append_nil]; exact hc⟩, Below.refl _ _, ⟨rfl, rfl, rfl, Nat.le_refl _, fun _ _ _ => rfl⟩, .inl rfl⟩
  | some ad =>
    have hb : (acc.length + ys.length) * bytes ≤ 140737488355328 := Nat.le_trans (Nat.mul_le_mul hmax hby) (by decide)
    obtain ⟨v', w', hr, h2, h3, h4⟩ := run_append_where (P := Try.prog) w B t t e i z (Rep.sz α) bytes ht hi hz0 hz1 hz2 hzs RepC.pos v acc.length vs hown ad ys.length cap us hsrc.len (hsrc.cells ad rfl) hsrc.one (by unfold maxLen; omega) hb hB
    exact ⟨v', w', hr, ⟨vs ++ us, by rw [List.length_append]; exact h2, hc.append hu⟩, grown_below h3 hown hB, h3, h4⟩
/-- append of one that was laid at a block -/
theorem appLit (ht : Try.prog.underlying t = some (.slice e)) (hinfo : (Try.prog.info? e).map (fun i => (i.zero, i.size, i.bytes)) = some (some z, Rep.sz α, bytes)) (hzs : z.cells.size = Rep.sz α) (hby : bytes ≤ 1000)
    {v : Value} {acc : List α} (h : VOwn V B e acc v w) {cs : Array Value} {y : α} (hcs : RepC.C V cs.toList y) {g T : Nat} (hg : w.heap[g]? = some (.cells cs T (0, 0))) (hmax : acc.length + 1 ≤ 1000000000) (hB : B ≤ w.heap.size) :
    ∃ v' w', (Builtin.append_ #[t, t] t #[v, .slice (some ⟨g, 0, none⟩) 1 1]).run Try.prog w = .ok v' w' ∧ VOwn V B e (acc ++ [y]) v' w' ∧ Below B w w' ∧ w.grownBy w' v.ownBlock := by
  obtain ⟨vs, hown, hc⟩ := h
  obtain ⟨i, hi, hz0, hz1, hz2⟩ := info_parts hinfo
  have hb : (acc.length + 1) * bytes ≤ 140737488355328 := Nat.le_trans (Nat.mul_le_mul hmax hby) (by decide)
  obtain ⟨v', w', hr, h2, h3, h4⟩ := run_append_where (P := Try.prog) w B t t e i z (Rep.sz α) bytes ht hi hz0 hz1 hz2 hzs RepC.pos v acc.length vs hown ⟨g, 0, none⟩ 1 1 cs.toList (by have := RepC.len hcs; simpa using this) (fun j u hj => by
    have e1 : (Addr.mk g 0 none).add j = ⟨g, j, none⟩ := by
      have h := add_litR g 0 j
      rw [Nat.zero_add] at h
      exact h
    rw [e1, cell_of_row w g j _ _ _ hg, ← hj]
    simp) (fun u hu => RepC.one hcs u hu) (by unfold maxLen; omega) hb hB
  exact ⟨v', w', hr, ⟨vs ++ cs.toList, by rw [List.length_append]; exact h2, hc.snoc hcs⟩, grown_below h3 hown hB, h3⟩
end
/-! ### append(append([]T{}, xs...), y): its three orders -/
section
variable {α : Type} [RepC α] {V z0 : World} {t e bytes : Nat} {z : Value} {us : List Nat} {sa : Option Addr} {cap : Nat} {xs : List α} {cs : Array Value} {y : α}
/-- the literal first -/
theorem three_a (ht : Try.prog.underlying t = some (.slice e)) (hinfo : (Try.prog.info? e).map (fun i => (i.zero, i.size, i.bytes)) = some (some z, Rep.sz α, bytes)) (hzs : z.cells.size = Rep.sz α) (hby : bytes ≤ 1000)
    (hu : ∀ k ∈ us, k < z0.heap.size) (hr : Row (veil us z0) sa cap xs) (hcs : RepC.C (veil us z0) cs.toList y) (hl : xs.length ≤ 1000000) (n : Nat) (hn : xs.length = n) :
    ∃ v1 w1 a2 c2 w2, (Builtin.append_ #[t, t] t #[.slice (some ⟨z0.heap.size + 1, 0, none⟩) 0 0, .slice sa n cap]).run Try.prog ((z0.alloc (.cells cs e)).alloc (.cells #[] e)) = .ok v1 w1 ∧
      (Builtin.append_ #[t, t] t #[v1, .slice (some ⟨z0.heap.size, 0, none⟩) 1 1]).run Try.prog w1 = .ok (.slice a2 (n + 1) c2) w2 ∧
      Row (veil us w2) a2 c2 (xs ++ [y]) ∧ Below z0.heap.size z0 w1 ∧ Below z0.heap.size z0 w2 := by
  subst hn
  have hb1 := (Below.refl z0.heap.size z0).new (.cells cs e)
  have hb2 := hb1.new (.cells #[] e)
  have hs : (z0.alloc (.cells cs e)).heap.size = z0.heap.size + 1 := by simp
  have h0 : VOwn (veil us z0) z0.heap.size e ([] : List α) (.slice (some ⟨z0.heap.size + 1, 0, none⟩) 0 0) ((z0.alloc (.cells cs e)).alloc (.cells #[] e)) := by
    have h := VOwn.made (α := α) (veil us z0) (B := z0.heap.size) (e := e) (z0.alloc (.cells cs e)) (by simp)
    rw [hs] at h
    exact h
  obtain ⟨v1, w1, r1, k1, b1, g1, o1⟩ := appAll ht hinfo hzs hby h0 ((veil_keeps us z0).trans (Keeps.of hb2)) hr (by simp; omega) hb2.size
  rw [List.nil_append] at k1
  have hg0 : ((z0.alloc (.cells cs e)).alloc (.cells #[] e)).heap[z0.heap.size]? = some (.cells cs e (0, 0)) := (heap_alloc_old _ _ (by simp)).trans (heap_alloc_new _ _)
  have hg1 : w1.heap[z0.heap.size]? = some (.cells cs e (0, 0)) := (g1.block z0.heap.size (by simp; omega) (fun e9 => by
    have e8 : (some z0.heap.size : Option Nat) = some (z0.heap.size + 1) := e9
    injection e8 with e8; omega)).trans hg0
  have hc1 := hb2.trans b1
  obtain ⟨v2, w2, r2, k2, b2, g2⟩ := appLit ht hinfo hzs hby k1 hcs hg1 (by omega) hc1.size
  have hc2 := hc1.trans b2
  obtain ⟨a2, c2, rfl, hr2⟩ := k2.row hu (veil_toR (Fr.of hc2) fun k hk => .inl hk)
  rw [List.length_append, List.length_singleton] at r2
  exact ⟨v1, w1, a2, c2, w2, r1, r2, hr2, hc1, hc2⟩
/-- the empty row, the literal -/
theorem three_b (ht : Try.prog.underlying t = some (.slice e)) (hinfo : (Try.prog.info? e).map (fun i => (i.zero, i.size, i.bytes)) = some (some z, Rep.sz α, bytes)) (hzs : z.cells.size = Rep.sz α) (hby : bytes ≤ 1000)
    (hu : ∀ k ∈ us, k < z0.heap.size) (hr : Row (veil us z0) sa cap xs) (hcs : RepC.C (veil us z0) cs.toList y) (hl : xs.length ≤ 1000000) (n : Nat) (hn : xs.length = n) :
    ∃ v1 w1 a2 c2 w2, (Builtin.append_ #[t, t] t #[.slice (some ⟨z0.heap.size, 0, none⟩) 0 0, .slice sa n cap]).run Try.prog ((z0.alloc (.cells #[] e)).alloc (.cells cs e)) = .ok v1 w1 ∧
      (Builtin.append_ #[t, t] t #[v1, .slice (some ⟨z0.heap.size + 1, 0, none⟩) 1 1]).run Try.prog w1 = .ok (.slice a2 (n + 1) c2) w2 ∧
      Row (veil us w2) a2 c2 (xs ++ [y]) ∧ Below z0.heap.size z0 w1 ∧ Below z0.heap.size z0 w2 := by
  subst hn
  have hb1 := (Below.refl z0.heap.size z0).new (.cells #[] e)
  have hb2 := hb1.new (.cells cs e)
  have hs : (z0.alloc (.cells #[] e)).heap.size = z0.heap.size + 1 := by simp
  have h0 : VOwn (veil us z0) z0.heap.size e ([] : List α) (.slice (some ⟨z0.heap.size, 0, none⟩) 0 0) ((z0.alloc (.cells #[] e)).alloc (.cells cs e)) :=
    (VOwn.made (α := α) (veil us z0) (B := z0.heap.size) (e := e) z0 (Nat.le_refl _)).below ((Below.refl _ _).new _)
  obtain ⟨v1, w1, r1, k1, b1, g1, o1⟩ := appAll ht hinfo hzs hby h0 ((veil_keeps us z0).trans (Keeps.of hb2)) hr (by simp; omega) hb2.size
  rw [List.nil_append] at k1
  have hg0 : ((z0.alloc (.cells #[] e)).alloc (.cells cs e)).heap[z0.heap.size + 1]? = some (.cells cs e (0, 0)) := by
    rw [← hs]; exact heap_alloc_new _ _
  have hg1 : w1.heap[z0.heap.size + 1]? = some (.cells cs e (0, 0)) := (g1.block (z0.heap.size + 1) (by simp) (fun e9 => by
    have e8 : (some (z0.heap.size + 1) : Option Nat) = some z0.heap.size := e9
    injection e8 with e8; omega)).trans hg0
  have hc1 := hb2.trans b1
  obtain ⟨v2, w2, r2, k2, b2, g2⟩ := appLit ht hinfo hzs hby k1 hcs hg1 (by omega) hc1.size
  have hc2 := hc1.trans b2
  obtain ⟨a2, c2, rfl, hr2⟩ := k2.row hu (veil_toR (Fr.of hc2) fun k hk => .inl hk)
  rw [List.length_append, List.length_singleton] at r2
  exact ⟨v1, w1, a2, c2, w2, r1, r2, hr2, hc1, hc2⟩
/-- the empty row, all of the other, the literal -/
theorem three_c (ht : Try.prog.underlying t = some (.slice e)) (hinfo : (Try.prog.info? e).map (fun i => (i.zero, i.size, i.bytes)) = some (some z, Rep.sz α, bytes)) (hzs : z.cells.size = Rep.sz α) (hby : bytes ≤ 1000)
    (hu : ∀ k ∈ us, k < z0.heap.size) (hr : Row (veil us z0) sa cap xs) (hcs : RepC.C (veil us z0) cs.toList y) (hl : xs.length ≤ 1000000) (n : Nat) (hn : xs.length = n) :
    ∃ v1 w1 a2 c2 w2, (Builtin.append_ #[t, t] t #[.slice (some ⟨z0.heap.size, 0, none⟩) 0 0, .slice sa n cap]).run Try.prog (z0.alloc (.cells #[] e)) = .ok v1 w1 ∧
      (Builtin.append_ #[t, t] t #[v1, .slice (some ⟨w1.heap.size, 0, none⟩) 1 1]).run Try.prog (w1.alloc (.cells cs e)) = .ok (.slice a2 (n + 1) c2) w2 ∧
      Row (veil us w2) a2 c2 (xs ++ [y]) ∧ Below z0.heap.size z0 w1 ∧ Below z0.heap.size z0 w2 := by
  subst hn
  have hb1 := (Below.refl z0.heap.size z0).new (.cells #[] e)
  have h0 : VOwn (veil us z0) z0.heap.size e ([] : List α) (.slice (some ⟨z0.heap.size, 0, none⟩) 0 0) (z0.alloc (.cells #[] e)) := VOwn.made (α := α) (veil us z0) (B := z0.heap.size) (e := e) z0 (Nat.le_refl _)
  obtain ⟨v1, w1, r1, k1, b1, g1, o1⟩ := appAll ht hinfo hzs hby h0 ((veil_keeps us z0).trans (Keeps.of hb1)) hr (by simp; omega) hb1.size
  rw [List.nil_append] at k1
  have hc1 := hb1.trans b1
  have hb3 := hc1.new (.cells cs e)
  obtain ⟨v2, w2, r2, k2, b2, g2⟩ := appLit ht hinfo hzs hby (k1.below ((Below.refl _ _).new (.cells cs e))) hcs (heap_alloc_new w1 _) (by omega) hb3.size
  have hc2 := hb3.trans b2
  obtain ⟨a2, c2, rfl, hr2⟩ := k2.row hu (veil_toR (Fr.of hc2) fun k hk => .inl hk)
  rw [List.length_append, List.length_singleton] at r2
  exact ⟨v1, w1, a2, c2, w2, r1, r2, hr2, hc1, hc2⟩
end
/-! ### the document's state of making -/
def look : List Int → List Int → Int → Option Int
  | v :: vs, r :: rs, n => if v = n then some r else look vs rs n
  | _, _, _ => none
theorem look_none : ∀ (vs rs : List Int) (n : Int), n ∉ vs → look vs rs n = none
  | [], _, n, _ => rfl
  | v :: vs, [], n, _ => rfl
  | v :: vs, r :: rs, n, h => by
    unfold look
    rw [if_neg fun e => h (by rw [e]; exact List.mem_cons_self), look_none vs rs n fun e => h (List.mem_cons_of_mem _ e)]
theorem look_some : ∀ (vs rs : List Int) (n : Int), vs.length = rs.length → n ∈ vs → ∃ h : vs.idxOf n < rs.length, look vs rs n = some rs[vs.idxOf n]
  | [], _, n, _, h => by cases h
  | v :: vs, [], n, h, _ => by cases h
  | v :: vs, r :: rs, n, h, hm => by
    by_cases e : v = n
    · subst e
      exact ⟨by simp, by simp [look]⟩
    · have hm2 : n ∈ vs := by
        rcases List.mem_cons.1 hm with e2 | e2
        · exact absurd e2.symm e
        · exact e2
      obtain ⟨h1, h2⟩ := look_some vs rs n (by simpa using h) hm2
      have hi : (v :: vs).idxOf n = vs.idxOf n + 1 := by
        rw [List.idxOf_cons]
        have e2 : (v == n) = false := by simp [e]
        rw [e2]
        rfl
      refine ⟨by rw [hi]; simp; exact h1, ?_⟩
      unfold look
      rw [if_neg e, h2, ← List.getElem?_eq_getElem h1, ← List.getElem?_eq_getElem (by rw [hi]; simp; exact h1), hi, List.getElem?_cons_succ]
theorem look_snoc : ∀ (vs rs : List Int) (n r : Int), vs.length = rs.length → n ∉ vs → ∀ j, look (vs ++ [n]) (rs ++ [r]) j = if j = n then some r else look vs rs j
  | [], [], n, r, _, _, j => by
    show (if n = j then some r else look [] [] j) = _
    by_cases e : j = n
    · rw [if_pos e, if_pos e.symm]
    · rw [if_neg e, if_neg fun e2 => e e2.symm]
  | [], _ :: _, n, r, h, _, j => by simp at h
  | _ :: _, [], n, r, h, _, j => by simp at h
  | v :: vs, q :: rs, n, r, h, hn, j => by
    have ih := look_snoc vs rs n r (by simpa using h) (fun e => hn (List.mem_cons_of_mem _ e)) j
    show (if v = j then some q else look (vs ++ [n]) (rs ++ [r]) j) = _
    rw [ih]
    by_cases e : j = n
    · rw [if_pos e, if_neg fun e2 => hn (by rw [← e, ← e2]; exact List.mem_cons_self), if_pos e]
    · rw [if_neg e, if_neg e]
      rfl
/-- a maker's numbers -/
structure Bd (m : MkS) (vs rs : List Int) : Prop where
  n0 : 0 ≤ m.next
  n1 : m.next ≤ m.code.length + 10
  len : vs.length = rs.length
  few : vs.length ≤ m.code.length
  at_ : ∀ n, m.at_ n = look vs rs n
structure StR (us : List Nat) (w : World) (ac : Option Addr) (cc : Nat) (av : Option Addr) (cv : Nat) (ar : Option Addr) (cr : Nat) (m : MkS) (vs rs : List Int) : Prop where
  c : Row (veil us w) ac cc m.code
  v : Row (veil us w) av cv vs
  r : Row (veil us w) ar cr rs
theorem StR.to {us us' : List Nat} {w w' : World} {ac av ar : Option Addr} {cc cv cr : Nat} {m : MkS} {vs rs : List Int} (h : StR us w ac cc av cv ar cr m vs rs) (hf : Fr us w w') (hk : ∀ k ∈ us', k ∈ us ∨ w.heap.size ≤ k) : StR us' w' ac cc av cv ar cr m vs rs :=
  ⟨h.c.keeps (veil_toR hf hk), h.v.keeps (veil_toR hf hk), h.r.keeps (veil_toR hf hk)⟩
theorem StR.mono {us us' : List Nat} {w : World} {ac av ar : Option Addr} {cc cv cr : Nat} {m : MkS} {vs rs : List Int} (h : StR us w ac cc av cv ar cr m vs rs) (hk : ∀ k ∈ us', k ∈ us) : StR us' w ac cc av cv ar cr m vs rs :=
  ⟨h.c.keeps (veil_mono w hk), h.v.keeps (veil_mono w hk), h.r.keeps (veil_mono w hk)⟩
end Go.Proofs.Ytmmnfkggfnokjaa
