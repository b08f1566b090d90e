import Derived.Test.YtlddglajdcednaaZr8
import Derived.Deep.Slices
import Derived.Deep.Fields
import Derived.ChangeSame
import Derived.ProofKit
import Derived.OpenShut
import Derived.ShutString
import Derived.ChangeOld
import Derived.Lib.SmallJoins

namespace Go.Proofs.Ytlddglajdcednaa

/-! ### what is told is told once; first parts first -/
theorem ToldF.symm {a b : List Cel} {F : Int → List Cel} (T : ToldF a b F) : ToldF b a F := by
  have e : bothL b a = bothL a b := both_comm b a
  exact ⟨T.alike.symm, by rw [e]; exact T.isT, by
    rw [e]; intro v hv c hc
    have := T.within v hv c hc
    rw [List.mem_append] at this ⊢; exact this.symm, by rw [e]; exact T.twice, by
    rw [e]; intro G hT eG; exact T.most G hT eG.symm, by rw [e]; exact T.least⟩
theorem told_once {a b : List Cel} (ha : IsT a) (hb : IsT b) {F F' : Int → List Cel} (T : ToldF a b F) (T' : ToldF a b F') : ∀ v ∈ bothL a b, F v = F' v :=
  told_turn (two_ok ha hb) T T'.symm
theorem bind_congr {F F' : Int → List Cel} : ∀ vs : List Int, (∀ v ∈ vs, F v = F' v) → bindL F vs = bindL F' vs
  | [], _ => rfl
  | w :: ws, h => by
    have ih := bind_congr ws fun v hv => h v (List.mem_cons_of_mem _ hv)
    unfold bindL at ih ⊢
    rw [List.flatMap_cons, List.flatMap_cons, ih]
    unfold bindC
    rw [h w List.mem_cons_self]
/-- whatever has the told properties is what is told -/
theorem mgu_is {a b : List Cel} (ha : IsT a) (hb : IsT b) {F : Int → List Cel} (T : ToldF a b F) :
    mguL a b = some (if (bothL a b).any (fun v => decide (200 < (F v).length)) then none else some (bindL F (bothL a b))) := by
  rcases mgu_told ha hb with ⟨_, n⟩ | ⟨F', T', e⟩
  · exfalso
    have ina : ∀ c ∈ a, c.k = 1 → c.n ∈ bothL a b := fun c hc hk => mem_both_l (List.mem_append.2 (.inl hc)) hk
    have inb : ∀ c ∈ b, c.k = 1 → c.n ∈ bothL a b := fun c hc hk => mem_both_l (List.mem_append.2 (.inr hc)) hk
    exact n _ (full_isT T.isT) (by rw [put_full a ina, put_full b inb]; exact T.alike)
  · have h := told_once ha hb T' T
    have e1 : (bothL a b).any (fun v => decide (200 < (F' v).length)) = (bothL a b).any (fun v => decide (200 < (F v).length)) := by
      rw [Bool.eq_iff_iff, List.any_eq_true, List.any_eq_true]
      constructor <;> rintro ⟨v, hv, h'⟩ <;> exact ⟨v, hv, by have := h v hv; first | rwa [← this] | rwa [this]⟩
    rw [e, e1, bind_congr _ h]
/-- one after the other -/
theorem put_put (F G : Int → List Cel) : ∀ t : List Cel, putF G (putF F t) = putF (fun v => putF G (F v)) t
  | [] => rfl
  | c :: t => by
    by_cases hk : c.k = 1
    · rw [putF_var F hk, putF_append, put_put F G t, putF_var _ hk]
    · rw [putF_cell F hk, putF_cell G hk, put_put F G t, putF_cell _ hk]
/-- as told, and variables of neither for themselves -/
def ext (F : Int → List Cel) (vs : List Int) (v : Int) : List Cel := if v ∈ vs then F v else [varC v]
theorem ext_at {F : Int → List Cel} {vs : List Int} {v : Int} (h : v ∈ vs) : ext F vs v = F v := if_pos h
theorem ext_not {F : Int → List Cel} {vs : List Int} {v : Int} (h : v ∉ vs) : ext F vs v = [varC v] := if_neg h
theorem put_ext {F : Int → List Cel} {vs : List Int} (t : List Cel) (h : ∀ c ∈ t, c.k = 1 → c.n ∈ vs) : putF (ext F vs) t = putF F t :=
  put_same t fun c hc hk => ext_at (h c hc hk)
theorem put_one (F : Int → List Cel) (v : Int) : putF F [varC v] = F v := by rw [putF_var F (by rfl)]; simp [putF, varC]
theorem put_cells {F : Int → List Cel} {t : List Cel} {c : Cel} (h : c ∈ putF F t) : (c ∈ t ∧ c.k ≠ 1) ∨ ∃ d ∈ t, d.k = 1 ∧ c ∈ F d.n := by
  unfold putF at h
  obtain ⟨d, h1, h2⟩ := List.mem_flatMap.1 h
  split at h2
  · next hk => exact .inr ⟨d, h1, hk, h2⟩
  · next hk => rw [List.mem_singleton.1 h2]; exact .inl ⟨h1, hk⟩
theorem put_isT2 {F : Int → List Cel} {t : List Cel} (ht : IsT t) (h : ∀ c ∈ t, c.k = 1 → IsT (F c.n)) : IsT (putF F t) := by
  have hG : Good t := fun i hi => sk_good t 1 [] ht.reads i (by simpa using hi)
  have hs : subL t 0 = t := by have := sub_first (b := []) ht; rwa [List.append_nil] at this
  have e : putF F t = putF (full F (varsL t)) (subL t 0) := by
    rw [hs]
    exact put_same t fun c hc hk => (full_at (varsL_iff.2 ⟨c, hc, hk, rfl⟩)).symm
  rw [e]
  exact put_isT hG (full_isT fun v hv => by obtain ⟨c, h1, h2, rfl⟩ := varsL_iff.1 hv; exact h c h1 h2) t.length 0 (List.length_pos_iff.2 ht.ne) (by omega)
section
variable {a1 a2 b1 b2 : List Cel} {c : Cel} {F1 F2 : Int → List Cel}
/-- both, one after the other -/
def seqF (F1 F2 : Int → List Cel) (u1 u2 : List Int) (v : Int) : List Cel := putF (ext F2 u2) (ext F1 u1 v)
theorem told_seq (ha1 : IsT a1) (ha2 : IsT a2) (hb1 : IsT b1) (hb2 : IsT b2) (hc : cellOk c = true) (hk : c.k ≠ 1) (har : ar c = 2)
    (T1 : ToldF a1 b1 F1) (T2 : ToldF (putF (ext F1 (bothL a1 b1)) a2) (putF (ext F1 (bothL a1 b1)) b2) F2) :
    ToldF (c :: (a1 ++ a2)) (c :: (b1 ++ b2)) (seqF F1 F2 (bothL a1 b1) (bothL (putF (ext F1 (bothL a1 b1)) a2) (putF (ext F1 (bothL a1 b1)) b2))) := by
  generalize hE1 : ext F1 (bothL a1 b1) = E1 at T2 ⊢
  generalize hU2 : bothL (putF E1 a2) (putF E1 b2) = U2 at ⊢
  generalize hE2 : ext F2 U2 = E2
  have hseq : ∀ v, seqF F1 F2 (bothL a1 b1) U2 v = putF E2 (E1 v) := fun v => by unfold seqF; rw [hE1, hE2]
  have ok1 := two_ok ha1 hb1
  have ok2 := two_ok ha2 hb2
  have okAll : ∀ d ∈ (c :: (a1 ++ a2)) ++ (c :: (b1 ++ b2)), cellOk d = true := by
    intro d hd
    simp only [List.mem_append, List.mem_cons] at hd
    rcases hd with (rfl | h | h) | (rfl | h | h)
    · exact hc
    · exact isT_ok ha1 d h
    · exact isT_ok ha2 d h
    · exact hc
    · exact isT_ok hb1 d h
    · exact isT_ok hb2 d h
  -- where the variables stand
  have inAll : ∀ d, (d ∈ a1 ∨ d ∈ a2 ∨ d ∈ b1 ∨ d ∈ b2) → d ∈ (c :: (a1 ++ a2)) ++ (c :: (b1 ++ b2)) := by
    intro d h
    simp only [List.mem_append, List.mem_cons]
    rcases h with h | h | h | h
    · exact .inl (.inr (.inl h))
    · exact .inl (.inr (.inr h))
    · exact .inr (.inr (.inl h))
    · exact .inr (.inr (.inr h))
  have in1 : ∀ d ∈ a1 ++ b1, d ∈ (c :: (a1 ++ a2)) ++ (c :: (b1 ++ b2)) := fun d hd => inAll d ((List.mem_append.1 hd).elim .inl fun h => .inr (.inr (.inl h)))
  have in2 : ∀ d ∈ a2 ++ b2, d ∈ (c :: (a1 ++ a2)) ++ (c :: (b1 ++ b2)) := fun d hd => inAll d ((List.mem_append.1 hd).elim (fun h => .inr (.inl h)) fun h => .inr (.inr (.inr h)))
  -- E1: of each variable of the whole a term of cells of the whole, whose variables it leaves as they are
  have e1 : ∀ d ∈ (c :: (a1 ++ a2)) ++ (c :: (b1 ++ b2)), d.k = 1 → IsT (E1 d.n) ∧ (∀ x ∈ E1 d.n, x ∈ (c :: (a1 ++ a2)) ++ (c :: (b1 ++ b2))) ∧ (∀ x ∈ E1 d.n, x.k = 1 → E1 x.n = [varC x.n]) := by
    intro d hd hdk
    have hr := var_range (okAll d hd) hdk
    rw [← hE1]
    by_cases h : d.n ∈ bothL a1 b1
    · rw [ext_at h]
      refine ⟨T1.isT _ h, fun x hx => in1 x (T1.within _ h x hx), fun x hx hxk => ?_⟩
      have hxv := mem_both_l (T1.within _ h x hx) hxk
      rw [ext_at hxv, (put_fix (F1 d.n) fun y hy hyk => (T1.isT _ (mem_both_l (T1.within _ h y hy) hyk)).ne).2 (T1.twice _ h) x hx hxk]
      rw [← cellOk_var (ok1 x (T1.within _ h x hx)) hxk]
    · rw [ext_not h]
      refine ⟨isT_var hr.1 hr.2, fun x hx => ?_, fun x hx _ => ?_⟩
      · rw [List.mem_singleton.1 hx, ← cellOk_var (okAll d hd) hdk]; exact hd
      · rw [List.mem_singleton.1 hx]; exact ext_not h
  -- the second pair's cells are cells of the whole, and E1 leaves their variables
  have e2 : ∀ x ∈ putF E1 a2 ++ putF E1 b2, x ∈ (c :: (a1 ++ a2)) ++ (c :: (b1 ++ b2)) ∧ (x.k = 1 → E1 x.n = [varC x.n]) := by
    intro x hx
    have key : ∀ t : List Cel, (∀ d ∈ t, d ∈ a2 ++ b2) → x ∈ putF E1 t → x ∈ (c :: (a1 ++ a2)) ++ (c :: (b1 ++ b2)) ∧ (x.k = 1 → E1 x.n = [varC x.n]) := by
      intro t ht hx
      rcases put_cells hx with ⟨h1, h2⟩ | ⟨d, h1, h2, h3⟩
      · exact ⟨in2 x (ht x h1), fun e => absurd e h2⟩
      · have := e1 d (in2 d (ht d h1)) h2
        exact ⟨this.2.1 x h3, this.2.2 x h3⟩
    rcases List.mem_append.1 hx with h | h
    · exact key a2 (fun d hd => List.mem_append.2 (.inl hd)) h
    · exact key b2 (fun d hd => List.mem_append.2 (.inr hd)) h
  -- E2: the same, of each variable of the whole
  have e3 : ∀ d ∈ (c :: (a1 ++ a2)) ++ (c :: (b1 ++ b2)), d.k = 1 → IsT (E2 d.n) ∧ (∀ x ∈ E2 d.n, x ∈ (c :: (a1 ++ a2)) ++ (c :: (b1 ++ b2))) ∧ (∀ x ∈ E2 d.n, x.k = 1 → E2 x.n = [varC x.n] ∧ (E1 d.n = [varC d.n] → E1 x.n = [varC x.n])) := by
    intro d hd hdk
    have hr := var_range (okAll d hd) hdk
    rw [← hE2]
    by_cases h : d.n ∈ U2
    · rw [ext_at h]
      rw [← hU2] at h
      have hw := fun x (hx : x ∈ F2 d.n) => e2 x (T2.within _ h x hx)
      refine ⟨T2.isT _ h, fun x hx => (hw x hx).1, fun x hx hxk => ⟨?_, fun _ => (hw x hx).2 hxk⟩⟩
      have hxv := mem_both_l (T2.within _ h x hx) hxk
      have hx1 := (put_fix (F2 d.n) fun y hy hyk => (T2.isT _ (mem_both_l (T2.within _ h y hy) hyk)).ne).2 (T2.twice _ h) x hx hxk
      rw [ext_at (by rw [← hU2]; exact hxv), hx1, ← cellOk_var (okAll x (hw x hx).1) hxk]
    · rw [ext_not h]
      refine ⟨isT_var hr.1 hr.2, fun x hx => ?_, fun x hx _ => ?_⟩
      · rw [List.mem_singleton.1 hx, ← cellOk_var (okAll d hd) hdk]; exact hd
      · rw [List.mem_singleton.1 hx]; exact ⟨ext_not h, fun e => e⟩
  have ofv : ∀ v ∈ bothL (c :: (a1 ++ a2)) (c :: (b1 ++ b2)), ∃ d ∈ (c :: (a1 ++ a2)) ++ (c :: (b1 ++ b2)), d.k = 1 ∧ d.n = v := fun v hv => both_iff.1 hv
  have a1in : ∀ d ∈ a1, d.k = 1 → d.n ∈ bothL a1 b1 := fun d hd hk => mem_both_l (List.mem_append.2 (.inl hd)) hk
  have b1in : ∀ d ∈ b1, d.k = 1 → d.n ∈ bothL a1 b1 := fun d hd hk => mem_both_l (List.mem_append.2 (.inr hd)) hk
  have hcomp : ∀ t : List Cel, putF (seqF F1 F2 (bothL a1 b1) U2) t = putF E2 (putF E1 t) := fun t => by
    rw [put_put]
    exact put_same t fun d _ _ => hseq d.n
  refine ⟨?_, fun v hv => ?_, fun v hv x hx => ?_, fun v hv => ?_, fun G hT eG v hv => ?_, fun v hv w hw => ?_⟩
  · rw [hcomp, hcomp, putF_cell E1 hk, putF_cell E1 hk, putF_append, putF_append, putF_cell E2 hk, putF_cell E2 hk, putF_append, putF_append]
    have h1 : putF E1 a1 = putF E1 b1 := by rw [← hE1, put_ext a1 a1in, put_ext b1 b1in]; exact T1.alike
    have h2 : putF E2 (putF E1 a2) = putF E2 (putF E1 b2) := by
      rw [← hE2, ← hU2, put_ext _ (fun d hd hk => mem_both_l (List.mem_append.2 (.inl hd)) hk), put_ext _ (fun d hd hk => mem_both_l (List.mem_append.2 (.inr hd)) hk)]
      exact T2.alike
    rw [h1, h2]
  · obtain ⟨d, hd, hdk, rfl⟩ := ofv v hv
    rw [hseq]
    have h := e1 d hd hdk
    exact put_isT2 h.1 fun x hx hxk => (e3 x (h.2.1 x hx) hxk).1
  · obtain ⟨d, hd, hdk, rfl⟩ := ofv v hv
    rw [hseq] at hx
    have h := e1 d hd hdk
    rcases put_cells hx with ⟨h1, _⟩ | ⟨y, h1, h2, h3⟩
    · exact h.2.1 x h1
    · exact (e3 y (h.2.1 y h1) h2).2.1 x h3
  · obtain ⟨d, hd, hdk, rfl⟩ := ofv v hv
    rw [hseq, hcomp]
    have h := e1 d hd hdk
    have fix : ∀ x ∈ putF E2 (E1 d.n), x ∈ (c :: (a1 ++ a2)) ++ (c :: (b1 ++ b2)) ∧ (x.k = 1 → E1 x.n = [varC x.n] ∧ E2 x.n = [varC x.n]) := by
      intro x hx
      rcases put_cells hx with ⟨h1, h2⟩ | ⟨y, h1, h2, h3⟩
      · exact ⟨h.2.1 x h1, fun e => absurd e h2⟩
      · have h4 := e3 y (h.2.1 y h1) h2
        refine ⟨h4.2.1 x h3, fun hxk => ?_⟩
        have h5 := h4.2.2 x h3 hxk
        exact ⟨h5.2 (h.2.2 y h1 h2), h5.1⟩
    rw [put_id _ (fun x hx => okAll x (fix x hx).1) E1 (fun x hx hxk => ((fix x hx).2 hxk).1), put_id _ (fun x hx => okAll x (fix x hx).1) E2 (fun x hx hxk => ((fix x hx).2 hxk).2)]
  · -- whatever makes alike the whole, makes alike the first parts, then the second ones
    have hG1 : putF G a1 = putF G b1 ∧ putF G a2 = putF G b2 := by
      rw [putF_cell G hk, putF_cell G hk, putF_append, putF_append, List.cons.injEq] at eG
      exact (put_isT2 ha1 fun _ _ _ => hT _).inj (put_isT2 hb1 fun _ _ _ => hT _) eG.2
    have g1 : ∀ d ∈ (c :: (a1 ++ a2)) ++ (c :: (b1 ++ b2)), d.k = 1 → putF G (E1 d.n) = G d.n := by
      intro d _ _
      rw [← hE1]
      by_cases h : d.n ∈ bothL a1 b1
      · rw [ext_at h]; exact T1.most G hT hG1.1 _ h
      · rw [ext_not h, put_one]
    have g2 : ∀ t : List Cel, (∀ d ∈ t, d ∈ a2 ++ b2) → putF G (putF E1 t) = putF G t := by
      intro t ht
      rw [put_put]
      exact put_same t fun d hd hdk => g1 d (in2 d (ht d hd)) hdk
    have g3 : ∀ u, putF G (E2 u) = G u := by
      intro u
      rw [← hE2]
      by_cases h : u ∈ U2
      · rw [ext_at h]
        rw [← hU2] at h
        refine T2.most G hT ?_ _ h
        rw [g2 a2 (fun d hd => List.mem_append.2 (.inl hd)), g2 b2 (fun d hd => List.mem_append.2 (.inr hd))]
        exact hG1.2
      · rw [ext_not h, put_one]
    obtain ⟨d, hd, hdk, rfl⟩ := ofv v hv
    rw [hseq, put_put, put_same (G := G) (E1 d.n) fun x _ _ => g3 x.n]
    exact g1 d hd hdk
  · obtain ⟨d, hd, hdk, rfl⟩ := ofv v hv
    rw [hseq] at hw
    have h := e1 d hd hdk
    have hl := put_len (F := E2) (E1 d.n) fun x hx hxk => (e3 x (h.2.1 x hx) hxk).1.ne
    rw [hw] at hl
    cases hE : E1 d.n with
    | nil => exact absurd hE h.1.ne
    | cons y ys =>
      have hys : ys = [] := List.eq_nil_of_length_eq_zero (by rw [hE] at hl; simp only [List.length_cons, List.length_nil] at hl; omega)
      subst hys
      have hy := h.2.1 y (by rw [hE]; exact List.mem_cons_self)
      rw [hE] at hw
      by_cases hyk : y.k = 1
      · rw [putF_var E2 hyk] at hw
        have hw : E2 y.n = [varC w] := by simpa [putF] using hw
        have hyv := cellOk_var (okAll y hy) hyk
        have l1 : y.n ≤ d.n := by
          rw [← hE1] at hE
          by_cases hm : d.n ∈ bothL a1 b1
          · rw [ext_at hm] at hE
            exact T1.least _ hm _ (by rw [hE, ← hyv])
          · rw [ext_not hm] at hE
            injection hE with hE
            rw [← hE]; exact Int.le_refl _
        have l2 : w ≤ y.n := by
          rw [← hE2] at hw
          by_cases hm : y.n ∈ U2
          · rw [ext_at hm] at hw
            rw [← hU2] at hm
            exact T2.least _ hm _ hw
          · rw [ext_not hm] at hw
            injection hw with hw
            have : y.n = w := congrArg Cel.n hw
            omega
        omega
      · rw [putF_cell E2 hyk] at hw
        injection hw with hw
        rw [hw] at hyk
        exact absurd rfl hyk
end
end Go.Proofs.Ytlddglajdcednaa

namespace Go.Proofs.Ytlddglajdcednaa

/-! ### parts: where there is none; how long -/
section
variable {a1 a2 b1 b2 : List Cel} {c : Cel}
theorem whole_parts (hk : c.k ≠ 1) (ha1 : IsT a1) (hb1 : IsT b1) {G : Int → List Cel} (hT : ∀ v, IsT (G v)) (e : putF G (c :: (a1 ++ a2)) = putF G (c :: (b1 ++ b2))) : putF G a1 = putF G b1 ∧ putF G a2 = putF G b2 := by
  rw [putF_cell G hk, putF_cell G hk, putF_append, putF_append, List.cons.injEq] at e
  exact (put_isT2 ha1 fun _ _ _ => hT _).inj (put_isT2 hb1 fun _ _ _ => hT _) e.2
/-- what is told of a pair makes it alike, as terms everywhere -/
theorem told_full {a b : List Cel} {F : Int → List Cel} (T : ToldF a b F) : (∀ v, IsT (full F (bothL a b) v)) ∧ putF (full F (bothL a b)) a = putF (full F (bothL a b)) b :=
  ⟨full_isT T.isT, by
    rw [put_full a (fun d hd hk => mem_both_l (List.mem_append.2 (.inl hd)) hk), put_full b (fun d hd hk => mem_both_l (List.mem_append.2 (.inr hd)) hk)]
    exact T.alike⟩
/-- none of the first parts: none of the whole -/
theorem parts_none1 (hA : IsT (c :: (a1 ++ a2))) (hB : IsT (c :: (b1 ++ b2))) (hk : c.k ≠ 1) (ha1 : IsT a1) (hb1 : IsT b1) (e : mguL a1 b1 = none) : mguL (c :: (a1 ++ a2)) (c :: (b1 ++ b2)) = none := by
  rcases mgu_told hA hB with ⟨e', _⟩ | ⟨F, T, _⟩
  · exact e'
  · exfalso
    obtain ⟨hT, eq⟩ := told_full T
    rcases mgu_most ha1 hb1 hT (whole_parts hk ha1 hb1 hT eq).1 with h | ⟨B, h, _⟩ <;> rw [e] at h <;> cases h
/-- none of the second parts, with that put in: none of the whole -/
theorem parts_none2 (hA : IsT (c :: (a1 ++ a2))) (hB : IsT (c :: (b1 ++ b2))) (hk : c.k ≠ 1) (ha1 : IsT a1) (hb1 : IsT b1) {F1 : Int → List Cel} (T1 : ToldF a1 b1 F1)
    (h2 : IsT (putF (ext F1 (bothL a1 b1)) a2)) (h3 : IsT (putF (ext F1 (bothL a1 b1)) b2)) (e : mguL (putF (ext F1 (bothL a1 b1)) a2) (putF (ext F1 (bothL a1 b1)) b2) = none) : mguL (c :: (a1 ++ a2)) (c :: (b1 ++ b2)) = none := by
  rcases mgu_told hA hB with ⟨e', _⟩ | ⟨F, T, _⟩
  · exact e'
  · exfalso
    obtain ⟨hT, eq⟩ := told_full T
    obtain ⟨p1, p2⟩ := whole_parts hk ha1 hb1 hT eq
    have g1 : ∀ t : List Cel, putF (full F (bothL (c :: (a1 ++ a2)) (c :: (b1 ++ b2)))) (putF (ext F1 (bothL a1 b1)) t) = putF (full F (bothL (c :: (a1 ++ a2)) (c :: (b1 ++ b2)))) t := by
      intro t
      rw [put_put]
      refine put_same t fun d _ _ => ?_
      by_cases h : d.n ∈ bothL a1 b1
      · rw [ext_at h]; exact T1.most _ hT p1 _ h
      · rw [ext_not h, put_one]
    rcases mgu_most h2 h3 hT (by rw [g1, g1]; exact p2) with h | ⟨B, h, _⟩ <;> rw [e] at h <;> cases h
/-- one after the other is no shorter than the first -/
theorem seq_len {F1 F2 : Int → List Cel} {u1 u2 : List Int} (h2 : ∀ v ∈ u2, IsT (F2 v)) {v : Int} (hv : v ∈ u1) : (F1 v).length ≤ (seqF F1 F2 u1 u2 v).length := by
  unfold seqF
  rw [ext_at hv]
  refine put_len (F1 v) fun d _ _ => ?_
  by_cases h : d.n ∈ u2
  · rw [ext_at h]; exact (h2 _ h).ne
  · rw [ext_not h]; simp
end
/-! ### instances of each other -/
/-- what goes there and back is a renaming -/
theorem back_ren {F G : Int → List Cel} : ∀ b : List Cel, (∀ c ∈ b, cellOk c = true) → (∀ c ∈ b, c.k = 1 → F c.n ≠ []) → (∀ c ∈ putF F b, cellOk c = true) → (∀ c ∈ putF F b, c.k = 1 → G c.n ≠ []) → putF G (putF F b) = b →
    ∀ c ∈ b, c.k = 1 → ∃ w, F c.n = [varC w] ∧ G w = [varC c.n]
  | [], _, _, _, _, _, c, hc, _ => by cases hc
  | c :: b, h1, h2, h3, h4, e, x, hx, hxk => by
    have h1' : ∀ c ∈ b, cellOk c = true := fun d hd => h1 d (List.mem_cons_of_mem _ hd)
    have h2' : ∀ c ∈ b, c.k = 1 → F c.n ≠ [] := fun d hd => h2 d (List.mem_cons_of_mem _ hd)
    have l1 := put_len (F := F) b h2'
    by_cases hk : c.k = 1
    · rw [putF_var F hk] at h3 h4 e
      rw [putF_append] at e
      have h3' : ∀ d ∈ putF F b, cellOk d = true := fun d hd => h3 d (List.mem_append.2 (.inr hd))
      have h4' : ∀ d ∈ putF F b, d.k = 1 → G d.n ≠ [] := fun d hd => h4 d (List.mem_append.2 (.inr hd))
      have l2 := put_len (F := G) (putF F b) h4'
      have l3 := put_len (F := G) (F c.n) fun d hd => h4 d (List.mem_append.2 (.inl hd))
      have hne := List.length_pos_iff.2 (h2 c List.mem_cons_self hk)
      have hl := congrArg List.length e
      rw [List.length_append, List.length_cons] at hl
      cases hF : F c.n with
      | nil => rw [hF] at hne; exact absurd hne (by simp)
      | cons y ys =>
        rw [hF] at l3 hne hl e h3
        have hys : ys = [] := List.eq_nil_of_length_eq_zero (by simp only [List.length_cons] at l3; omega)
        subst hys
        have hy0 := h3 y (by simp)
        by_cases hyk : y.k = 1
        · rw [putF_var G hyk] at e hl l3
          have e0 : putF G ([] : List Cel) = [] := rfl
          rw [e0, List.append_nil] at e hl l3
          cases hG : G y.n with
          | nil => rw [hG] at l3; simp at l3
          | cons z zs =>
            rw [hG] at e hl
            have hzs : zs = [] := List.eq_nil_of_length_eq_zero (by simp only [List.length_cons] at hl; omega)
            subst hzs
            rw [List.cons_append, List.nil_append, List.cons.injEq] at e
            rcases List.mem_cons.1 hx with rfl | hx
            · exact ⟨y.n, by rw [hF, ← cellOk_var hy0 hyk], by rw [hG, e.1, ← cellOk_var (h1 _ List.mem_cons_self) hk]⟩
            · exact back_ren b h1' h2' h3' h4' e.2 x hx hxk
        · rw [putF_cell G hyk] at e
          have : y = c := by
            have := congrArg List.head? e
            simpa using this
          rw [this] at hyk
          exact absurd hk hyk
    · rw [putF_cell F hk] at h3 h4 e
      rw [putF_cell G hk, List.cons.injEq] at e
      rcases List.mem_cons.1 hx with rfl | hx
      · exact absurd hxk hk
      · exact back_ren b h1' h2' (fun d hd => h3 d (List.mem_cons_of_mem _ hd)) (fun d hd => h4 d (List.mem_cons_of_mem _ hd)) e.2 x hx hxk
end Go.Proofs.Ytlddglajdcednaa
namespace Go.Proofs.Ytlddglajdcednaa
open Go.RowKit

/-- variables renamed -/
def renC (g : Int → Int) (c : Cel) : Cel := if c.k = 1 then ⟨c.k, c.s, g c.n⟩ else c
theorem renC_k (g : Int → Int) (c : Cel) : (renC g c).k = c.k := by unfold renC; split <;> rfl
theorem renC_n {g : Int → Int} {c : Cel} (h : c.k = 1) : (renC g c).n = g c.n := by unfold renC; rw [if_pos h]
theorem renC_s (g : Int → Int) (c : Cel) : (renC g c).s = c.s := by unfold renC; split <;> rfl
theorem renC_no {g : Int → Int} {c : Cel} (h : ¬ c.k = 1) : renC g c = c := by unfold renC; rw [if_neg h]
theorem num_ren (vs : List Int) : numC vs = renC (placeI vs) := by funext c; rfl
theorem shift_ren (d : Int) : shiftI d = renC (· + d) := by funext c; rfl
theorem varsGo_ren (g : Int → Int) (S : Int → Prop) (hS : ∀ a b, S a → S b → g a = g b → a = b) (xs : List Cel) : ∀ acc : List Int, (∀ n ∈ acc, S n) → (∀ c ∈ xs, c.k = 1 → S c.n) → varsGo (acc.map g) (xs.map (renC g)) = (varsGo acc xs).map g := by
  induction xs with
  | nil => intro acc _ _; rfl
  | cons c xs ih =>
    intro acc ha hx
    simp only [List.map_cons, varsGo]
    by_cases h1 : c.k = 1
    · have hsc := hx c List.mem_cons_self h1
      have hm : g c.n ∈ acc.map g ↔ c.n ∈ acc := by
        rw [List.mem_map]
        constructor
        · rintro ⟨m, hm, e⟩
          rw [← hS m c.n (ha m hm) hsc e]; exact hm
        · intro h; exact ⟨_, h, rfl⟩
      rw [renC_k, renC_n h1]
      by_cases h2 : c.n ∈ acc
      · rw [if_neg (fun h => h.2 (hm.2 h2)), if_neg (fun h => h.2 h2)]
        exact ih acc ha (fun d hd => hx d (List.mem_cons_of_mem _ hd))
      · rw [if_pos ⟨h1, fun h => h2 (hm.1 h)⟩, if_pos ⟨h1, h2⟩]
        have := ih (acc ++ [c.n]) (by
          intro n hn
          rcases List.mem_append.1 hn with h | h
          · exact ha n h
          · simp at h; subst h; exact hsc) (fun d hd => hx d (List.mem_cons_of_mem _ hd))
        rw [List.map_append] at this
        exact this
    · rw [renC_k, if_neg (fun h => h1 h.1), if_neg (fun h => h1 h.1)]
      exact ih acc ha (fun d hd => hx d (List.mem_cons_of_mem _ hd))
theorem varsL_ren (g : Int → Int) {xs : List Cel} (hS : ∀ a b, a ∈ varsL xs → b ∈ varsL xs → g a = g b → a = b) : varsL (xs.map (renC g)) = (varsL xs).map g :=
  varsGo_ren g (· ∈ varsL xs) hS xs [] (by simp) (fun _ hc h1 => mem_varsL hc h1)
theorem placeI_mem {vs : List Int} {n : Int} (h : n ∈ vs) : placeI vs n = (vs.idxOf n : Int) ∧ vs.idxOf n < vs.length ∧ vs[vs.idxOf n]? = some n := by
  refine ⟨by unfold placeI; rw [if_pos h], List.idxOf_lt_length_of_mem h, ?_⟩
  rw [List.getElem?_eq_getElem (List.idxOf_lt_length_of_mem h), List.getElem_idxOf]
theorem placeI_inj {vs : List Int} {a b : Int} (ha : a ∈ vs) (hb : b ∈ vs) (e : placeI vs a = placeI vs b) : a = b := by
  obtain ⟨a1, a2, a3⟩ := placeI_mem ha
  obtain ⟨b1, b2, b3⟩ := placeI_mem hb
  have : vs.idxOf a = vs.idxOf b := by omega
  rw [this, b3] at a3
  exact (Option.some.inj a3).symm
theorem varsL_nodup (xs : List Cel) : (varsL xs).Nodup := varsGo_nodup xs [] List.nodup_nil
theorem placeI_at {vs : List Int} (h : vs.Nodup) {i : Nat} (hi : i < vs.length) : placeI vs vs[i] = i := by
  unfold placeI
  rw [if_pos (List.getElem_mem hi), h.idxOf_getElem i hi]
/-- 0, 1, and so on -/
def upI (m : Nat) : List Int := (List.range m).map fun (i : Nat) => (i : Int)
theorem upI_length (m : Nat) : (upI m).length = m := by simp [upI]
theorem upI_at {m i : Nat} (h : i < (upI m).length) : (upI m)[i] = i := by simp [upI]
theorem map_place {vs : List Int} (h : vs.Nodup) : vs.map (placeI vs) = upI vs.length := by
  refine List.ext_getElem (by simp [upI]) (fun i h1 h2 => ?_)
  simp at h1
  rw [List.getElem_map, upI_at, placeI_at h h1]
theorem vars_num (xs : List Cel) : varsL (numL xs) = upI (varsL xs).length := by
  unfold numL
  rw [num_ren, varsL_ren _ (fun a b ha hb e => placeI_inj ha hb e), map_place (varsL_nodup xs)]
theorem num_num (xs : List Cel) : numL (numL xs) = numL xs := by
  have hnd := varsL_nodup (numL xs)
  rw [vars_num] at hnd
  show (numL xs).map (numC (varsL (numL xs))) = numL xs
  rw [vars_num]
  unfold numL
  rw [List.map_map]
  refine List.map_congr_left fun c hc => ?_
  show numC _ (numC _ c) = numC _ c
  rw [num_ren, num_ren]
  by_cases h1 : c.k = 1
  · obtain ⟨p1, p2, p3⟩ := placeI_mem (mem_varsL hc h1)
    have hk : (renC (placeI (varsL xs)) c).k = 1 := by rw [renC_k]; exact h1
    have e : placeI (upI (varsL xs).length) (placeI (varsL xs) c.n) = placeI (varsL xs) c.n := by
      rw [p1]
      have := placeI_at hnd (i := (varsL xs).idxOf c.n) (by rw [upI_length]; exact p2)
      rwa [upI_at] at this
    exact (Cel.eq_iff _ _).2 ⟨by rw [renC_k], by rw [renC_s], by rw [renC_n hk, renC_n h1, e]⟩
  · rw [renC_no h1, renC_no h1]
theorem num_alike {xs : List Cel} {c e : Cel} (hc : c ∈ xs) (he : e ∈ xs) : numC (varsL xs) c = numC (varsL xs) e ↔ c = e := by
  rw [num_ren]
  refine ⟨fun h => ?_, fun h => by rw [h]⟩
  have hk : c.k = e.k := by have := congrArg Cel.k h; rwa [renC_k, renC_k] at this
  by_cases h1 : c.k = 1
  · have h2 : e.k = 1 := by rw [← hk]; exact h1
    have hn := congrArg Cel.n h
    rw [renC_n h1, renC_n h2] at hn
    have hs := congrArg Cel.s h
    rw [renC_s, renC_s] at hs
    exact (Cel.eq_iff _ _).2 ⟨hk, hs, placeI_inj (mem_varsL hc h1) (mem_varsL he h2) hn⟩
  · rw [renC_no h1, renC_no (by rw [← hk]; exact h1)] at h
    exact h
theorem placeI_map (g : Int → Int) (hg : ∀ a b, g a = g b → a = b) (l : List Int) (n : Int) : placeI (l.map g) (g n) = placeI l n := by
  unfold placeI
  have hm : g n ∈ l.map g ↔ n ∈ l := by
    rw [List.mem_map]
    exact ⟨fun ⟨m, hm, e⟩ => hg _ _ e ▸ hm, fun h => ⟨n, h, rfl⟩⟩
  have hi : (l.map g).idxOf (g n) = l.idxOf n := by
    induction l with
    | nil => rfl
    | cons a l ih =>
      simp only [List.map_cons, List.idxOf_cons]
      have hb : (g a == g n) = (a == n) := by
        by_cases e : a = n
        · simp [e]
        · have : ¬ g a = g n := fun h => e (hg _ _ h)
          rw [beq_eq_false_iff_ne.2 this, beq_eq_false_iff_ne.2 e]
      have hm' : g n ∈ l.map g ↔ n ∈ l := by
        rw [List.mem_map]
        exact ⟨fun ⟨m, hm, e⟩ => hg _ _ e ▸ hm, fun h => ⟨n, h, rfl⟩⟩
      rw [hb, ih hm']
  by_cases h : n ∈ l
  · rw [if_pos h, if_pos (hm.2 h), hi]
  · rw [if_neg h, if_neg (fun h' => h (hm.1 h'))]
theorem num_shift (xs : List Cel) (d : Int) : numL (xs.map (shiftI d)) = numL xs := by
  unfold numL
  rw [vars_shift, List.map_map]
  refine List.map_congr_left fun c _ => ?_
  show numC _ (shiftI d c) = numC _ c
  rw [num_ren, num_ren, shift_ren]
  by_cases h1 : c.k = 1
  · have hk : (renC (· + d) c).k = 1 := by rw [renC_k]; exact h1
    refine (Cel.eq_iff _ _).2 ⟨by rw [renC_k, renC_k, renC_k], by rw [renC_s, renC_s, renC_s], ?_⟩
    rw [renC_n hk, renC_n h1, renC_n h1]
    exact placeI_map (· + d) (fun a b h => by have h' : a + d = b + d := h; omega) _ _
  · rw [renC_no h1, renC_no h1, renC_no h1]
theorem num_tree {t : Tm} (ht : t.ok) (h200 : t.flat.length ≤ 200) : numL t.flat = (mapT (numC (varsL t.flat)) t).flat ∧ (mapT (numC (varsL t.flat)) t).ok := by
  refine ⟨by unfold numL; rw [mapT_flat], mapT_ok _ t ht fun c hc => ?_⟩
  have hok := ok_cells t ht c hc
  have hvl := varsGo_length t.flat []
  rw [show varsGo [] t.flat = varsL t.flat from rfl, List.length_nil, Nat.zero_add] at hvl
  unfold numC
  by_cases h1 : c.k = 1
  · obtain ⟨p1, p2, _⟩ := placeI_mem (mem_varsL hc h1)
    rw [if_pos h1, p1]
    refine ⟨?_, by simp [ar, h1]⟩
    simp [cellOk, h1] at hok ⊢
    exact ⟨hok.1.1, by omega⟩
  · rw [if_neg h1]; exact ⟨hok, rfl⟩
end Go.Proofs.Ytlddglajdcednaa
namespace Go.Proofs.Ytlddglajdcednaa
open Go.RowKit

/-! ### variants: renamed, it is numbered alike -/
theorem num_ren_on (g : Int → Int) {xs : List Cel} (hS : ∀ a b, a ∈ varsL xs → b ∈ varsL xs → g a = g b → a = b) : numL (xs.map (renC g)) = numL xs := by
  have hnd := varsL_nodup (xs.map (renC g))
  unfold numL
  rw [varsL_ren g hS] at hnd ⊢
  rw [List.map_map]
  refine List.map_congr_left fun c hc => ?_
  show numC _ (renC g c) = numC _ c
  rw [num_ren, num_ren]
  by_cases h1 : c.k = 1
  · obtain ⟨p1, p2, p3⟩ := placeI_mem (mem_varsL hc h1)
    have hk : (renC g c).k = 1 := by rw [renC_k]; exact h1
    refine (Cel.eq_iff _ _).2 ⟨by rw [renC_k, renC_k, renC_k], by rw [renC_s, renC_s, renC_s], ?_⟩
    rw [renC_n hk, renC_n h1, renC_n h1, p1]
    have := placeI_at hnd (i := (varsL xs).idxOf c.n) (by rw [List.length_map]; exact p2)
    rw [List.getElem_map, List.getElem_idxOf] at this
    exact this
  · rw [renC_no h1, renC_no h1, renC_no h1]
theorem put_ren {F : Int → List Cel} {w : Int → Int} : ∀ a : List Cel, (∀ c ∈ a, cellOk c = true) → (∀ c ∈ a, c.k = 1 → F c.n = [varC (w c.n)]) → putF F a = a.map (renC w)
  | [], _, _ => rfl
  | c :: a, h1, h2 => by
    have ih := put_ren a (fun d hd => h1 d (List.mem_cons_of_mem _ hd)) fun d hd => h2 d (List.mem_cons_of_mem _ hd)
    by_cases hk : c.k = 1
    · rw [putF_var F hk, ih, h2 c List.mem_cons_self hk, List.map_cons]
      have e := cellOk_var (h1 c List.mem_cons_self) hk
      have : renC w c = varC (w c.n) := (Cel.eq_iff _ _).2 ⟨by rw [renC_k, hk]; rfl, by rw [renC_s, e]; rfl, by rw [renC_n hk]; rfl⟩
      rw [this]; rfl
    · rw [putF_cell F hk, ih, List.map_cons, renC_no hk]
/-- there and back: numbered alike -/
theorem back_num {F G : Int → List Cel} {b : List Cel} (h1 : ∀ c ∈ b, cellOk c = true) (h2 : ∀ c ∈ b, c.k = 1 → F c.n ≠ []) (h3 : ∀ c ∈ putF F b, cellOk c = true) (h4 : ∀ c ∈ putF F b, c.k = 1 → G c.n ≠ []) (e : putF G (putF F b) = b) : numL (putF F b) = numL b := by
  have hb := back_ren b h1 h2 h3 h4 e
  have hF : ∀ c ∈ b, c.k = 1 → F c.n = [varC (((F c.n).head?.getD (varC 0)).n)] ∧ G (((F c.n).head?.getD (varC 0)).n) = [varC c.n] := fun c hc hk => by
    obtain ⟨w, e1, e2⟩ := hb c hc hk
    rw [e1]
    exact ⟨rfl, e2⟩
  rw [put_ren (w := fun v => ((F v).head?.getD (varC 0)).n) b h1 fun c hc hk => (hF c hc hk).1]
  refine num_ren_on _ fun x y hx hy exy => ?_
  obtain ⟨c, hc, ck, rfl⟩ := varsL_iff.1 hx
  obtain ⟨d, hd, dk, rfl⟩ := varsL_iff.1 hy
  have e1 := (hF c hc ck).2
  have e2 := (hF d hd dk).2
  have exy' : ((F c.n).head?.getD (varC 0)).n = ((F d.n).head?.getD (varC 0)).n := exy
  rw [exy', e2] at e1
  injection e1 with e1
  exact (congrArg Cel.n e1).symm
/-- the other way round: numbered alike, the one is made of the other one by its variables' places -/
theorem ren_by (vs ws : List Int) : ∀ a b : List Cel, a.map (numC vs) = b.map (numC ws) → (∀ c ∈ b, cellOk c = true) → (∀ c ∈ a, c.k = 1 → c.n ∈ vs) → (∀ c ∈ b, c.k = 1 → c.n ∈ ws) → putF (fun v => [varC (ws.getD (vs.idxOf v) 0)]) a = b
  | [], [], _, _, _, _ => rfl
  | [], d :: b, h, _, _, _ => by cases h
  | c :: a, [], h, _, _, _ => by cases h
  | c :: a, d :: b, h, ok, ha, hb => by
    rw [List.map_cons, List.map_cons, List.cons.injEq] at h
    have ih := ren_by vs ws a b h.2 (fun d hd => ok d (List.mem_cons_of_mem _ hd)) (fun d hd => ha d (List.mem_cons_of_mem _ hd)) fun d hd => hb d (List.mem_cons_of_mem _ hd)
    have h0 := h.1
    rw [num_ren, num_ren] at h0
    have hk : c.k = d.k := by have := congrArg Cel.k h0; rwa [renC_k, renC_k] at this
    by_cases h1 : c.k = 1
    · have h2 : d.k = 1 := by rw [← hk]; exact h1
      have hn := congrArg Cel.n h0
      rw [renC_n h1, renC_n h2] at hn
      obtain ⟨a1, _, _⟩ := placeI_mem (ha c List.mem_cons_self h1)
      obtain ⟨b1, b2, b3⟩ := placeI_mem (hb d List.mem_cons_self h2)
      have hi : vs.idxOf c.n = ws.idxOf d.n := by omega
      rw [putF_var _ h1, ih, hi]
      have : ws.getD (ws.idxOf d.n) 0 = d.n := by rw [List.getD_eq_getElem?_getD, b3]; rfl
      rw [this, ← cellOk_var (ok d List.mem_cons_self) h2]; rfl
    · rw [renC_no h1, renC_no (by rw [← hk]; exact h1)] at h0
      rw [putF_cell _ h1, ih, h0]

/-! ### Match -/
theorem sk_pre : ∀ (l : List Cel) (m : Nat) (r : List Cel), sk m l = some r → ∃ pre, l = pre ++ r ∧ sk m pre = some []
  | l, 0, r, h => by
    rw [sk_zero] at h; injection h with h
    exact ⟨[], by rw [h]; rfl, sk_zero _⟩
  | [], m + 1, r, h => by simp [sk] at h
  | c :: l, m + 1, r, h => by
    simp only [sk] at h
    split at h
    · next hc =>
      obtain ⟨pre, h1, h2⟩ := sk_pre l (m + ar c) r h
      exact ⟨c :: pre, by rw [h1]; rfl, by simp only [sk]; rw [if_pos hc]; exact h2⟩
    · cases h
/-- what the images say, where there are some -/
structure ImgOk (p t : List Cel) (f f' : Int → Option (List Cel)) : Prop where
  mono : ∀ v q, f v = some q → f' v = some q
  has : ∀ c ∈ p, c.k = 1 → ∃ q, f' c.n = some q
  isT : (∀ v q, f v = some q → IsT q) → ∀ v q, f' v = some q → IsT q
  len : ∀ k, t.length ≤ k → (∀ v q, f v = some q → q.length ≤ k) → ∀ v q, f' v = some q → q.length ≤ k
  put : putF (fun v => (f' v).getD []) p = t
theorem img_yes : ∀ (p t : List Cel) (m : Nat) (f f' : Int → Option (List Cel)), sk m p = some [] → sk m t = some [] → imgGo p t f = some f' → ImgOk p t f f'
  | [], t, m, f, f', hp, ht, e => by
    have hm : m = 0 := by
      cases m with
      | zero => rfl
      | succ m => simp [sk] at hp
    subst hm
    rw [sk_zero] at ht
    injection ht with ht
    subst ht
    simp only [imgGo] at e
    injection e with e
    subst e
    exact ⟨fun _ _ h => h, by simp, fun h => h, fun _ _ h => h, rfl⟩
  | c :: p, t, m, f, f', hp, ht, e => by
    cases m with
    | zero => simp [sk] at hp
    | succ m =>
      simp only [sk] at hp
      split at hp
      · next hc =>
        simp only [imgGo] at e
        by_cases hk : c.k = 1
        · rw [if_pos hk] at e
          have h0 : ar c = 0 := by unfold ar; rw [if_neg (by omega)]
          rw [h0, Nat.add_zero] at hp
          split at e
          · cases e
          · next r hr =>
            obtain ⟨pre, rfl, hs⟩ := sk_pre t 1 r hr
            have hT := IsT_of_sk hs
            have htake : (pre ++ r).take ((pre ++ r).length - r.length) = pre := by
              rw [List.length_append, Nat.add_sub_cancel]; exact List.take_left' rfl
            rw [htake] at e
            rw [hT] at ht
            split at e
            · next hall =>
              have I := img_yes p r m _ f' hp ht e
              have hcn : f' c.n = some pre := I.mono _ _ (by unfold updF; rw [if_pos rfl])
              refine ⟨fun v q h => I.mono v q ?_, ?_, fun h => I.isT ?_, fun k hk' h => I.len k ?_ ?_, ?_⟩
              · unfold updF
                by_cases hv : v = c.n
                · rw [hv] at h
                  rw [h] at hall
                  have : q = pre := by simpa using hall
                  rw [if_pos hv, this]
                · rw [if_neg hv]; exact h
              · intro d hd hdk
                rcases List.mem_cons.1 hd with rfl | hd
                · exact ⟨pre, hcn⟩
                · exact I.has d hd hdk
              · intro v q hvq
                unfold updF at hvq
                split at hvq
                · injection hvq with hvq; rw [← hvq]; exact hT
                · exact h v q hvq
              · rw [List.length_append] at hk'; omega
              · intro v q hvq
                unfold updF at hvq
                split at hvq
                · injection hvq with hvq; rw [← hvq]; rw [List.length_append] at hk'; omega
                · exact h v q hvq
              · rw [putF_var _ hk, I.put, hcn]; rfl
            · cases e
        · rw [if_neg hk] at e
          split at e
          · cases e
          · next d t' =>
            split at e
            · next hcd =>
              subst hcd
              simp only [sk] at ht
              rw [if_pos hc] at ht
              have I := img_yes p t' (m + ar c) f f' hp ht e
              refine ⟨I.mono, fun d hd hdk => ?_, I.isT, fun k hk' h => I.len k (by simp only [List.length_cons] at hk'; omega) h, ?_⟩
              · rcases List.mem_cons.1 hd with rfl | hd
                · exact absurd hdk hk
                · exact I.has d hd hdk
              · rw [putF_cell _ hk, I.put]
            · cases e
      · cases hp
/-- whatever makes the one the other one: there are images, and they say the same -/
theorem img_made {G : Int → List Cel} (hT : ∀ v, IsT (G v)) : ∀ (p : List Cel) (f : Int → Option (List Cel)), (∀ v q, f v = some q → G v = q) → ∃ f', imgGo p (putF G p) f = some f' ∧ ∀ v q, f' v = some q → G v = q
  | [], f, hf => ⟨f, by simp [imgGo], hf⟩
  | c :: p, f, hf => by
    by_cases hk : c.k = 1
    · have hr : sk 1 (G c.n ++ putF G p) = some (putF G p) := by
        have := hT c.n 0 (putF G p)
        rw [sk_zero] at this
        exact this
      have htake : (G c.n ++ putF G p).take ((G c.n ++ putF G p).length - (putF G p).length) = G c.n := by
        rw [List.length_append, Nat.add_sub_cancel]; exact List.take_left' rfl
      obtain ⟨f', h1, h2⟩ := img_made hT p (updF f c.n (G c.n)) (fun v q h => by
        unfold updF at h
        split at h
        · next hv => injection h with h; rw [hv]; exact h
        · exact hf v q h)
      refine ⟨f', ?_, h2⟩
      rw [putF_var G hk]
      simp only [imgGo]
      rw [if_pos hk, hr]
      simp only [htake]
      rw [if_pos ?_]
      · exact h1
      · cases hfc : f c.n with
        | none => rfl
        | some q => simp [hf _ _ hfc]
    · obtain ⟨f', h1, h2⟩ := img_made hT p f hf
      refine ⟨f', ?_, h2⟩
      rw [putF_cell G hk]
      simp only [imgGo]
      rw [if_neg hk]
      simp only [if_true]
      exact h1
theorem match_told {a b : List Cel} (ra : rightB a = true) (rb : rightB b = true) (h : matchB a b = true) :
    ∃ F, (∀ v ∈ riseI (varsL a), IsT (F v) ∧ (F v).length ≤ 200) ∧ putF F a = b ∧ matchL a b = bindL F (riseI (varsL a)) := by
  unfold matchB at h
  cases e : imgGo a b (fun _ => none) with
  | none => rw [e] at h; cases h
  | some f =>
    have I := img_yes a b 1 _ f (right_sk2 ra) (right_sk2 rb) e
    refine ⟨fun v => (f v).getD [], fun v hv => ?_, I.put, by unfold matchL; rw [e]⟩
    obtain ⟨c, hc, hk, rfl⟩ := varsL_iff.1 (riseI_mem hv)
    obtain ⟨q, hq⟩ := I.has c hc hk
    show IsT ((f c.n).getD []) ∧ ((f c.n).getD []).length ≤ 200
    rw [hq]
    exact ⟨I.isT (fun _ _ h => by cases h) _ _ hq, I.len 200 (isT_of_right rb).2.1 (fun _ _ h => by cases h) _ _ hq⟩
theorem match_of {a b : List Cel} {G : Int → List Cel} (hT : ∀ v, IsT (G v)) (e : putF G a = b) : matchB a b = true := by
  obtain ⟨f', h1, _⟩ := img_made hT a (fun _ => none) (fun _ _ h => by cases h)
  unfold matchB
  rw [← e, h1]; rfl
theorem rise_vars {a : List Cel} {c : Cel} (hc : c ∈ a) (hk : c.k = 1) : c.n ∈ riseI (varsL a) := rise_all (varsL_iff.2 ⟨c, hc, hk, rfl⟩)
theorem match_iff {a b : List Cel} (ra : rightB a = true) (rb : rightB b = true) : matchB a b = true ↔ ∃ G : Int → List Cel, (∀ v, IsT (G v)) ∧ putF G a = b := by
  refine ⟨fun h => ?_, fun ⟨G, hT, e⟩ => match_of hT e⟩
  obtain ⟨F, h1, h2, _⟩ := match_told ra rb h
  exact ⟨full F (riseI (varsL a)), full_isT fun v hv => (h1 v hv).1, by rw [put_full a fun c hc hk => rise_vars hc hk]; exact h2⟩
theorem match_no {a b : List Cel} (h : matchB a b = false) : matchL a b = [] := by
  unfold matchB at h
  unfold matchL
  cases e : imgGo a b (fun _ => none) with
  | none => rfl
  | some f => rw [e] at h; cases h
theorem rise_range {a : List Cel} (ra : rightB a = true) : ∀ v ∈ riseI (varsL a), 0 ≤ v ∧ v ≤ 999 := fun v hv => vars_range ra v (riseI_mem hv)
theorem bind_in {F : Int → List Cel} {vs : List Int} {x : Bnd} (h : x ∈ bindL F vs) : x.v ∈ vs ∧ x.t = F x.v := by
  obtain ⟨v, hv, hx⟩ := List.mem_flatMap.1 h
  unfold bindC at hx
  split at hx
  · cases hx
  · rw [List.mem_singleton.1 hx]; exact ⟨hv, rfl⟩
/-- what is matched is made of the first one -/
theorem match_put {a b : List Cel} (ra : rightB a = true) (rb : rightB b = true) (h : matchB a b = true) :
    putL (look (matchL a b)) a = b ∧ rightS (matchL a b) = true ∧ ∀ x ∈ matchL a b, x.t.length ≤ 200 := by
  obtain ⟨F, h1, h2, h3⟩ := match_told ra rb h
  rw [h3]
  refine ⟨?_, right_bind _ 0 (rise_up _) (rise_range ra) h1, fun x hx => ?_⟩
  · rw [put_bind (fun v hv => (h1 v hv).1) a (right_cells ra) fun c hc hk => rise_vars hc hk]; exact h2
  · obtain ⟨h4, h5⟩ := bind_in hx
    rw [h5]; exact (h1 _ h4).2
theorem ground_iff {b : List Cel} : groundB b = true ↔ ∀ c ∈ b, c.k ≠ 1 := by
  unfold groundB
  rw [List.all_eq_true]
  exact ⟨fun h c hc e => by have := h c hc; simp [e] at this, fun h c hc => by simp [h c hc]⟩
theorem vars_ground {b : List Cel} (h : ∀ c ∈ b, c.k ≠ 1) : varsL b = [] := by
  cases e : varsL b with
  | nil => rfl
  | cons v vs =>
    have : v ∈ varsL b := by rw [e]; exact List.mem_cons_self
    obtain ⟨c, hc, hk, _⟩ := varsL_iff.1 this
    exact absurd hk (h c hc)
/-- one way: Mgu tells what Match does -/
theorem match_ground {a b : List Cel} (ra : rightB a = true) (rb : rightB b = true) (hg : groundB b = true) : mguL a b = if matchB a b then some (some (matchL a b)) else none := by
  have ha := (isT_of_right ra).1
  have hb := (isT_of_right rb).1
  have hg' := ground_iff.1 hg
  have hboth : bothL a b = riseI (varsL a) := by unfold bothL; rw [vars_ground hg', List.append_nil]
  by_cases h : matchB a b = true
  · obtain ⟨F, h1, h2, h3⟩ := match_told ra rb h
    rw [if_pos h, h3]
    have hT := full_isT (F := F) (vs := riseI (varsL a)) fun v hv => (h1 v hv).1
    have e := mgu_ground ha hb hg' hT (by rw [put_full a fun c hc hk => rise_vars hc hk]; exact h2)
    rw [hboth] at e
    rw [e, if_neg ?_, bind_congr _ fun v hv => full_at hv]
    rw [Bool.not_eq_true, List.any_eq_false]
    intro v hv
    rw [full_at hv]
    have := (h1 v hv).2
    simp; omega
  · rw [if_neg h]
    rcases mgu_told ha hb with ⟨e, _⟩ | ⟨F, T, _⟩
    · exact e
    · exact absurd (match_of (full_isT T.isT) (by rw [put_full a fun c hc hk => mem_both_l (List.mem_append.2 (.inl hc)) hk, T.alike, put_ground hg'])) h
/-- each of the two matches the other one just if they are numbered alike -/
theorem match_both {a b : List Cel} (ra : rightB a = true) (rb : rightB b = true) : (matchB a b && matchB b a) = decide (numL a = numL b) := by
  rw [Bool.eq_iff_iff, Bool.and_eq_true, decide_eq_true_iff]
  have oka := right_cells ra
  have okb := right_cells rb
  constructor
  · rintro ⟨h1, h2⟩
    obtain ⟨F, f1, f2⟩ := (match_iff ra rb).1 h1
    obtain ⟨G, g1, g2⟩ := (match_iff rb ra).1 h2
    have := back_num (F := F) (G := G) (b := a) oka (fun c _ _ => (f1 _).ne) (by rw [f2]; exact okb) (fun c _ _ => (g1 _).ne) (by rw [f2]; exact g2)
    rw [f2] at this
    exact this.symm
  · have key : ∀ x y : List Cel, rightB x = true → rightB y = true → numL x = numL y → matchB x y = true := by
      intro x y rx ry e
      have hp := ren_by (varsL x) (varsL y) x y e (right_cells ry) (fun c hc hk => mem_varsL hc hk) fun c hc hk => mem_varsL hc hk
      refine match_of (G := full (fun v => [varC ((varsL y).getD ((varsL x).idxOf v) 0)]) (varsL x)) (full_isT fun v _ => ?_) (by rw [put_full x fun c hc hk => mem_varsL hc hk]; exact hp)
      have hr : 0 ≤ (varsL y).getD ((varsL x).idxOf v) 0 ∧ (varsL y).getD ((varsL x).idxOf v) 0 ≤ 999 := by
        rw [List.getD_eq_getElem?_getD]
        cases hg : (varsL y)[(varsL x).idxOf v]? with
        | none => simp
        | some z => exact vars_range ry z (List.mem_of_getElem? hg)
      exact isT_var hr.1 hr.2
    exact fun e => ⟨key a b ra rb e, key b a rb ra e.symm⟩
end Go.Proofs.Ytlddglajdcednaa
namespace Go.Proofs.Ytlddglajdcednaa
open Go.RowKit

def apB (s : List Bnd) (t : List Cel) : Bool := decide (((putL (look s) t).length : Int) ≤ 200)
def apL (s : List Bnd) (t : List Cel) : List Cel := if apB s t then putL (look s) t else []
theorem apL_yes {s : List Bnd} {t : List Cel} (h : apB s t = true) : apL s t = putL (look s) t := by unfold apL; rw [if_pos h]
theorem apL_no {s : List Bnd} {t : List Cel} (h : apB s t = false) : apL s t = [] := by unfold apL; rw [if_neg (by simp [h])]

set_option maxHeartbeats 800000 in
theorem refapply_any (a : Option Addr) (cap : Nat) (a' : Option Addr) (cap' : Nat) (w : World) (xs : List Bnd) (ys : List Cel) (hx : Row w a cap xs) (hy : Row w a' cap' ys) (hT : ∀ b ∈ xs, b.t.length ≤ 1000) (hl : ys.length ≤ 10000) :
    Calls Try.prog 21 #[.slice a xs.length cap, .slice a' ys.length cap'] w fun e w' => ∃ a2 cap2, e = .returned (.tuple #[.slice a2 (apL xs ys).length cap2, .bool (apB xs ys)]) ∧ NewRow w.heap.size w' a2 cap2 (apL xs ys) ∧ Below w.heap.size w w' := by
  have HT := mkHid hT
  clear hT
  cases h : apB xs ys with
  | true =>
    have H1 := mkHid (apL_yes h)
    have h2 : ((putL (look xs) ys).length : Int) ≤ 200 := by simpa [apB] using h
    clear h
    rw [H1.out]
    go_enter Try.func21, Try.ntmps21
    go_wp2_with (go_at_call 56; refine (refput_any _ cap _ cap' _ xs ys hx hy HT.out hl).mono ?_; rintro e w2 ⟨a2, cap2, rfl, hr2, hb2⟩)
    go_ret2
    exact ⟨_, _, rfl, hr2, hb2⟩
  | false =>
    have H1 := mkHid (apL_no h)
    have h2 : 200 < ((putL (look xs) ys).length : Int) := by simpa [apB] using h
    clear h
    rw [H1.out]
    go_enter Try.func21, Try.ntmps21
    go_wp2_with (go_at_call 56; refine (refput_any _ cap _ cap' _ xs ys hx hy HT.out hl).mono ?_; rintro e w2 ⟨a2, cap2, rfl, hr2, hb2⟩)
    go_ret2
    exact ⟨_, _, rfl, NewRow.empty _ _ _ _ (by omega) (fun _ => rfl), hb2⟩
end Go.Proofs.Ytlddglajdcednaa
namespace Go.Proofs.Ytlddglajdcednaa
open Go.RowKit

theorem Try.infoBind : (Try.prog.info? 39).map (fun i => (i.zero, i.size, i.bytes)) = some (some (.agg #[.int .i64 0, .slice none 0 0]), 2, 32) := by kernel_rfl

def compAt (a b : List Bnd) (v : Int) : Option (List Cel) := match look a v with
  | some t => some (putL (look b) t)
  | none => look b v
def compOut (a b : List Bnd) (v : Int) : List Bnd := match compAt a b v with
  | some t => if ownR v t then [] else [⟨v, t⟩]
  | none => []
def compUp (a b : List Bnd) (k : Nat) : List Bnd := (List.range k).flatMap fun (v : Nat) => compOut a b (v : Int)
def fitAt (a b : List Bnd) (v : Int) : Bool := match look a v with
  | some t => apB b t
  | none => true
def compB (a b : List Bnd) : Bool := (List.range 1000).all fun (v : Nat) => fitAt a b (v : Int)
def compL (a b : List Bnd) : List Bnd := if compB a b then compUp a b 1000 else []
theorem compUp_succ (a b : List Bnd) (k : Nat) : compUp a b (k + 1) = compUp a b k ++ compOut a b (k : Int) := by
  unfold compUp; rw [List.range_succ, List.flatMap_append]; simp
theorem compUp_le (a b : List Bnd) (k : Nat) : (compUp a b k).length ≤ k := by
  induction k with
  | zero => simp [compUp]
  | succ k ih =>
    rw [compUp_succ, List.length_append]
    have : (compOut a b (k : Int)).length ≤ 1 := by
      unfold compOut
      split
      · split <;> simp
      · simp
    omega
theorem fit_next {a b : List Bnd} {k : Nat} (h : (List.range k).all (fun (v : Nat) => fitAt a b (v : Int)) = true) (hk : fitAt a b (k : Int) = true) : (List.range (k + 1)).all (fun (v : Nat) => fitAt a b (v : Int)) = true := by
  rw [List.range_succ, List.all_append, h]; simp [hk]
theorem fit_bad {a b : List Bnd} {k : Nat} (hk : k < 1000) (h : fitAt a b (k : Int) = false) : compB a b = false := by
  unfold compB; rw [List.all_eq_false]; exact ⟨k, List.mem_range.2 hk, by simp [h]⟩

theorem comp_stay {a b : List Bnd} {k : Nat} (h : compOut a b (k : Int) = []) : compUp a b (k + 1) = compUp a b k := by rw [compUp_succ, h, List.append_nil]

structure CompInv (w : World) (xs ys : List Bnd) (k : Nat) (v : Value) (wr : World) : Prop where
  ex : ∃ vs, wr.ownsRow w.heap.size 39 2 v (compUp xs ys k).length vs ∧ CRows (hide v.ownBlock wr) vs (compUp xs ys k)
  fit : (List.range k).all (fun (v : Nat) => fitAt xs ys (v : Int)) = true
theorem CompInv.below {w : World} {xs ys : List Bnd} {k : Nat} {v : Value} {wr w2 : World} (h : CompInv w xs ys k v wr) (hb : Below wr.heap.size wr w2) : CompInv w xs ys k v w2 :=
  let ⟨vs, ho, hc⟩ := h.ex
  ⟨⟨vs, own_below ho hb, hc.keeps (below_hide hb _)⟩, h.fit⟩
theorem CompInv.lt {w : World} {xs ys : List Bnd} {k : Nat} {v : Value} {wr : World} (h : CompInv w xs ys k v wr) : ∀ g, v.ownBlock = some g → g < wr.heap.size :=
  let ⟨_, ho, _⟩ := h.ex; fun g hg => (ho.lt g hg).2
theorem CompInv.stay {w : World} {xs ys : List Bnd} {k : Nat} {v : Value} {wr : World} (h : CompInv w xs ys k v wr) (he : compOut xs ys (k : Int) = []) (hf : fitAt xs ys (k : Int) = true) : CompInv w xs ys (k + 1) v wr :=
  let ⟨vs, ho, hc⟩ := h.ex
  ⟨⟨vs, by rw [comp_stay he]; exact ho, by rw [comp_stay he]; exact hc⟩, fit_next h.fit hf⟩

set_option maxRecDepth 100000 in
set_option maxHeartbeats 3200000 in
theorem refcompose_any (a : Option Addr) (cap : Nat) (a' : Option Addr) (cap' : Nat) (w : World) (xs ys : List Bnd) (hx : Row w a cap xs) (hy : Row w a' cap' ys) (hT : ∀ b ∈ xs, b.t.length ≤ 1000) (hT2 : ∀ b ∈ ys, b.t.length ≤ 1000) :
    Calls Try.prog 27 #[.slice a xs.length cap, .slice a' ys.length cap'] w fun e w' => ∃ a2 cap2, e = .returned (.tuple #[.slice a2 (compL xs ys).length cap2, .bool (compB xs ys)]) ∧ Row w' a2 cap2 (compL xs ys) ∧ Below w.heap.size w w' := by
  have hm0 := World.ownsRow_made (base := w.heap.size) (e := 39) (size := 2) w #[] 0 (Nat.le_refl _) (by unfold maxLen; omega) rfl
  have hb0 := (Below.refl w.heap.size w).new (.cells #[] 39)
  have HT := mkHid hT
  have HT2 := mkHid hT2
  clear hT hT2
  go_enter Try.func27, Try.ntmps27
  go_wp2_with fail
  go_loopw [6, 7, 8, 9, 10, 11, 12] (fun v i _ _ _ _ _ wr => ∃ k : Nat, k ≤ 1000 ∧ i = .int .i64 k ∧ CompInv w xs ys k v wr ∧ Below w.heap.size w wr) (fun v i _ _ _ _ _ wr => 1000 - (intOf i).toNat)
  case atStart => exact ⟨0, Nat.zero_le _, rfl, ⟨⟨[], by simpa [compUp] using hm0, .nil⟩, by simp⟩, hb0⟩
  case round =>
    obtain ⟨k, hk, rfl, HI, hbl⟩ := hrel
    by_cases hlt : k < 1000
    · have hul := compUp_le xs ys k
      have hkr : Hid (-9223372036854775808 ≤ (k : Int) ∧ (k : Int) ≤ 9223372036854775807) := ⟨by omega, by omega⟩
      rcases place_look xs (k : Int) with ⟨hp, hlx, _⟩ | ⟨i, hi, hp, _, hlx⟩
      · rcases place_look ys (k : Int) with ⟨hq, hly, _⟩ | ⟨j, hj, hq, _, hly⟩
        · have HP := mkHid hp
          have HQ := mkHid hq
          have HF : Hid (fitAt xs ys (k : Int) = true) := by rw [Hid]; unfold fitAt; rw [hlx]
          have HO : Hid (compOut xs ys (k : Int) = []) := by rw [Hid]; unfold compOut compAt; rw [hlx]; simp only [hly]
          clear hp hq hlx hly
          go_wp2_with (first
            | (go_at_call 58; (with_reducible refine (place2_any _ cap _ _ xs (hx.below hbl)).mono ?_); rintro e w2 ⟨rfl, hb2⟩; rw [HP.out])
            | (go_at_call 58; (with_reducible refine (place2_any _ cap' _ _ ys ((hy.below hbl).below hb2)).mono ?_); rintro e w3 ⟨rfl, hb3⟩; rw [HQ.out]))
          go_round
          case rel => exact ⟨k + 1, by omega, by go_num, ((HI.below hb2).below hb3).stay HO.out HF.out, (hbl.then hb2).then hb3⟩
          case measure => simp [intOf]; omega
        · obtain ⟨b, off, rfl, hb, hat⟩ := hy.cases.resolve_left (fun e => by simp [e] at hj)
          obtain ⟨a1, cap1, _, z1, hr0, _, _⟩ := bnd_at hat (Below.refl _ _) hj
          have Z1 := mkHid z1
          clear z1
          have hca : compAt xs ys (k : Int) = some ys[j].t := by unfold compAt; rw [hlx]; exact hly
          have HF : Hid (fitAt xs ys (k : Int) = true) := by rw [Hid]; unfold fitAt; rw [hlx]
          have HP := mkHid hp
          have HQ := mkHid hq
          cases hw : ownR (k : Int) ys[j].t with
          | true =>
            have HW := mkHid hw
            have HO : Hid (compOut xs ys (k : Int) = []) := by rw [Hid]; unfold compOut; rw [hca]; simp only [hw, if_true]
            clear hp hlx hq hly hca hw
            go_wp2_with (first
              | (go_at_call 58; (with_reducible refine (place2_any _ cap _ _ xs (hx.below hbl)).mono ?_); rintro e w2 ⟨rfl, hb2⟩; rw [HP.out])
              | (go_at_call 58; (with_reducible refine (place2_any _ cap' _ _ ys ((hy.below hbl).below hb2)).mono ?_); rintro e w3 ⟨rfl, hb3⟩; rw [HQ.out]; have hb3' := hb3.new (.cells #[] 42); have c1 := keep Z1.out ((hbl.then hb2).then hb3); have hr3 := hr0.below ((hbl.then hb2).then hb3); have c1' := keep c1 ((Below.refl _ _).new (.cells #[] 42)))
              | (go_at_call 57; refine (own2_any _ _ _ _ _ (hr3.below ((Below.refl _ _).new _))).mono ?_; rintro e w5 ⟨rfl, hb5⟩; rw [HW.out]))
            go_round
            case rel => exact ⟨k + 1, by omega, by go_num, (((HI.below hb2).below hb3').below hb5).stay HO.out HF.out, ((hbl.then hb2).then hb3').then hb5⟩
            case measure => simp [intOf]; omega
          | false =>
            have HW := mkHid hw
            have HO : Hid (compOut xs ys (k : Int) = [⟨k, ys[j].t⟩]) := by rw [Hid]; unfold compOut; rw [hca]; simp only [hw]; rfl
            clear hp hlx hq hly hca hw
            go_wp2_with (first
              | (go_at_call 58; (with_reducible refine (place2_any _ cap _ _ xs (hx.below hbl)).mono ?_); rintro e w2 ⟨rfl, hb2⟩; rw [HP.out])
              | (go_at_call 58; (with_reducible refine (place2_any _ cap' _ _ ys ((hy.below hbl).below hb2)).mono ?_); rintro e w3 ⟨rfl, hb3⟩; rw [HQ.out]; have hb3' := hb3.new (.cells #[] 42); have c1 := keep Z1.out ((hbl.then hb2).then hb3); have hr3 := hr0.below ((hbl.then hb2).then hb3); have c1' := keep c1 ((Below.refl _ _).new (.cells #[] 42)))
              | (go_at_call 57; refine (own2_any _ _ _ _ _ (hr3.below ((Below.refl _ _).new _))).mono ?_; rintro e w5 ⟨rfl, hb5⟩; rw [HW.out]; have HI5 := ((HI.below hb2).below hb3').below hb5; have hbl5 := ((hbl.then hb2).then hb3').then hb5; obtain ⟨vs, hown5, hc5⟩ := HI5.ex)
              | (at_builtin; refine wpList_app2 rfl _ _ 25 rfl w.heap.size 39 2 32 _ Try.underlying25 Try.infoBind rfl (by decide) (by decide) _ (compUp xs ys k).length _ rfl (hown5.alloc _) ⟨_, 0, none⟩ 1 1 [.int .i64 k, .slice a1 ys[j].t.length cap1] rfl (src_new _ #[.int .i64 k, .slice a1 ys[j].t.length cap1] _ 2 rfl (by simp [Value.oneCell'])) (by omega) (Nat.le_trans hbl5.size (by simp)) ?_; intro v' w6 hown6 _ hb6 hk6))
            go_round
            case rel =>
              refine ⟨k + 1, by omega, by go_num, ⟨⟨_, by rw [compUp_succ, HO.out, List.length_append]; exact hown6, ?_⟩, fit_next HI5.fit HF.out⟩, (hbl5.new _).trans hb6⟩
              rw [compUp_succ, HO.out]
              refine ((hc5.keeps (alloc_hide _ _ _)).keeps hk6).append (CRows.single ⟨⟨a1, cap1, rfl, ?_⟩, hkr.out.1, hkr.out.2⟩)
              exact ((hr0.keeps (fresh_own hbl5 hown5)).keeps (alloc_hide _ _ _)).keeps hk6
            case measure => simp [intOf]; omega
      · have hTi : xs[i].t.length ≤ 10000 := Nat.le_trans (HT.out _ (List.getElem_mem hi)) (by omega)
        obtain ⟨b, off, rfl, hb, hat⟩ := hx.cases.resolve_left (fun e => by simp [e] at hi)
        cases ha : apB ys xs[i].t with
        | false =>
          have HP := mkHid hp
          have HA := mkHid ha
          have hcB : compB xs ys = false := fit_bad hlt (by unfold fitAt; rw [hlx]; exact ha)
          have HE : Hid (compB xs ys = false) := hcB
          have HE2 : Hid (compL xs ys = []) := by rw [Hid]; unfold compL; rw [if_neg (by simp [hcB])]
          clear hp hlx ha hcB
          go_wp2_with (first
            | (go_at_call 58; (with_reducible refine (place2_any _ cap _ _ xs (hx.below hbl)).mono ?_); rintro e w2 ⟨rfl, hb2⟩; rw [HP.out])
            | (go_at_call 58; (with_reducible refine (place2_any _ cap' _ _ ys ((hy.below hbl).below hb2)).mono ?_); rintro e w3 ⟨rfl, hb3⟩; have hb3' := hb3.new (.cells #[] 42); obtain ⟨a1, cap1, c0, c1, hr3, _, _⟩ := bnd_at hat ((hbl.then hb2).then hb3) hi; have c1' := keep c1 ((Below.refl _ _).new (.cells #[] 42)))
            | (go_at_call 21; refine (refapply_any _ cap' _ cap1 _ ys xs[i].t ((((hy.below hbl).below hb2).below hb3).below ((Below.refl _ _).new _)) (hr3.below ((Below.refl _ _).new _)) HT2.out hTi).mono ?_; rintro e w4 ⟨a4, cap4, rfl, hr4, hb4⟩; rw [HA.out]))
          go_ret2
          refine ⟨none, 0, ?_, ?_, ((hbl.then hb2).then hb3').then hb4⟩
          · rw [HE.out, HE2.out]; rfl
          · rw [HE2.out]; exact Row.empty _ _ _ (by omega) (fun _ => rfl)
        | true =>
          have HP := mkHid hp
          have HA := mkHid ha
          have hL := apL_yes ha
          have HF : Hid (fitAt xs ys (k : Int) = true) := by rw [Hid]; unfold fitAt; rw [hlx]; exact ha
          have hca : compAt xs ys (k : Int) = some (apL ys xs[i].t) := by unfold compAt; rw [hlx, hL]
          cases hw : ownR (k : Int) (apL ys xs[i].t) with
          | true =>
            have HW := mkHid hw
            have HO : Hid (compOut xs ys (k : Int) = []) := by rw [Hid]; unfold compOut; rw [hca]; simp only [hw, if_true]
            clear hp hlx ha hL hca hw
            go_wp2_with (first
              | (go_at_call 58; (with_reducible refine (place2_any _ cap _ _ xs (hx.below hbl)).mono ?_); rintro e w2 ⟨rfl, hb2⟩; rw [HP.out])
              | (go_at_call 58; (with_reducible refine (place2_any _ cap' _ _ ys ((hy.below hbl).below hb2)).mono ?_); rintro e w3 ⟨rfl, hb3⟩; have hb3' := hb3.new (.cells #[] 42); obtain ⟨a1, cap1, c0, c1, hr3, _, _⟩ := bnd_at hat ((hbl.then hb2).then hb3) hi; have c1' := keep c1 ((Below.refl _ _).new (.cells #[] 42)))
              | (go_at_call 21; refine (refapply_any _ cap' _ cap1 _ ys xs[i].t ((((hy.below hbl).below hb2).below hb3).below ((Below.refl _ _).new _)) (hr3.below ((Below.refl _ _).new _)) HT2.out hTi).mono ?_; rintro e w4 ⟨a4, cap4, rfl, hr4, hb4⟩; rw [HA.out])
              | (go_at_call 57; refine (own2_any _ _ _ _ _ hr4.row).mono ?_; rintro e w5 ⟨rfl, hb5⟩; rw [HW.out]))
            go_round
            case rel => exact ⟨k + 1, by omega, by go_num, ((((HI.below hb2).below hb3').below hb4).below hb5).stay HO.out HF.out, (((hbl.then hb2).then hb3').then hb4).then hb5⟩
            case measure => simp [intOf]; omega
          | false =>
            have HW := mkHid hw
            have HO : Hid (compOut xs ys (k : Int) = [⟨k, apL ys xs[i].t⟩]) := by rw [Hid]; unfold compOut; rw [hca]; simp only [hw]; rfl
            clear hp hlx ha hL hca hw
            go_wp2_with (first
              | (go_at_call 58; (with_reducible refine (place2_any _ cap _ _ xs (hx.below hbl)).mono ?_); rintro e w2 ⟨rfl, hb2⟩; rw [HP.out])
              | (go_at_call 58; (with_reducible refine (place2_any _ cap' _ _ ys ((hy.below hbl).below hb2)).mono ?_); rintro e w3 ⟨rfl, hb3⟩; have hb3' := hb3.new (.cells #[] 42); obtain ⟨a1, cap1, c0, c1, hr3, _, _⟩ := bnd_at hat ((hbl.then hb2).then hb3) hi; have c1' := keep c1 ((Below.refl _ _).new (.cells #[] 42)))
              | (go_at_call 21; refine (refapply_any _ cap' _ cap1 _ ys xs[i].t ((((hy.below hbl).below hb2).below hb3).below ((Below.refl _ _).new _)) (hr3.below ((Below.refl _ _).new _)) HT2.out hTi).mono ?_; rintro e w4 ⟨a4, cap4, rfl, hr4, hb4⟩; rw [HA.out])
              | (go_at_call 57; refine (own2_any _ _ _ _ _ hr4.row).mono ?_; rintro e w5 ⟨rfl, hb5⟩; rw [HW.out]; have HI5 := (((HI.below hb2).below hb3').below hb4).below hb5; have hbl5 := (((hbl.then hb2).then hb3').then hb4).then hb5; obtain ⟨vs, hown5, hc5⟩ := HI5.ex)
              | (at_builtin; refine wpList_app2 rfl _ _ 25 rfl w.heap.size 39 2 32 _ Try.underlying25 Try.infoBind rfl (by decide) (by decide) _ (compUp xs ys k).length _ rfl (hown5.alloc _) ⟨_, 0, none⟩ 1 1 [.int .i64 k, .slice a4 (apL ys xs[i].t).length cap4] rfl (src_new _ #[.int .i64 k, .slice a4 (apL ys xs[i].t).length cap4] _ 2 rfl (by simp [Value.oneCell'])) (by omega) (Nat.le_trans hbl5.size (by simp)) ?_; intro v' w6 hown6 _ hb6 hk6))
            go_round
            case rel =>
              refine ⟨k + 1, by omega, by go_num, ⟨⟨_, by rw [compUp_succ, HO.out, List.length_append]; exact hown6, ?_⟩, fit_next HI5.fit HF.out⟩, (hbl5.new _).trans hb6⟩
              rw [compUp_succ, HO.out]
              refine ((hc5.keeps (alloc_hide _ _ _)).keeps hk6).append (CRows.single ⟨⟨a4, cap4, rfl, ?_⟩, hkr.out.1, hkr.out.2⟩)
              exact ((((hr4.below hb5).hide (fun g e => by have h1 := HI.lt g e; have h2 := hb2.size; have h3 := hb3'.size; omega))).keeps (alloc_hide _ _ _)).keeps hk6
            case measure => simp [intOf]; omega
    · obtain rfl : k = 1000 := by omega
      have hcB : compB xs ys = true := HI.fit
      have HE : Hid (compB xs ys = true) := hcB
      have HE2 : Hid (compL xs ys = compUp xs ys 1000) := by rw [Hid]; unfold compL; rw [if_pos hcB]
      obtain ⟨vs, hown, hc⟩ := HI.ex
      obtain ⟨a2, cap2, rfl, hrow⟩ := own_rowG (α := Bnd) hown (hc.keeps (hide_keeps _ _))
      clear hcB hown hc HI
      go_wp2_with fail
      go_ret2
      refine ⟨a2, cap2, ?_, ?_, hbl⟩
      · rw [HE.out, HE2.out]; rfl
      · rw [HE2.out]; exact hrow
end Go.Proofs.Ytlddglajdcednaa
namespace Go.Proofs.Ytlddglajdcednaa
open Go.RowKit

/-! ### the most general: whatever bindings -/
def lookF (t : List Bnd) (v : Int) : List Cel := (look t v).getD (selfF v)
theorem lookF_isT {t : List Bnd} (h : ∀ x ∈ t, IsT x.t) (v : Int) : IsT (lookF t v) := by
  unfold lookF
  cases e : look t v with
  | none => exact self_isT v
  | some q => obtain ⟨b, hb, _, rfl⟩ := look_mem e; exact h b hb
theorem self_at {v : Int} (h0 : 0 ≤ v) (h9 : v ≤ 999) : selfF v = [varC v] := by unfold selfF; rw [if_pos ⟨h0, h9⟩]
theorem put_lookF (t : List Bnd) : ∀ u : List Cel, (∀ c ∈ u, cellOk c = true) → putL (look t) u = putF (lookF t) u
  | [], _ => rfl
  | c :: u, h => by
    have ih := put_lookF t u fun d hd => h d (List.mem_cons_of_mem _ hd)
    have hc := h c List.mem_cons_self
    have e : putL (look t) (c :: u) = putC (look t) c ++ putL (look t) u := by unfold putL; rw [List.flatMap_cons]
    rw [e, ih]
    unfold putC
    by_cases hk : c.k = 1
    · have hr := var_range hc hk
      rw [if_pos hk, putF_var _ hk]
      congr 1
      unfold lookF
      cases look t c.n with
      | none => rw [self_at hr.1 hr.2, ← cellOk_var hc hk]; first | done | rfl
      | some q => rfl
    · rw [if_neg hk, putF_cell _ hk]; rfl
theorem rightG_mem : ∀ (s : List Bnd) (m : Int), rightG m s = true → ∀ x ∈ s, m ≤ x.v ∧ x.v ≤ 999 ∧ rightB x.t = true
  | [], _, _, x, hx => by cases hx
  | b :: s, m, h, x, hx => by
    simp only [rightG, Bool.and_eq_true, decide_eq_true_eq] at h
    obtain ⟨⟨⟨⟨h1, h2⟩, h3⟩, _⟩, h5⟩ := h
    rcases List.mem_cons.1 hx with rfl | hx
    · exact ⟨h1, h2, h3⟩
    · have := rightG_mem s _ h5 x hx
      exact ⟨by omega, this.2⟩
theorem most_law {a b : List Cel} (ra : rightB a = true) (rb : rightB b = true) {t : List Bnd} (ht : ∀ x ∈ t, rightB x.t = true) (e : putL (look t) a = putL (look t) b) :
    mguL a b = some none ∨ ∃ B, mguL a b = some (some B) ∧ ∀ x ∈ B, -9223372036854775808 ≤ x.v ∧ x.v ≤ 9223372036854775807 ∧ x.t.length ≤ 200 ∧ putL (look t) x.t = putL (look t) [varC x.v] ∧ (putL (look t) [varC x.v]).length ≤ 200 := by
  have ha := (isT_of_right ra).1
  have hb := (isT_of_right rb).1
  have hT := lookF_isT fun x hx => (isT_of_right (ht x hx)).1
  rcases mgu_most ha hb hT (by rw [← put_lookF t a (right_cells ra), ← put_lookF t b (right_cells rb)]; exact e) with h | ⟨B, h, hB⟩
  · exact .inl h
  · refine .inr ⟨B, h, fun x hx => ?_⟩
    obtain ⟨hr, _, _, _⟩ := mgu_alike ha hb h
    obtain ⟨h0, h9, hxr⟩ := rightG_mem B 0 hr x hx
    have hv : putL (look t) [varC x.v] = lookF t x.v := by
      have hok : ∀ c ∈ [varC x.v], cellOk c = true := isT_ok (isT_var h0 h9)
      rw [put_lookF t _ hok, put_one]
    refine ⟨by omega, by omega, (isT_of_right hxr).2.1, ?_, ?_⟩
    · rw [hv, put_lookF t _ (right_cells hxr)]; exact hB x hx
    · rw [hv]
      unfold lookF
      cases e2 : look t x.v with
      | none => rw [self_at h0 h9]; simp
      | some q => obtain ⟨b', hb', _, rfl⟩ := look_mem e2; exact (isT_of_right (ht b' hb')).2.1

/-! ### apart -/
theorem sk_map {f : Cel → Cel} : ∀ (l : List Cel) (m : Nat), sk m l = some [] → (∀ c ∈ l, cellOk (f c) = true ∧ ar (f c) = ar c) → sk m (l.map f) = some []
  | l, 0, h, _ => by
    rw [sk_zero] at h; injection h with h
    rw [h]; rfl
  | [], m + 1, h, _ => by simp [sk] at h
  | c :: l, m + 1, h, hf => by
    simp only [sk] at h
    split at h
    · obtain ⟨h1, h2⟩ := hf c List.mem_cons_self
      rw [List.map_cons]
      simp only [sk]
      rw [if_pos h1, h2]
      exact sk_map l _ h fun d hd => hf d (List.mem_cons_of_mem _ hd)
    · cases h
theorem right_num {xs : List Cel} (h : rightB xs = true) : rightB (numL xs) = true := by
  obtain ⟨h1, h2, h3⟩ := isT_of_right h
  have hv := varsGo_length xs []
  rw [show varsGo [] xs = varsL xs from rfl, List.length_nil, Nat.zero_add] at hv
  refine right_of (IsT_of_sk ?_) (by unfold numL; rw [List.length_map]; exact h2)
  unfold numL
  refine sk_map xs 1 h1.reads fun c hc => ?_
  have hok := right_cells h c hc
  rw [num_ren]
  by_cases hk : c.k = 1
  · obtain ⟨p1, p2, _⟩ := placeI_mem (mem_varsL hc hk)
    have e := cellOk_var hok hk
    have : renC (placeI (varsL xs)) c = varC (placeI (varsL xs) c.n) := (Cel.eq_iff _ _).2 ⟨by rw [renC_k, hk]; rfl, by rw [renC_s, e]; rfl, by rw [renC_n hk]; rfl⟩
    have hi := isT_ok (isT_var (v := placeI (varsL xs) c.n) (by omega) (by omega)) _ (List.mem_singleton.2 rfl)
    rw [this]
    refine ⟨hi, ?_⟩
    unfold ar varC
    rw [if_neg (show ¬ (1 : Int) = 3 by omega), if_neg (by omega)]
  · rw [renC_no hk]; exact ⟨hok, rfl⟩
theorem num_low {xs : List Cel} (h : xs.length ≤ 30) : ∀ c ∈ numL xs, c.k = 1 → 0 ≤ c.n ∧ c.n < 30 := fun c hc hk => by
  have hm := mem_varsL hc hk
  rw [vars_num] at hm
  unfold upI at hm
  obtain ⟨i, hi, e⟩ := List.mem_map.1 hm
  have hv := varsGo_length xs []
  rw [show varsGo [] xs = varsL xs from rfl, List.length_nil, Nat.zero_add] at hv
  rw [List.mem_range] at hi
  omega
theorem put_part {F : Int → List Cel} : ∀ {t : List Cel} {c : Cel}, c ∈ t → c.k = 1 → (F c.n).length ≤ (putF F t).length ∧ ∀ d ∈ F c.n, d ∈ putF F t
  | [], c, h, _ => by cases h
  | x :: t, c, h, hk => by
    rcases List.mem_cons.1 h with rfl | h
    · rw [putF_var F hk]
      exact ⟨by rw [List.length_append]; omega, fun d hd => List.mem_append.2 (.inl hd)⟩
    · obtain ⟨h1, h2⟩ := put_part (F := F) h hk
      by_cases hx : x.k = 1
      · rw [putF_var F hx]
        exact ⟨by rw [List.length_append]; omega, fun d hd => List.mem_append.2 (.inr (h2 d hd))⟩
      · rw [putF_cell F hx]
        exact ⟨by rw [List.length_cons]; omega, fun d hd => List.mem_cons_of_mem _ (h2 d hd)⟩
theorem apart_told {a b : List Cel} (ra : rightB a = true) (rb : rightB b = true) {G : Int → List Cel} (hT : ∀ v, IsT (G v)) (e1 : putF G a = b) (e2 : putF G b = b) :
    ∃ B, mguL a b = some (some B) ∧ (∀ x ∈ B, x.t.length ≤ 200) ∧ putL (look B) a = putL (look B) b ∧ (putL (look B) b).length ≤ 200 ∧ 0 < (putL (look B) b).length ∧ numL (putL (look B) b) = numL b := by
  have ha := (isT_of_right ra).1
  obtain ⟨hb, lb, lb0⟩ := isT_of_right rb
  rcases mgu_told ha hb with ⟨_, n⟩ | ⟨F, T, e⟩
  · exact absurd (e1.trans e2.symm) (n G hT)
  · have most := T.most G hT (e1.trans e2.symm)
    have low : ∀ v ∈ bothL a b, (F v).length ≤ 200 := by
      intro v hv
      have h1 := put_len (F := G) (F v) fun c _ _ => (hT _).ne
      rw [most v hv] at h1
      obtain ⟨c, hc, hk, rfl⟩ := both_iff.1 hv
      rcases List.mem_append.1 hc with hc | hc
      · have := (put_part (F := G) hc hk).1; rw [e1] at this; omega
      · have := (put_part (F := G) hc hk).1; rw [e2] at this; omega
    have hany : (bothL a b).any (fun v => decide (200 < (F v).length)) = false := by
      rw [List.any_eq_false]
      intro v hv
      have := low v hv
      simp; omega
    have inb : ∀ c ∈ b, c.k = 1 → c.n ∈ bothL a b := fun c hc hk => mem_both_l (List.mem_append.2 (.inr hc)) hk
    have hput : putL (look (bindL F (bothL a b))) b = putF F b := put_bind T.isT b (right_cells rb) inb
    have hback : putF G (putF F b) = b := by
      rw [put_put, put_same (G := G) b fun c hc hk => most _ (inb c hc hk)]; exact e2
    refine ⟨_, by rw [e, hany]; rfl, fun x hx => ?_, (mgu_alike ha hb (by rw [e, hany]; rfl)).2.2.1, ?_, ?_, ?_⟩
    · obtain ⟨h4, h5⟩ := bind_in hx
      rw [h5]; exact low _ h4
    · rw [hput]
      have h1 := put_len (F := G) (putF F b) fun c _ _ => (hT _).ne
      rw [hback] at h1; omega
    · rw [hput]
      have h1 := put_len (F := F) b fun c hc hk => (T.isT _ (inb c hc hk)).ne
      omega
    · rw [hput]
      refine back_num (G := G) (right_cells rb) (fun c hc hk => (T.isT _ (inb c hc hk)).ne) (fun c hc => ?_) (fun c _ _ => (hT _).ne) hback
      rcases put_cells hc with ⟨h, _⟩ | ⟨d, hd, hdk, h⟩
      · exact right_cells rb c h
      · exact two_ok ha hb c (T.within _ (inb d hd hdk) c h)
theorem bind_lone {F : Int → List Cel} {n : Int} (hn : (F n).head? ≠ some ⟨1, ⟨#[]⟩, n⟩) : ∀ vs : List Int, vs.Pairwise (· < ·) → n ∈ vs → (∀ v ∈ vs, v ≠ n → F v = [varC v]) → bindL F vs = [⟨n, F n⟩]
  | [], _, h, _ => by cases h
  | v :: vs, hp, h, hF => by
    obtain ⟨p1, p2⟩ := List.pairwise_cons.1 hp
    have own : ∀ w ∈ v :: vs, w ≠ n → bindC F w = [] := fun w hw hne => by
      unfold bindC
      rw [hF w hw hne]; exact if_pos rfl
    have ecat : bindL F (v :: vs) = bindC F v ++ bindL F vs := by unfold bindL; rw [List.flatMap_cons]
    rw [ecat]
    by_cases hv : v = n
    · subst hv
      have : bindL F vs = [] := by
        unfold bindL
        rw [List.flatMap_eq_nil_iff]
        intro w hw
        exact own w (List.mem_cons_of_mem _ hw) (by have := p1 w hw; omega)
      rw [this]
      unfold bindC
      rw [if_neg hn]; rfl
    · rw [own v List.mem_cons_self hv]
      have hm : n ∈ vs := by
        rcases List.mem_cons.1 h with e | e
        · exact absurd e.symm hv
        · exact e
      exact bind_lone hn vs p2 hm fun w hw => hF w (List.mem_cons_of_mem _ hw)
/-- a variable by itself goes with all -/
theorem apart_var {a : List Cel} (ra : rightB a = true) (h9 : ∀ c ∈ a, c.k = 1 → c.n < 999) : mguL [varC 999] a = some (some [⟨999, a⟩]) := by
  obtain ⟨ha, la, _⟩ := isT_of_right ra
  have hv := isT_var (v := 999) (by omega) (by omega)
  have ok := two_ok hv ha
  have ne : ∀ c ∈ a, c.k = 1 → c.n ≠ 999 := fun c hc hk => by have := h9 c hc hk; omega
  have hF : ∀ v, v ≠ 999 → (fun v => if v = 999 then a else [varC v]) v = [varC v] := fun v h => if_neg h
  have ida : putF (fun v : Int => if v = 999 then a else [varC v]) a = a := put_id a (right_cells ra) _ fun c hc hk => hF _ (ne c hc hk)
  have inn : ∀ v ∈ bothL [varC 999] a, v ≠ 999 → varC v ∈ a := fun v hv hne => by
    obtain ⟨c, hc, hk, rfl⟩ := both_iff.1 hv
    rcases List.mem_append.1 hc with hc | hc
    · rw [List.mem_singleton.1 hc] at hne; exact absurd rfl hne
    · rw [← cellOk_var (right_cells ra c hc) hk]; exact hc
  have T : ToldF [varC 999] a (fun v => if v = 999 then a else [varC v]) := by
    refine ⟨?_, fun v hv => ?_, fun v hv c hc => ?_, fun v hv => ?_, fun G hT eG v hv => ?_, fun v hv w hw => ?_⟩
    · rw [put_one, ida]; exact if_pos rfl
    · by_cases h : v = 999
      · simp only [h, if_true]; exact ha
      · simp only [h, if_false]
        have := var_range (right_cells ra _ (inn v hv h)) rfl
        exact isT_var this.1 this.2
    · by_cases h : v = 999
      · simp only [h, if_true] at hc; exact List.mem_append.2 (.inr hc)
      · simp only [h, if_false] at hc
        rw [List.mem_singleton.1 hc]; exact List.mem_append.2 (.inr (inn v hv h))
    · by_cases h : v = 999
      · simp only [h, if_true]; exact ida
      · simp only [h, if_false]
        rw [put_one]; exact hF v h
    · rw [put_one] at eG
      by_cases h : v = 999
      · simp only [h, if_true]; exact eG.symm
      · simp only [h, if_false]; exact put_one G v
    · by_cases h : v = 999
      · simp only [h, if_true] at hw
        subst h
        have := h9 (varC w) (by rw [hw]; exact List.mem_singleton.2 rfl) rfl
        have : w < 999 := this
        omega
      · simp only [h, if_false] at hw
        injection hw with hw
        have : v = w := congrArg Cel.n hw
        omega
  have e := mgu_is hv ha T
  have hl : bindL (fun v => if v = 999 then a else [varC v]) (bothL [varC 999] a) = [⟨999, (fun v : Int => if v = 999 then a else [varC v]) 999⟩] := bind_lone (n := 999) ?_ (bothL [varC 999] a) (rise_up _) (mem_both_l (List.mem_append.2 (.inl (List.mem_singleton.2 rfl))) rfl) fun v _ h => hF v h
  rw [e, if_neg ?_, hl]
  · simp only [if_true]
  · rw [Bool.not_eq_true, List.any_eq_false]
    intro v _
    by_cases h : v = 999
    · simp only [h, if_true]; simp; omega
    · simp only [h, if_false]; simp
  · simp only [if_true]
    intro h
    cases a with
    | nil => cases h
    | cons x xs =>
      have hx : x = ⟨1, ⟨#[]⟩, 999⟩ := by simpa using h
      exact ne x List.mem_cons_self (by rw [hx]) (by rw [hx])
theorem put_map {F : Int → List Cel} {f : Cel → Cel} (hf : ∀ c : Cel, c.k ≠ 1 → f c = c) : ∀ a : List Cel, (putF F a).map f = putF (fun v => (F v).map f) a
  | [] => rfl
  | c :: a => by
    by_cases hk : c.k = 1
    · rw [putF_var F hk, List.map_append, put_map hf a, putF_var _ hk]
    · rw [putF_cell F hk, List.map_cons, put_map hf a, putF_cell _ hk, hf c hk]
/-- an instance whose variables are shifted away -/
theorem apart_made {a b : List Cel} {t : List Bnd} (ra : rightB a = true) (ha : ∀ c ∈ a, c.k = 1 → c.n < 200) (ht : ∀ x ∈ t, rightB x.t = true) (eb : b = shiftL (apL t a) 200) (hne : b ≠ []) :
    rightB b = true ∧ ∃ G : Int → List Cel, (∀ v, IsT (G v)) ∧ putF G a = b ∧ putF G b = b := by
  have hT := lookF_isT fun x hx => (isT_of_right (ht x hx)).1
  cases hap : apB t a with
  | false =>
    rw [apL_no hap] at eb
    exact absurd (eb.trans (by decide +kernel)) hne
  | true =>
    rw [apL_yes hap, put_lookF t a (right_cells ra)] at eb
    have hok : ∀ c ∈ putF (lookF t) a, cellOk c = true := fun c hc => by
      rcases put_cells hc with ⟨h, _⟩ | ⟨d, _, _, h⟩
      · exact right_cells ra c h
      · exact isT_ok (hT _) c h
    unfold shiftL at eb
    split at eb
    · next hr =>
      rw [map_shift (by omega) fun c hc hk => by have := var_range (hok c hc) hk; omega] at eb hr
      subst eb
      have hrc := right_cells hr
      have hsc : ∀ c ∈ putF (lookF t) a, cellOk (shiftI 200 c) = true := fun c hc => hrc _ (List.mem_map.2 ⟨c, hc, rfl⟩)
      have har : ∀ c : Cel, ar (shiftI 200 c) = ar c := fun c => by
        unfold shiftI
        split
        · next h => unfold ar; rw [if_neg (by show c.k ≠ 3; omega), if_neg (by omega)]
        · rfl
      have hG : ∀ v ∈ varsL a, (fun v => if v ∈ varsL a then (lookF t v).map (shiftI 200) else selfF v) v = (lookF t v).map (shiftI 200) := fun v hv => if_pos hv
      refine ⟨hr, fun v => if v ∈ varsL a then (lookF t v).map (shiftI 200) else selfF v, fun v => ?_, ?_, ?_⟩
      · show IsT (if v ∈ varsL a then (lookF t v).map (shiftI 200) else selfF v)
        by_cases hv : v ∈ varsL a
        · rw [if_pos hv]
          obtain ⟨c, hc, hk, rfl⟩ := varsL_iff.1 hv
          exact IsT_of_sk (sk_map _ 1 (hT c.n).reads fun d hd => ⟨hsc d ((put_part (F := lookF t) hc hk).2 d hd), har d⟩)
        · rw [if_neg hv]; exact self_isT v
      · rw [put_map (fun c hk => by unfold shiftI; rw [if_neg hk])]
        exact put_same a fun c hc hk => hG _ (varsL_iff.2 ⟨c, hc, hk, rfl⟩)
      · refine put_id _ hrc _ fun d hd hk => ?_
        have hr2 := var_range (hrc d hd) hk
        have hn : d.n ∉ varsL a := fun hm => by
          obtain ⟨c, hc, hck, e⟩ := varsL_iff.1 hm
          have h1 := ha c hc hck
          obtain ⟨x, hx, rfl⟩ := List.mem_map.1 hd
          have hxk : x.k = 1 := by
            unfold shiftI at hk
            split at hk
            · next h => exact h
            · exact hk
          have h2 := var_range (hok x hx) hxk
          have h3 : (shiftI 200 x).n = x.n + 200 := by unfold shiftI; rw [if_pos hxk]
          omega
        rw [if_neg hn, self_at hr2.1 hr2.2]
    · exact absurd eb hne
end Go.Proofs.Ytlddglajdcednaa
namespace Go.Proofs.Ytlddglajdcednaa
open Go.RowKit

/-! ### the contracts at answers that are known -/
section
variable {w : World} {a a' : Option Addr} {cap cap' : Nat}
theorem umatch {p t : List Cel} {L : List Bnd} {b : Bool} (hp : Row w a cap p) (ht : Row w a' cap' t) (rp : rightB p = true) (rt : rightB t = true) (hL : matchL p t = L) (hb : matchB p t = b) :
    Calls Try.prog 15 #[.slice a p.length cap, .slice a' t.length cap'] w fun e w' => ∃ a2 cap2, e = .returned (.tuple #[.slice a2 L.length cap2, .bool b]) ∧ Row w' a2 cap2 L ∧ Below w.heap.size w w' := by
  subst hL; subst hb; exact match_any a cap a' cap' w p t hp ht rp rt
theorem uapply {xs : List Bnd} {ys P : List Cel} {b : Bool} (hx : Row w a cap xs) (hy : Row w a' cap' ys) (hT : ∀ b ∈ xs, b.t.length ≤ 200) (hl : ys.length ≤ 200) (hP : apL xs ys = P) (hb : apB xs ys = b) :
    Calls Try.prog 21 #[.slice a xs.length cap, .slice a' ys.length cap'] w fun e w' => ∃ a2 cap2, e = .returned (.tuple #[.slice a2 P.length cap2, .bool b]) ∧ Row w' a2 cap2 P ∧ Below w.heap.size w w' := by
  subst hP; subst hb
  exact (refapply_any a cap a' cap' w xs ys hx hy (fun b hb => Nat.le_trans (hT b hb) (by omega)) (by omega)).mono fun e w' ⟨a2, c2, h1, h2, h3⟩ => ⟨a2, c2, h1, h2.row, h3⟩
theorem usame1 {xs ys : List Cel} {b : Bool} (hx : Row w a cap xs) (hy : Row w a' cap' ys) (h : decide (xs = ys) = b) :
    Calls Try.prog 20 #[.slice a xs.length cap, .slice a' ys.length cap'] w fun e w' => e = .returned (.bool b) ∧ Below w.heap.size w w' := by
  subst h; exact refsame_any a cap a' cap' w xs ys hx hy
theorem usame3 {xs ys : List Bnd} {b : Bool} (hx : Row w a cap xs) (hy : Row w a' cap' ys) (h : decide (xs = ys) = b) :
    Calls Try.prog 17 #[.slice a xs.length cap, .slice a' ys.length cap'] w fun e w' => e = .returned (.bool b) ∧ Below w.heap.size w w' := by
  subst h; exact same3_any a cap a' cap' w xs ys hx hy
theorem uright2 {xs : List Bnd} {b : Bool} (hx : Row w a cap xs) (h : rightS xs = b) :
    Calls Try.prog 22 #[.slice a xs.length cap] w fun e w' => e = .returned (.bool b) ∧ Below w.heap.size w w' := by
  subst h; exact refright2_any a cap w xs hx
theorem uidem {xs : List Bnd} {b : Bool} (hx : Row w a cap xs) (h : idemB xs = b) :
    Calls Try.prog 23 #[.slice a xs.length cap] w fun e w' => e = .returned (.bool b) ∧ Below w.heap.size w w' := by
  subst h; exact refidem_any a cap w xs hx
theorem uground {xs : List Cel} {b : Bool} (hx : Row w a cap xs) (hl : xs.length ≤ 200) (h : groundB xs = b) :
    Calls Try.prog 28 #[.slice a xs.length cap] w fun e w' => e = .returned (.bool b) ∧ Below w.heap.size w w' := by
  subst h; exact refground_any a cap w xs hx (by omega)
theorem uvariant {xs ys : List Cel} {b : Bool} (hx : Row w a cap xs) (hy : Row w a' cap' ys) (h1 : 0 < xs.length) (h2 : 0 < ys.length) (hl : xs.length ≤ 200) (hl2 : ys.length ≤ 200) (h : decide (numL xs = numL ys) = b) :
    Calls Try.prog 18 #[.slice a xs.length cap, .slice a' ys.length cap'] w fun e w' => e = .returned (.bool b) ∧ Below w.heap.size w w' := by
  subst h; exact variant_any a cap a' cap' w xs ys hx hy h1 h2 (by omega) (by omega)
theorem umgu {xs ys : List Cel} {L : List Bnd} {E : Int} (hx : Row w a cap xs) (hy : Row w a' cap' ys) (rx : rightB xs = true) (ry : rightB ys = true) (hL : ansL (mguL xs ys) = L) (hE : ansE (mguL xs ys) = E) :
    Calls Try.prog 13 #[.slice a xs.length cap, .slice a' ys.length cap'] w fun e w' => ∃ a2 cap2, e = .returned (.tuple #[.slice a2 L.length cap2, .int .i64 E]) ∧ Row w' a2 cap2 L ∧ Below w.heap.size w w' := by
  subst hL; subst hE; exact mgu_ans a cap a' cap' w xs ys hx hy rx ry _ rfl
theorem unumber {xs P : List Cel} (hx : Row w a cap xs) (hl : xs.length ≤ 200) (h0 : 0 < xs.length) (hP : numL xs = P) :
    Calls Try.prog 30 #[.slice a xs.length cap] w fun e w' => ∃ a' cap', e = .returned (.slice a' P.length cap') ∧ Row w' a' cap' P ∧ Below w.heap.size w w' := by
  subst hP; exact refnumber_any a cap w xs hx (by omega) h0
theorem ushift {xs P : List Cel} {d : Int} (hx : Row w a cap xs) (hl : xs.length ≤ 200) (h0 : 0 < xs.length) (hP : shiftL xs d = P) :
    Calls Try.prog 29 #[.slice a xs.length cap, .int .i64 d] w fun e w' => ∃ a' cap', e = .returned (.slice a' P.length cap') ∧ Row w' a' cap' P ∧ Below w.heap.size w w' := by
  subst hP; exact refshift_any a cap d w xs hx (by omega) h0
theorem umade {xs : List Cel} {most : Int} (hx : Row w a cap xs) (h1 : 1 ≤ most) (h2 : most ≤ 200) :
    Calls Try.prog 12 #[.slice a xs.length cap, .int .i64 most] w fun e w' => ∃ a' cap' ys, e = .returned (.slice a' ys.length cap') ∧ Row w' a' cap' ys ∧ rightB ys = true ∧ 0 < ys.length ∧ (ys.length : Int) ≤ most ∧ Below w.heap.size w w' := by
  obtain ⟨m, rfl⟩ : ∃ m : Nat, most = (m : Int) := ⟨most.toNat, by omega⟩
  exact (made_any a cap w xs hx m (by omega) (by omega)).mono fun e w' ⟨a2, c2, ys, e1, e2, e3, e4, e5⟩ => ⟨a2, c2, ys, e1, e2, e3, (isT_of_right e3).2.2, by omega, e5⟩
theorem umadeW {xs : List Cel} {most : Int} (hx : Row w a cap xs) (h1 : 1 ≤ most) (h2 : most ≤ 200) :
    Calls Try.prog 12 #[.slice a xs.length cap, .int .i64 most] w fun e w' => ∃ a' cap' ys, e = .returned (.slice a' ys.length cap') ∧ MadeAt w a cap xs w' a' cap' ys ∧ rightB ys = true ∧ 0 < ys.length ∧ (ys.length : Int) ≤ most ∧ Below w.heap.size w w' := by
  obtain ⟨m, rfl⟩ : ∃ m : Nat, most = (m : Int) := ⟨most.toNat, by omega⟩
  exact (made_where a cap w xs hx m (by omega) (by omega)).mono fun e w' ⟨a2, c2, ys, e1, e2, e3, e4, e5⟩ => ⟨a2, c2, ys, e1, e2, e3, (isT_of_right e3).2.2, by omega, e5⟩
end
theorem MadeAt.row {w w' : World} {a a' : Option Addr} {cap cap' : Nat} {xs ys : List Cel} (h : MadeAt w a cap xs w' a' cap' ys) (hx : Row w a cap xs) (hb : Below w.heap.size w w') : Row w' a' cap' ys := by
  rcases h with ⟨rfl, rfl, rfl⟩ | h
  · exact hx.below hb
  · exact h.row
theorem row_one (w : World) (c : Cel) (hf : c.fit) : Row (w.alloc (.cells #[.int .i64 c.k, .string c.s, .int .i64 c.n] 42)) (some ⟨w.heap.size, 0, none⟩) 1 [c] := by
  have h := World.ownsRow_lit (base := w.heap.size) (e := 42) (size := 3) w #[.int .i64 c.k, .string c.s, .int .i64 c.n] 1 (Nat.le_refl _) (by unfold maxLen; omega) rfl
  obtain ⟨a, cap, e, hr⟩ := own_row (xs := [c]) (by simpa [flat] using h) (fun d hd => by rw [List.mem_singleton.1 hd]; exact hf)
  cases e
  exact hr
end Go.Proofs.Ytlddglajdcednaa
namespace Go.Proofs.Ytlddglajdcednaa
open Go.RowKit

/-! ### parts -/
theorem isT_two {c : Cel} {a1 a2 : List Cel} (hc : cellOk c = true) (har : ar c = 2) (h1 : IsT a1) (h2 : IsT a2) : IsT (c :: (a1 ++ a2)) := by
  intro m rest
  rw [List.cons_append]
  simp only [sk]
  rw [if_pos hc, har, List.append_assoc, show m + 2 = (m + 1) + 1 from rfl, h1, h2]
theorem put_ext_bind {F : Int → List Cel} {vs : List Int} (hT : ∀ v ∈ vs, IsT (F v)) : ∀ t : List Cel, (∀ c ∈ t, cellOk c = true) → putL (look (bindL F vs)) t = putF (ext F vs) t
  | [], _ => rfl
  | c :: t, h => by
    have ih := put_ext_bind hT t fun d hd => h d (List.mem_cons_of_mem _ hd)
    have hc := h c List.mem_cons_self
    have e : putL (look (bindL F vs)) (c :: t) = putC (look (bindL F vs)) c ++ putL (look (bindL F vs)) t := by unfold putL; rw [List.flatMap_cons]
    rw [e, ih]
    unfold putC
    by_cases hk : c.k = 1
    · rw [if_pos hk, putF_var _ hk, look_bind]
      congr 1
      by_cases hv : c.n ∈ vs
      · rw [ext_at hv]
        by_cases ho : (F c.n).head? = some ⟨1, ⟨#[]⟩, c.n⟩
        · rw [if_neg (fun h => h.2 ho), (hT _ hv).own ho, ← cellOk_var hc hk]; rfl
        · rw [if_pos ⟨hv, ho⟩]; rfl
      · rw [if_neg (fun h => hv h.1), ext_not hv, ← cellOk_var hc hk]; rfl
    · rw [if_neg hk, putF_cell _ hk]; rfl
theorem ext_isT {F : Int → List Cel} {vs : List Int} (hT : ∀ v ∈ vs, IsT (F v)) {v : Int} (h0 : 0 ≤ v) (h9 : v ≤ 999) : IsT (ext F vs v) := by
  by_cases h : v ∈ vs
  · rw [ext_at h]; exact hT v h
  · rw [ext_not h]; exact isT_var h0 h9
theorem fm_congr {α β : Type} {f g : α → List β} : ∀ l : List α, (∀ x ∈ l, f x = g x) → l.flatMap f = l.flatMap g
  | [], _ => rfl
  | x :: l, h => by rw [List.flatMap_cons, List.flatMap_cons, h x List.mem_cons_self, fm_congr l fun y hy => h y (List.mem_cons_of_mem _ hy)]
/-- a rising row of numbers, one by one -/
theorem rise_flat (f : Int → List Bnd) : ∀ (m : Nat) (k : Nat) (vs : List Int), vs.Pairwise (· < ·) → (∀ v ∈ vs, (k : Int) ≤ v ∧ v < k + m) → (List.range' k m).flatMap (fun (v : Nat) => if (v : Int) ∈ vs then f v else []) = vs.flatMap f
  | 0, k, vs, _, h => by
    cases vs with
    | nil => rfl
    | cons v vs => have := h v List.mem_cons_self; omega
  | m + 1, k, vs, hp, h => by
    rw [List.range'_succ, List.flatMap_cons]
    cases vs with
    | nil =>
      have := rise_flat f m (k + 1) [] hp (by simp)
      rw [this]; rfl
    | cons v vs =>
      obtain ⟨p1, p2⟩ := List.pairwise_cons.1 hp
      have hv := h v List.mem_cons_self
      by_cases e : v = (k : Int)
      · subst e
        rw [if_pos List.mem_cons_self, List.flatMap_cons]
        have ih := rise_flat f m (k + 1) vs p2 fun w hw => by have := p1 w hw; have := (h w (List.mem_cons_of_mem _ hw)).2; omega
        rw [← ih]
        congr 1
        refine fm_congr _ fun x hx => ?_
        have hx := (List.mem_range'_1.1 hx).1
        have : ((x : Int) ∈ (k : Int) :: vs) ↔ (x : Int) ∈ vs := by
          rw [List.mem_cons]
          exact ⟨fun h => h.elim (fun e => by omega) id, .inr⟩
        simp only [this]
      · rw [if_neg ?_, List.nil_append]
        · exact rise_flat f m (k + 1) (v :: vs) hp fun w hw => by
            have h1 := h w hw
            refine ⟨?_, by omega⟩
            rcases List.mem_cons.1 hw with rfl | hw
            · omega
            · have := p1 w hw; omega
        · intro hm
          rcases List.mem_cons.1 hm with h | h
          · exact e h.symm
          · have := p1 _ h; omega
section
variable {a1 a2 b1 b2 : List Cel} {c : Cel} {F1 F2 : Int → List Cel}
/-- too big with the first parts: never well with the whole -/
theorem parts_big (hA : IsT (c :: (a1 ++ a2))) (hB : IsT (c :: (b1 ++ b2))) (hk : c.k ≠ 1) (ha1 : IsT a1) (hb1 : IsT b1) (e : mguL a1 b1 = some none) : ∀ L, mguL (c :: (a1 ++ a2)) (c :: (b1 ++ b2)) ≠ some (some L) := by
  intro L hL
  rcases mgu_told ha1 hb1 with ⟨e', _⟩ | ⟨F1, T1, e1⟩
  · rw [e'] at e; cases e
  · rcases mgu_told hA hB with ⟨e', _⟩ | ⟨F, T, e2⟩
    · rw [e'] at hL; cases hL
    · rw [e1] at e
      rw [e2] at hL
      split at e
      · next hany =>
        split at hL
        · injection hL with hL; cases hL
        · next hno =>
          rw [List.any_eq_true] at hany
          obtain ⟨v, hv, hbig⟩ := hany
          obtain ⟨d, hd, hdk, rfl⟩ := both_iff.1 hv
          have hvw : d.n ∈ bothL (c :: (a1 ++ a2)) (c :: (b1 ++ b2)) := mem_both_l (by
            simp only [List.mem_append, List.mem_cons] at hd ⊢
            rcases hd with h | h
            · exact .inl (.inr (.inl h))
            · exact .inr (.inr (.inl h))) hdk
          obtain ⟨hT, eq⟩ := told_full T
          have hm := T1.most _ hT (whole_parts hk ha1 hb1 hT eq).1 _ hv
          rw [full_at hvw] at hm
          have hl := put_len (F := full F (bothL (c :: (a1 ++ a2)) (c :: (b1 ++ b2)))) (F1 d.n) fun _ _ _ => (hT _).ne
          rw [hm] at hl
          rw [Bool.not_eq_true, List.any_eq_false] at hno
          have := hno _ hvw
          simp at this hbig
          omega
      · injection e with e; cases e
/-- of a variable of the second parts, with the first ones' put in, it tells what they do -/
theorem seq_second (ok : ∀ d ∈ a1 ++ a2 ++ (b1 ++ b2), cellOk d = true) (T1 : ToldF a1 b1 F1) {v : Int} (hv : v ∈ bothL (putF (ext F1 (bothL a1 b1)) a2) (putF (ext F1 (bothL a1 b1)) b2)) :
    v ∈ bothL (c :: (a1 ++ a2)) (c :: (b1 ++ b2)) ∧ ext F1 (bothL a1 b1) v = [varC v] := by
  obtain ⟨x, hx, hxk, rfl⟩ := both_iff.1 hv
  have key : ∃ d ∈ a2 ++ b2, d.k = 1 ∧ x ∈ ext F1 (bothL a1 b1) d.n := by
    rcases List.mem_append.1 hx with h | h
    · rcases put_cells h with ⟨_, h2⟩ | ⟨d, h1, h2, h3⟩
      · exact absurd hxk h2
      · exact ⟨d, List.mem_append.2 (.inl h1), h2, h3⟩
    · rcases put_cells h with ⟨_, h2⟩ | ⟨d, h1, h2, h3⟩
      · exact absurd hxk h2
      · exact ⟨d, List.mem_append.2 (.inr h1), h2, h3⟩
  obtain ⟨d, hd, hdk, hxd⟩ := key
  have okd : cellOk d = true := ok d (by
    simp only [List.mem_append] at hd ⊢
    rcases hd with h | h
    · exact .inl (.inr h)
    · exact .inr (.inr h))
  by_cases h : d.n ∈ bothL a1 b1
  · rw [ext_at h] at hxd
    have hw := T1.within _ h x hxd
    have okx : cellOk x = true := ok x (by
      simp only [List.mem_append] at hw ⊢
      rcases hw with h | h
      · exact .inl (.inl h)
      · exact .inr (.inl h))
    have hxv := mem_both_l hw hxk
    refine ⟨mem_both_l (by
      simp only [List.mem_append, List.mem_cons] at hw ⊢
      rcases hw with h | h
      · exact .inl (.inr (.inl h))
      · exact .inr (.inr (.inl h))) hxk, ?_⟩
    rw [ext_at hxv, (put_fix (F1 d.n) fun y hy hyk => (T1.isT _ (mem_both_l (T1.within _ h y hy) hyk)).ne).2 (T1.twice _ h) x hxd hxk]
    rw [← cellOk_var okx hxk]
  · rw [ext_not h] at hxd
    have hx' := List.mem_singleton.1 hxd
    subst hx'
    rw [← cellOk_var okd hdk]
    refine ⟨mem_both_l (by
      simp only [List.mem_append, List.mem_cons] at hd ⊢
      rcases hd with h | h
      · exact .inl (.inr (.inr h))
      · exact .inr (.inr (.inr h))) hdk, ?_⟩
    rw [ext_not h]
theorem own_is {t : List Cel} (ht : IsT t) {v : Int} : ownR v t = true ↔ t.head? = some ⟨1, ⟨#[]⟩, v⟩ := by
  constructor
  · intro h
    cases t with
    | nil => cases h
    | cons x xs =>
      cases xs with
      | cons y ys => cases h
      | nil =>
        simp only [ownR, Bool.and_eq_true, beq_iff_eq] at h
        have := cellOk_var (isT_ok ht x List.mem_cons_self) h.1
        rw [this, h.2]; rfl
  · intro h
    rw [ht.own h]
    simp [ownR, varC]
/-- composed, the two are what is told of the whole -/
theorem parts_comp (ok : ∀ d ∈ a1 ++ a2 ++ (b1 ++ b2), cellOk d = true) (hcok : cellOk c = true) (hk : c.k ≠ 1) (T1 : ToldF a1 b1 F1) {U2 : List Int} (hU : U2 = bothL (putF (ext F1 (bothL a1 b1)) a2) (putF (ext F1 (bothL a1 b1)) b2))
    (hT2 : ∀ v ∈ U2, IsT (F2 v)) (hl2 : ∀ v ∈ U2, (F2 v).length ≤ 200) (hTs : ∀ v ∈ bothL (c :: (a1 ++ a2)) (c :: (b1 ++ b2)), IsT (seqF F1 F2 (bothL a1 b1) U2 v)) :
    (compB (bindL F1 (bothL a1 b1)) (bindL F2 U2) = !(bothL (c :: (a1 ++ a2)) (c :: (b1 ++ b2))).any (fun v => decide (200 < (seqF F1 F2 (bothL a1 b1) U2 v).length))) ∧
    compUp (bindL F1 (bothL a1 b1)) (bindL F2 U2) 1000 = bindL (seqF F1 F2 (bothL a1 b1) U2) (bothL (c :: (a1 ++ a2)) (c :: (b1 ++ b2))) := by
  have okc : ∀ d ∈ (c :: (a1 ++ a2)) ++ (c :: (b1 ++ b2)), cellOk d = true := by
    intro d hd
    simp only [List.mem_append, List.mem_cons] at hd
    rcases hd with (rfl | h | h) | (rfl | h | h)
    · exact hcok
    · exact ok d (by simp only [List.mem_append]; exact .inl (.inl h))
    · exact ok d (by simp only [List.mem_append]; exact .inl (.inr h))
    · exact hcok
    · exact ok d (by simp only [List.mem_append]; exact .inr (.inl h))
    · exact ok d (by simp only [List.mem_append]; exact .inr (.inr h))
  have range : ∀ v ∈ bothL (c :: (a1 ++ a2)) (c :: (b1 ++ b2)), 0 ≤ v ∧ v ≤ 999 := fun v hv => by
    obtain ⟨d, hd, hdk, rfl⟩ := both_iff.1 hv
    exact var_range (okc d hd) hdk
  have u1in : ∀ v ∈ bothL a1 b1, v ∈ bothL (c :: (a1 ++ a2)) (c :: (b1 ++ b2)) := fun v hv => by
    obtain ⟨d, hd, hdk, rfl⟩ := both_iff.1 hv
    exact mem_both_l (by
      simp only [List.mem_append, List.mem_cons] at hd ⊢
      rcases hd with h | h
      · exact .inl (.inr (.inl h))
      · exact .inr (.inr (.inl h))) hdk
  have u2in : ∀ v ∈ U2, v ∈ bothL (c :: (a1 ++ a2)) (c :: (b1 ++ b2)) := fun v hv => (seq_second (c := c) ok T1 (by rw [← hU]; exact hv)).1
  have u1ok : ∀ v ∈ bothL a1 b1, ∀ x ∈ F1 v, cellOk x = true := fun v hv x hx => ok x (by
    have := T1.within v hv x hx
    simp only [List.mem_append] at this ⊢
    rcases this with h | h
    · exact .inl (.inl h)
    · exact .inr (.inl h))
  generalize hW : bothL (c :: (a1 ++ a2)) (c :: (b1 ++ b2)) = W at *
  generalize hU1 : bothL a1 b1 = U1 at *
  -- the first one's bindings
  have look1 : ∀ v, look (bindL F1 U1) v = if v ∈ U1 ∧ (F1 v).head? ≠ some ⟨1, ⟨#[]⟩, v⟩ then some (F1 v) else none := fun v => look_bind F1 v U1
  have look2 : ∀ v, look (bindL F2 U2) v = if v ∈ U2 ∧ (F2 v).head? ≠ some ⟨1, ⟨#[]⟩, v⟩ then some (F2 v) else none := fun v => look_bind F2 v U2
  have isT1 : ∀ v ∈ U1, IsT (F1 v) := fun v hv => T1.isT v (by rw [hU1]; exact hv)
  have case1 : ∀ v, (v ∈ U1 ∧ (F1 v).head? ≠ some ⟨1, ⟨#[]⟩, v⟩) → putL (look (bindL F2 U2)) (F1 v) = seqF F1 F2 U1 U2 v := fun v h => by
    unfold seqF
    rw [ext_at h.1, put_ext_bind hT2 _ (u1ok v h.1)]
  have case2 : ∀ v, ¬ (v ∈ U1 ∧ (F1 v).head? ≠ some ⟨1, ⟨#[]⟩, v⟩) → seqF F1 F2 U1 U2 v = ext F2 U2 v := fun v h => by
    unfold seqF
    have : ext F1 U1 v = [varC v] := by
      by_cases hv : v ∈ U1
      · rw [ext_at hv]
        by_cases ho : (F1 v).head? = some ⟨1, ⟨#[]⟩, v⟩
        · exact (isT1 v hv).own ho
        · exact absurd ⟨hv, ho⟩ h
      · exact ext_not hv
    rw [this, put_one]
  refine ⟨?_, ?_⟩
  · rw [Bool.eq_iff_iff, Bool.not_eq_true', List.any_eq_false]
    unfold compB
    rw [List.all_eq_true]
    constructor
    · intro h v hv
      obtain ⟨h0, h9⟩ := range v hv
      have h1 := h v.toNat (List.mem_range.2 (by omega))
      rw [Int.toNat_of_nonneg h0] at h1
      unfold fitAt at h1
      rw [look1] at h1
      by_cases hc1 : v ∈ U1 ∧ (F1 v).head? ≠ some ⟨1, ⟨#[]⟩, v⟩
      · rw [if_pos hc1] at h1
        simp only at h1
        unfold apB at h1
        rw [case1 v hc1] at h1
        simp at h1 ⊢; omega
      · rw [case2 v hc1]
        by_cases hv2 : v ∈ U2
        · rw [ext_at hv2]; have := hl2 v hv2; simp; omega
        · rw [ext_not hv2]; simp
    · intro h v hv
      unfold fitAt
      rw [look1]
      by_cases hc1 : (v : Int) ∈ U1 ∧ (F1 v).head? ≠ some ⟨1, ⟨#[]⟩, v⟩
      · rw [if_pos hc1]
        simp only
        unfold apB
        rw [case1 _ hc1]
        have := h _ (u1in _ hc1.1)
        simp at this ⊢; omega
      · rw [if_neg hc1]
  · unfold compUp
    have hpt : ∀ v : Nat, compOut (bindL F1 U1) (bindL F2 U2) (v : Int) = if (v : Int) ∈ W then bindC (seqF F1 F2 U1 U2) v else [] := by
      intro v
      unfold compOut compAt
      rw [look1]
      by_cases hc1 : (v : Int) ∈ U1 ∧ (F1 v).head? ≠ some ⟨1, ⟨#[]⟩, v⟩
      · rw [if_pos hc1]
        simp only
        rw [case1 _ hc1, if_pos (u1in _ hc1.1)]
        unfold bindC
        have hT := hTs _ (u1in _ hc1.1)
        by_cases ho : (seqF F1 F2 U1 U2 v).head? = some ⟨1, ⟨#[]⟩, (v : Int)⟩
        · rw [if_pos ho, if_pos ((own_is hT).2 ho)]
        · rw [if_neg ho, if_neg (fun h => ho ((own_is hT).1 h))]
      · rw [if_neg hc1]
        simp only
        rw [look2]
        by_cases hc2 : (v : Int) ∈ U2 ∧ (F2 v).head? ≠ some ⟨1, ⟨#[]⟩, v⟩
        · rw [if_pos hc2]
          simp only
          rw [if_pos (u2in _ hc2.1)]
          unfold bindC
          rw [case2 _ hc1, ext_at hc2.1, if_neg (fun h => hc2.2 ((own_is (hT2 _ hc2.1)).1 h)), if_neg hc2.2]
        · rw [if_neg hc2]
          simp only
          by_cases hw : (v : Int) ∈ W
          · rw [if_pos hw]
            unfold bindC
            rw [case2 _ hc1]
            have : ext F2 U2 (v : Int) = [varC v] := by
              by_cases hv : (v : Int) ∈ U2
              · rw [ext_at hv]
                by_cases ho : (F2 v).head? = some ⟨1, ⟨#[]⟩, (v : Int)⟩
                · exact (hT2 _ hv).own ho
                · exact absurd ⟨hv, ho⟩ hc2
              · exact ext_not hv
            rw [this]; exact (if_pos rfl).symm
          · rw [if_neg hw]
    have e1 : (List.range 1000).flatMap (fun (v : Nat) => compOut (bindL F1 U1) (bindL F2 U2) (v : Int)) = (List.range' 0 1000).flatMap (fun (v : Nat) => if (v : Int) ∈ W then bindC (seqF F1 F2 U1 U2) v else []) := by
      rw [List.range_eq_range']
      congr 1
      funext v
      exact hpt v
    rw [e1]
    exact rise_flat (bindC (seqF F1 F2 U1 U2)) 1000 0 W (by rw [← hW]; exact rise_up _) fun v hv => by have := range v hv; omega
/-- the law of parts: what is told of the whole, by what is told of the parts -/
theorem parts_law (ra1 : rightB a1 = true) (ra2 : rightB a2 = true) (rb1 : rightB b1 = true) (rb2 : rightB b2 = true) (hcok : cellOk c = true) (har : ar c = 2) (hk : c.k ≠ 1) {B1 : List Bnd} (e1 : mguL a1 b1 = some (some B1)) :
    (∀ x ∈ B1, x.t.length ≤ 200) ∧
    ((putL (look B1) a2).length ≤ 200 → (putL (look B1) b2).length ≤ 200 →
      rightB (putL (look B1) a2) = true ∧ rightB (putL (look B1) b2) = true ∧
      (mguL (putL (look B1) a2) (putL (look B1) b2) = none → mguL (c :: (a1 ++ a2)) (c :: (b1 ++ b2)) = none) ∧
      (mguL (putL (look B1) a2) (putL (look B1) b2) = some none → mguL (c :: (a1 ++ a2)) (c :: (b1 ++ b2)) = some none) ∧
      ∀ B2, mguL (putL (look B1) a2) (putL (look B1) b2) = some (some B2) → (∀ x ∈ B2, x.t.length ≤ 200) ∧ mguL (c :: (a1 ++ a2)) (c :: (b1 ++ b2)) = some (if compB B1 B2 then some (compL B1 B2) else none)) := by
  obtain ⟨ha1, _, _⟩ := isT_of_right ra1
  obtain ⟨ha2, _, _⟩ := isT_of_right ra2
  obtain ⟨hb1, _, _⟩ := isT_of_right rb1
  obtain ⟨hb2, _, _⟩ := isT_of_right rb2
  have hA := isT_two hcok har ha1 ha2
  have hB := isT_two hcok har hb1 hb2
  have ok : ∀ d ∈ a1 ++ a2 ++ (b1 ++ b2), cellOk d = true := by
    intro d hd
    simp only [List.mem_append] at hd
    rcases hd with (h | h) | (h | h)
    · exact isT_ok ha1 d h
    · exact isT_ok ha2 d h
    · exact isT_ok hb1 d h
    · exact isT_ok hb2 d h
  rcases mgu_told ha1 hb1 with ⟨e', _⟩ | ⟨F1, T1, e'⟩
  · rw [e'] at e1; cases e1
  · rw [e'] at e1
    injection e1 with e1
    split at e1
    · cases e1
    · next hno1 =>
      injection e1 with e1
      subst e1
      rw [Bool.not_eq_true, List.any_eq_false] at hno1
      have hl1 : ∀ v ∈ bothL a1 b1, (F1 v).length ≤ 200 := fun v hv => by have := hno1 v hv; simp at this; omega
      refine ⟨fun x hx => by obtain ⟨h4, h5⟩ := bind_in hx; rw [h5]; exact hl1 _ h4, fun l1 l2 => ?_⟩
      rw [put_ext_bind T1.isT a2 (isT_ok ha2)] at l1 ⊢
      rw [put_ext_bind T1.isT b2 (isT_ok hb2)] at l2 ⊢
      have hp : IsT (putF (ext F1 (bothL a1 b1)) a2) := put_isT2 ha2 fun d hd hdk => by have := var_range (isT_ok ha2 d hd) hdk; exact ext_isT T1.isT this.1 this.2
      have hq : IsT (putF (ext F1 (bothL a1 b1)) b2) := put_isT2 hb2 fun d hd hdk => by have := var_range (isT_ok hb2 d hd) hdk; exact ext_isT T1.isT this.1 this.2
      refine ⟨right_of hp l1, right_of hq l2, fun e => parts_none2 hA hB hk ha1 hb1 T1 hp hq e, fun e => ?_, fun B2 e => ?_⟩
      · rcases mgu_told hp hq with ⟨e', _⟩ | ⟨F2, T2, e'⟩
        · rw [e'] at e; cases e
        · rw [e'] at e
          injection e with e
          split at e
          · next hany =>
            have T := told_seq ha1 ha2 hb1 hb2 hcok hk har T1 T2
            rw [mgu_is hA hB T, if_pos ?_]
            rw [List.any_eq_true] at hany ⊢
            obtain ⟨v, hv, hbig⟩ := hany
            obtain ⟨s1, s2⟩ := seq_second (c := c) ok T1 hv
            refine ⟨v, s1, ?_⟩
            unfold seqF
            rw [s2, put_one, ext_at hv]
            exact hbig
          · cases e
      · rcases mgu_told hp hq with ⟨e', _⟩ | ⟨F2, T2, e'⟩
        · rw [e'] at e; cases e
        · rw [e'] at e
          injection e with e
          split at e
          · cases e
          · next hno2 =>
            injection e with e
            subst e
            rw [Bool.not_eq_true, List.any_eq_false] at hno2
            have hl2 : ∀ v ∈ bothL (putF (ext F1 (bothL a1 b1)) a2) (putF (ext F1 (bothL a1 b1)) b2), (F2 v).length ≤ 200 := fun v hv => by have := hno2 v hv; simp at this; omega
            have T := told_seq ha1 ha2 hb1 hb2 hcok hk har T1 T2
            obtain ⟨c1, c2⟩ := parts_comp (F2 := F2) ok hcok hk T1 rfl T2.isT hl2 T.isT
            refine ⟨fun x hx => by obtain ⟨h4, h5⟩ := bind_in hx; rw [h5]; exact hl2 _ h4, ?_⟩
            rw [mgu_is hA hB T, c1]
            unfold compL
            rw [c1, c2]
            cases (bothL (c :: (a1 ++ a2)) (c :: (b1 ++ b2))).any (fun v => decide (200 < (seqF F1 F2 (bothL a1 b1) (bothL (putF (ext F1 (bothL a1 b1)) a2) (putF (ext F1 (bothL a1 b1)) b2)) v).length)) <;> rfl
end
end Go.Proofs.Ytlddglajdcednaa
namespace Go.Proofs.Ytlddglajdcednaa
open Go.RowKit Go.ChangeShapes Go.WideShapes Go.Deep Go.ChangeAt

theorem Try.own : ownKnob Try.prog.godebug = none := by kernel_rfl
theorem Try.laidOut : laidOutB Try.prog = true := by kernel_rfl
theorem Try.cells42 : Try.prog.cellsOf 42 = 3 := by kernel_rfl
theorem Try.cells22 : Try.prog.cellsOf 22 = 1 := by kernel_rfl
theorem Try.cells3 : Try.prog.cellsOf 3 = 1 := by kernel_rfl
theorem Try.cells9 : Try.prog.cellsOf 9 = 1 := by kernel_rfl

theorem i64_wf {n : Int} (h : (Lit.int .i64 n).wf = true) : -9223372036854775808 ≤ n ∧ n ≤ 9223372036854775807 := by
  simp [Lit.wf, IntKind.min, IntKind.max, IntKind.signed, IntKind.bits] at h
  omega
theorem add_lit (b o j : Nat) : (Addr.mk b o none).add j = ⟨b, o + j, none⟩ := by unfold Addr.add; split <;> simp_all

section
variable {H : Type} {enc : TypeId × Value → H} {w : World} {spare : Nat → Bool} {held : Bool}
set_option maxRecDepth 100000 in
/-- three cells that read as a cell of a term -/
theorem open_cell {n : Nat} {cs : List Value} {x : DataW H × List MemPlace} (h : DataW.trod enc Try.prog w 0 spare held n 42 cs = some x) :
    ∃ c : Cel, cs = [.int .i64 c.k, .string c.s, .int .i64 c.n] ∧ c.fit := by
  obtain ⟨ys, m, _, _, hlen, hyl, hf⟩ := DataW.trod_struct Try.underlying42 h
  rw [Try.cells42] at hlen
  match cs, hlen with
  | [v0, v1, v2], _ =>
    have h0 : DataW.trod enc Try.prog w 0 spare held m 3 (([v0, v1, v2].drop 0).take (Try.prog.cellsOf 3)) = ys[0]? := hf 0 _ rfl
    have h1 : DataW.trod enc Try.prog w 0 spare held m 9 (([v0, v1, v2].drop 1).take (Try.prog.cellsOf 9)) = ys[1]? := hf 1 _ rfl
    have h2 : DataW.trod enc Try.prog w 0 spare held m 3 (([v0, v1, v2].drop 2).take (Try.prog.cellsOf 3)) = ys[2]? := hf 2 _ rfl
    rw [Try.cells3] at h0 h2
    rw [Try.cells9] at h1
    have hy : ∀ i : Nat, i < 3 → ∃ y, ys[i]? = some y := fun i hi => ⟨_, List.getElem?_eq_getElem (by rw [hyl]; exact hi)⟩
    obtain ⟨y0, e0⟩ := hy 0 (by omega)
    obtain ⟨y1, e1⟩ := hy 1 (by omega)
    obtain ⟨y2, e2⟩ := hy 2 (by omega)
    rw [e0] at h0
    rw [e1] at h1
    rw [e2] at h2
    obtain ⟨a0, q0, _, f0⟩ := DataW.trod_int Try.underlying3 h0
    obtain ⟨a1, q1, _, f1⟩ := DataW.trod_string Try.underlying9 h1
    obtain ⟨a2, q2, _, f2⟩ := DataW.trod_int Try.underlying3 h2
    simp at q0 q1 q2
    refine ⟨⟨a0, a1, a2⟩, by rw [q0, q1, q2], ⟨(i64_wf f0).1, (i64_wf f0).2, (i64_wf f2).1, (i64_wf f2).2, by unfold maxLen at f1; exact f1⟩⟩

/-- what rows of a kind are made of -/
theorem open_rows {α : Type} [Rep α] {t e : TypeId} (ht : Try.prog.underlying t = some (.slice e)) (hC : Try.prog.cellsOf e = Rep.sz α)
    (hE : ∀ (n : Nat) (a : Addr) (cs : List Value) (x : DataW H × List MemPlace), w.cells? 0 a (Rep.sz α) = some cs → DataW.trod enc Try.prog w 0 (fun _ => true) held n e cs = some x → ∃ (b o : Nat) (y : α), a = ⟨b, o, none⟩ ∧ Rep.E w b o y)
    {fuel : Nat} {a : Option Addr} {len cap : Nat} {x : DataW H × List MemPlace} (h : DataW.trod enc Try.prog w 0 (fun _ => true) held fuel t [.slice a len cap] = some x) :
    ∃ xs : List α, xs.length = len ∧ Row w a cap xs := by
  rcases open_slice ht h with ⟨hcs, _⟩ | ⟨ad, l, c, m, n, D, Pl, hcs, _, hl, hm, hmm, _, hi⟩
  · simp at hcs
    obtain ⟨rfl, rfl, rfl⟩ := hcs
    exact ⟨[], rfl, Row.empty _ _ _ (by omega) (fun _ => rfl)⟩
  · simp at hcs
    obtain ⟨rfl, rfl, rfl⟩ := hcs
    simp only [if_true] at hmm
    subst hmm
    have key : ∀ i, i < len → ∃ (b o : Nat) (y : α), ad.add (i * Rep.sz α) = ⟨b, o, none⟩ ∧ Rep.E w b o y := by
      intro i hil
      obtain ⟨cs', hc, ht'⟩ := hi i (by omega)
      rw [hC] at hc
      exact hE n _ cs' _ hc ht'
    have hy : ∀ i : Fin len, ∃ y : α, ∃ b o, ad.add (i.val * Rep.sz α) = ⟨b, o, none⟩ ∧ Rep.E w b o y := fun i => by
      obtain ⟨b, o, y, e1, e2⟩ := key i.val i.isLt
      exact ⟨y, b, o, e1, e2⟩
    let f : Fin len → α := fun i => Classical.choose (hy i)
    have hf : ∀ i : Fin len, ∃ b o, ad.add (i.val * Rep.sz α) = ⟨b, o, none⟩ ∧ Rep.E w b o (f i) := fun i => Classical.choose_spec (hy i)
    refine ⟨List.ofFn f, List.length_ofFn, ⟨by rw [List.length_ofFn]; exact hl, by unfold maxLen at hm; omega, (fun e => by cases e), fun i x hx => ?_⟩⟩
    have hil : i < len := by
      have := (List.getElem?_eq_some_iff.1 hx).1; rwa [List.length_ofFn] at this
    have hx' : f ⟨i, hil⟩ = x := by
      rw [List.getElem?_eq_getElem (by rw [List.length_ofFn]; exact hil), List.getElem_ofFn] at hx
      exact Option.some.inj hx
    obtain ⟨b, o, e1, e2⟩ := hf ⟨i, hil⟩
    obtain ⟨b0, o0, s0⟩ := ad
    have hz := hf ⟨0, by omega⟩
    obtain ⟨b1, o1, e3, _⟩ := hz
    simp only [Nat.zero_mul, Addr.add, if_true] at e3
    injection e3 with e3 e4 e5
    subst e5
    rw [add_lit] at e1
    injection e1 with e1 e6
    subst e1
    refine ⟨b0, o0, rfl, ?_⟩
    rw [hx'] at e2
    rw [← e6] at e2
    exact e2

theorem spot_none {a : Addr} {v : Value} (h : w.cell? a = some v) : ∃ b o, a = ⟨b, o, none⟩ := by
  have := World.cell?_spot h
  obtain ⟨b, o, s⟩ := a
  simp at this
  subst this
  exact ⟨b, o, rfl⟩
theorem E_cell (n : Nat) (a : Addr) (cs : List Value) (x : DataW H × List MemPlace) (hc : w.cells? 0 a 3 = some cs) (h : DataW.trod enc Try.prog w 0 spare held n 42 cs = some x) : ∃ (b o : Nat) (y : Cel), a = ⟨b, o, none⟩ ∧ Rep.E w b o y := by
  obtain ⟨c, rfl, hf⟩ := open_cell h
  obtain ⟨_, _, hat⟩ := World.cells?_some hc
  have h0 := hat 0 (by omega)
  obtain ⟨b, o, rfl⟩ : ∃ b o, a = ⟨b, o, none⟩ := spot_none (by simpa [Addr.add] using h0)
  refine ⟨b, o, c, rfl, ?_⟩
  have h1 := hat 1 (by omega)
  have h2 := hat 2 (by omega)
  rw [add_lit] at h0 h1 h2
  exact ⟨h0, h1, h2, hf⟩
/-- []Cell -/
theorem open_cells {fuel : Nat} {a : Option Addr} {len cap : Nat} {x : DataW H × List MemPlace} (h : DataW.trod enc Try.prog w 0 (fun _ => true) held fuel 22 [.slice a len cap] = some x) :
    ∃ xs : List Cel, xs.length = len ∧ Row w a cap xs :=
  open_rows Try.underlying22 Try.cells42 (fun n a cs x h1 h2 => E_cell n a cs x h1 h2) h
theorem E_list {α : Type} [Rep α] {e : TypeId} {el : TypeId} (he : Try.prog.underlying e = some (.slice el))
    (hop : ∀ {fuel : Nat} {a : Option Addr} {len cap : Nat} {x : DataW H × List MemPlace}, DataW.trod enc Try.prog w 0 (fun _ => true) held fuel e [.slice a len cap] = some x → ∃ xs : List α, xs.length = len ∧ Row w a cap xs)
    (n : Nat) (a : Addr) (cs : List Value) (x : DataW H × List MemPlace) (hc : w.cells? 0 a 1 = some cs) (h : DataW.trod enc Try.prog w 0 (fun _ => true) held n e cs = some x) : ∃ (b o : Nat) (y : List α), a = ⟨b, o, none⟩ ∧ Rep.E w b o y := by
  obtain ⟨_, hl, hat⟩ := World.cells?_some hc
  have h0 := hat 0 (by omega)
  match cs, hl with
  | [v], _ =>
    have hv : ∃ a' len cap, v = .slice a' len cap := by
      rcases open_slice he h with ⟨hcs, _⟩ | ⟨ad, l, c, m, n, D, Pl, hcs, _⟩
      · simp at hcs; exact ⟨_, _, _, hcs⟩
      · simp at hcs; exact ⟨_, _, _, hcs⟩
    obtain ⟨a', len, cap, rfl⟩ := hv
    obtain ⟨xs, rfl, hr⟩ := hop h
    obtain ⟨b, o, rfl⟩ : ∃ b o, a = ⟨b, o, none⟩ := spot_none (by simpa [Addr.add] using h0)
    rw [add_lit] at h0
    exact ⟨b, o, xs, rfl, ⟨a', cap, h0, hr⟩⟩
/-- [][]Cell -/
theorem open_cellss {fuel : Nat} {a : Option Addr} {len cap : Nat} {x : DataW H × List MemPlace} (h : DataW.trod enc Try.prog w 0 (fun _ => true) held fuel 40 [.slice a len cap] = some x) :
    ∃ xs : List (List Cel), xs.length = len ∧ Row w a cap xs :=
  open_rows Try.underlying40 Try.cells22 (fun n a cs x h1 h2 => E_list (α := Cel) Try.underlying22 open_cells n a cs x h1 h2) h
end
end Go.Proofs.Ytlddglajdcednaa
