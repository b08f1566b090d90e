/-
  Of layer 3 of sorrel: whatever arguments come in, the law UnifyTells returns true, and what was handed in reads as it did: what makes any two terms alike, or that nothing does, what makes any one like another one, and whether they are variants, is as the document says. No condition.
-/
import Derived.Test.YtlddglajdcednaaZt2
namespace Go.Proofs.Ytlddglajdcednaa
open Go.RowKit

/-! ### the document's classes and joining's own tell the same -/
theorem tell_ends {a b : List Cel} (ha : IsT a) (hb : IsT b) {r : List Nat} {s : List Int}
    (e : joinL (a ++ b) (7 * (a ++ b).length + 1) (ups (a ++ b)) [(0, a.length)] = some r) (m : measureL (a ++ b) r ((a ++ b).length + 1) (List.replicate (a ++ b).length 0) 0 = some s) :
    ∃ h, h ≤ (a ++ b).length ∧ ∀ z, z < (a ++ b).length → EndsIn (a ++ b) r h (r.getD z 0) := by
  have hG := good_two ha hb
  have ha0 := List.length_pos_iff.2 ha.ne
  have hb0 := List.length_pos_iff.2 hb.ne
  have hl : (a ++ b).length = a.length + b.length := List.length_append
  have h0 : 0 < (a ++ b).length := by omega
  have hq : a.length < (a ++ b).length := by omega
  have J := joined_ups hG (t := [(0, a.length)]) (by simp; omega) e
  obtain ⟨mo, pos⟩ := measured hG J.ok h0 m
  have hd : doneN s ≤ (a ++ b).length := by have := done_le s; rw [mo.len] at this; exact this
  have h0q : r.getD 0 0 = r.getD a.length 0 := J.done (0, a.length) (by simp)
  have e1 : (endI (a ++ b) 0).toNat = a.length := by
    have h := ha 0 b
    rw [sk_zero] at h
    unfold endI
    rw [List.drop_zero, h]
    show ((((a ++ b).length : Int) - (b.length : Int))).toNat = _
    omega
  have e2 : (endI (a ++ b) a.length).toNat = (a ++ b).length := by
    unfold endI
    rw [List.drop_left, hb.reads]
    show ((((a ++ b).length : Int) - 0)).toNat = _
    omega
  have all : ∀ z, z < (a ++ b).length → 0 < s.getD (r.getD z 0) 0 := by
    intro z hz
    by_cases h : z < a.length
    · exact all_done hG J mo _ 0 h0 (Nat.le_refl _) pos z (by omega) (by rw [e1]; exact h)
    · exact all_done hG J mo _ a.length hq (Nat.le_refl _) (by rw [← h0q]; exact pos) z (by omega) (by rw [e2]; exact hz)
  exact ⟨doneN s, hd, fun z hz => (mo.ends _ (J.ok.top z hz).1 (all z hz)).1⟩
theorem does_none {l : List Cel} {W : Nat → Nat} {c : Nat} : ∀ n, n ≤ l.length → doesF l W c n = none → ∀ i (hi : i < l.length), i < n → W i = c → l[i].k = 1
  | 0, _, _, i, _, h, _ => by omega
  | n + 1, hn, h, i, hi, hin, hw => by
    unfold doesF at h
    cases e : doesF l W c n with
    | some b => rw [e] at h; cases h
    | none =>
      rw [e] at h
      by_cases hie : i = n
      · subst hie
        simp only [Option.none_or] at h
        split at h
        · cases h
        · next hc =>
          by_cases hk : l[i].k = 1
          · exact hk
          · exact absurd ⟨hw, by simp [noVar, List.getElem?_eq_getElem hi, hk]⟩ hc
      · exact does_none n (by omega) e i hi (by omega) hw
/-- joining's classes are the document's -/
structure Link (l : List Cel) (q : Nat) (W : Nat → Nat) (r : List Nat) : Prop where
  J : Joined l (ups l) r [(0, q)]
  cls : ∀ x y, x < l.length → y < l.length → (r.getD x 0 = r.getD y 0 ↔ W x = W y)
section
variable {l : List Cel} {q : Nat} {W : Nat → Nat} {r : List Nat}
theorem Link.top (L : Link l q W r) {z : Nat} (hz : z < l.length) : r.getD z 0 < l.length ∧ W (r.getD z 0) = W z := by
  obtain ⟨h1, h2⟩ := L.J.ok.top z hz
  exact ⟨h1, (L.cls _ _ h1 hz).1 h2⟩
theorem Link.cell (L : Link l q W r) {z a : Nat} (hz : z < l.length) (ha : doesF l W (W z) l.length = some a) :
    ∃ (hx : r.getD z 0 < l.length) (hal : a < l.length), l[r.getD z 0].k ≠ 1 ∧ l[r.getD z 0] = l[a] ∧ (argsL l (r.getD z 0)).map (fun p => r.getD p 0) = (argsL l a).map fun p => r.getD p 0 := by
  obtain ⟨hal, hwa, _, hak⟩ := does_some ha
  obtain ⟨hx, hwx⟩ := L.top hz
  have haz : r.getD a 0 = r.getD z 0 := (L.cls a z hal hz).2 hwa
  have hxa : r.getD (r.getD z 0) 0 = r.getD a 0 := by rw [haz]; exact (L.J.ok.top z hz).2
  have hxk : l[r.getD z 0].k ≠ 1 := fun h => hak (L.J.var a hal (by rw [haz]; exact hx) (by simp only [haz]; exact h))
  have hcl := L.J.closed _ a hx hal hxa hxk hak
  exact ⟨hx, hal, hxk, hcl.1, hcl.2⟩
theorem flat_by {T : Nat → List Cel} {f : Nat → Nat} (hf : ∀ x y, f x = f y → T x = T y) : ∀ xs ys : List Nat, xs.map f = ys.map f → xs.flatMap T = ys.flatMap T
  | [], [], _ => rfl
  | [], y :: ys, h => by cases h
  | x :: xs, [], h => by cases h
  | x :: xs, y :: ys, h => by
    rw [List.map_cons, List.map_cons, List.cons.injEq] at h
    rw [List.flatMap_cons, List.flatMap_cons, hf x y h.1, flat_by hf xs ys h.2]
theorem mem_by {f : Nat → Nat} {xs ys : List Nat} (h : xs.map f = ys.map f) {p : Nat} (hp : p ∈ xs) : ∃ p' ∈ ys, f p' = f p := by
  have : f p ∈ ys.map f := by rw [← h]; exact List.mem_map.2 ⟨p, hp, rfl⟩
  obtain ⟨p', h1, h2⟩ := List.mem_map.1 this
  exact ⟨p', h1, h2⟩
/-- a class that is never done does not end -/
theorem Link.stuck (L : Link l q W r) (hG : Good l) {D : Nat → Bool} (hD : ∀ i, i < l.length → D (W i) = false → Stuck l W D i) : ∀ (h z : Nat), z < l.length → D (W z) = false → ¬ EndsIn l r h (r.getD z 0)
  | 0, _, _, _ => fun e => e
  | h + 1, z, hz, hd => fun e => by
    obtain ⟨a, p, h1, h2, h3⟩ := hD z hz hd
    obtain ⟨hx, hal, _, _, hm⟩ := L.cell hz h1
    obtain ⟨p', h4, h5⟩ := mem_by hm.symm h2
    have hpl := args_lt hG h2
    have hpl' := args_lt hG h4
    have hw : W p' = W p := (L.cls p' p hpl' hpl).1 h5
    exact L.stuck hG hD h p' hpl' (by rw [hw]; exact h3) (e p' h4)
theorem least_lo {c : Nat} {m : Int} (h : ∀ i (hi : i < l.length), W i = c → l[i].k = 1 → m ≤ l[i].n) (hm : m ≤ 1000) : ∀ n, n ≤ l.length → m ≤ leastUp l W c n
  | 0, _ => by unfold leastUp; exact hm
  | n + 1, hn => by
    have ih := least_lo h hm n (by omega)
    have hi : n < l.length := by omega
    by_cases hc : W n = c ∧ l[n].k = 1
    · rw [least_yes hi hc.1 hc.2]
      have := h n hi hc.1 hc.2
      omega
    · rw [least_no hi hc]; exact ih
theorem least_hi {c x : Nat} (hx : x < l.length) (hw : W x = c) (hk : l[x].k = 1) : ∀ n, n ≤ l.length → x < n → leastUp l W c n ≤ l[x].n
  | 0, _, h => by omega
  | n + 1, hn, h => by
    have hi : n < l.length := by omega
    by_cases e : x = n
    · subst e
      rw [least_yes hx hw hk]; omega
    · have ih := least_hi hx hw hk n (by omega) (by omega)
      by_cases hc : W n = c ∧ l[n].k = 1
      · rw [least_yes hi hc.1 hc.2]; omega
      · rw [least_no hi hc]; exact ih
/-- the classes' terms -/
theorem Link.terms (L : Link l q W r) (hG : Good l) (hmin : VarMin l r) {h : Nat} (hh : h ≤ l.length) (he : ∀ z, z < l.length → EndsIn l r h (r.getD z 0)) : TermsEq l W (termL l r) := by
  refine ⟨fun x hx hd => ?_, fun x hx z hz hd => ?_⟩
  · obtain ⟨ht, hw⟩ := L.top hx
    have hk : l[r.getD x 0].k = 1 := does_none l.length (Nat.le_refl _) hd _ ht ht hw
    rw [term_eq (he x hx) hh ht, var_args ht hk, List.flatMap_nil]
    have hok := good_ok hG ht
    have hv := cellOk_var hok hk
    have hr := var_range hok hk
    have hl1 : l[r.getD x 0].n ≤ leastUp l W (W x) l.length := least_lo (fun i hi hwi _ => by
      have e1 : r.getD i 0 = r.getD x 0 := (L.cls i x hi hx).2 hwi
      have := hmin i hi (by rw [e1]; exact ht) (by simp only [e1]; exact hk)
      simp only [e1] at this
      exact this) (by omega) _ (Nat.le_refl _)
    have hl2 : leastUp l W (W x) l.length ≤ l[r.getD x 0].n := least_hi ht hw hk _ (Nat.le_refl _) ht
    have hn : leastUp l W (W x) l.length = l[r.getD x 0].n := by omega
    rw [hn]
    exact congrArg (fun c => [c]) hv
  · obtain ⟨ht, hal, _, hc, hm⟩ := L.cell hx hd
    rw [term_eq (he x hx) hh ht, hc, flat_by (f := fun p => r.getD p 0) (fun a b e => term_class e) _ _ hm]
end
/-- no clash, the classes as joining has them -/
theorem link_of {l : List Cel} (hG : Good l) {q : Nat} (hq : q < l.length) {W : Nat → Nat} (hW : Least l 0 q W) (hc : ∀ a b, a < l.length → b < a → ¬ CP l W a b) :
    ∃ r, joinL l (7 * l.length + 1) (ups l) [(0, q)] = some r ∧ Link l q W r := by
  have h0 : 0 < l.length := by omega
  obtain ⟨r, e, hr⟩ := clear_same hG h0 hq hW fun a b ha hb hw ka kb => by
    by_cases e : l[a] = l[b]
    · exact e
    · exfalso
      rcases Nat.lt_trichotomy a b with h | h | h
      · exact hc b a hb h ⟨hb, ha, hw.symm, kb, ka, fun h => e h.symm⟩
      · subst h; exact e rfl
      · exact hc a b ha h ⟨ha, hb, hw, ka, kb, e⟩
  exact ⟨r, e, joined_ups hG (t := [(0, q)]) (by simp [h0, hq]) e, hr⟩
theorem mgu_join_none {a b : List Cel} (e : joinL (a ++ b) (7 * (a ++ b).length + 1) (ups (a ++ b)) [(0, a.length)] = none) : mguL a b = none := by
  unfold mguL
  show (match joinL (a ++ b) (7 * (a ++ b).length + 1) (ups (a ++ b)) [(0, a.length)] with | none => none | some r => _) = none
  rw [e]
theorem mgu_measure_none {a b : List Cel} {r : List Nat} (e : joinL (a ++ b) (7 * (a ++ b).length + 1) (ups (a ++ b)) [(0, a.length)] = some r) (m : measureL (a ++ b) r ((a ++ b).length + 1) (List.replicate (a ++ b).length 0) 0 = none) : mguL a b = none := by
  unfold mguL
  show (match joinL (a ++ b) (7 * (a ++ b).length + 1) (ups (a ++ b)) [(0, a.length)] with | none => none | some r => _) = none
  rw [e]
  simp only [m]
section
variable {a b : List Cel} {W : Nat → Nat}
theorem tell_clash (ha : IsT a) (hb : IsT b) (hW : Least (a ++ b) 0 a.length W) {x y : Nat} (h : CP (a ++ b) W x y) : mguL a b = none := by
  have ha0 := List.length_pos_iff.2 ha.ne
  have hb0 := List.length_pos_iff.2 hb.ne
  have hl : (a ++ b).length = a.length + b.length := List.length_append
  obtain ⟨hx, hy, hw, k1, k2, hne⟩ := h
  exact mgu_join_none (clash_none (good_two ha hb) (by omega) (by omega) hW hx hy hw k1 k2 hne _)
theorem tell_within (ha : IsT a) (hb : IsT b) (hW : Least (a ++ b) 0 a.length W) (hc : ∀ x y, x < (a ++ b).length → y < x → ¬ CP (a ++ b) W x y) {D : Nat → Bool} (hD0 : ∃ i, i < (a ++ b).length ∧ D (W i) = false) (hD : ∀ i, i < (a ++ b).length → D (W i) = false → Stuck (a ++ b) W D i) : mguL a b = none := by
  have hb0 := List.length_pos_iff.2 hb.ne
  have hl : (a ++ b).length = a.length + b.length := List.length_append
  have hG := good_two ha hb
  obtain ⟨r, e, L⟩ := link_of hG (by omega) hW hc
  cases m : measureL (a ++ b) r ((a ++ b).length + 1) (List.replicate (a ++ b).length 0) 0 with
  | none => exact mgu_measure_none e m
  | some s =>
    exfalso
    obtain ⟨h, _, he⟩ := tell_ends ha hb e m
    obtain ⟨i, hi, hd⟩ := hD0
    exact L.stuck hG hD h i hi hd (he i hi)
theorem tell_good (ha : IsT a) (hb : IsT b) (hW : Least (a ++ b) 0 a.length W) (hc : ∀ x y, x < (a ++ b).length → y < x → ¬ CP (a ++ b) W x y) {rank : Nat → Nat} (hR : ∀ i, i < (a ++ b).length → ∀ z, doesF (a ++ b) W (W i) (a ++ b).length = some z → ∀ p ∈ argsL (a ++ b) z, rank (W p) < rank (W i)) :
    ∃ (T : Nat → List Cel) (F : Int → List Cel), TermsEq (a ++ b) W T ∧ (∀ z (hz : z < (a ++ b).length), (a ++ b)[z].k = 1 → T z = F (a ++ b)[z].n) ∧
      mguL a b = some (if (bothL a b).any (fun v => decide (200 < (F v).length)) then none else some (bindL F (bothL a b))) := by
  have ha0 := List.length_pos_iff.2 ha.ne
  have hb0 := List.length_pos_iff.2 hb.ne
  have hl : (a ++ b).length = a.length + b.length := List.length_append
  have hG := good_two ha hb
  have h0 : 0 < (a ++ b).length := by omega
  obtain ⟨r, e, L⟩ := link_of hG (by omega) hW hc
  obtain ⟨s, m⟩ := measure_some hG L.J.ok (L := fun z => rank (W z)) (fun z hz => by
      show rank (W (r.getD z 0)) = rank (W z)
      rw [(L.top hz).2]) (fun z p hz hp => by
      show rank (W p) < rank (W z)
      have hk : (a ++ b)[z].k = 3 := by
        by_cases h : (a ++ b)[z].k = 3
        · exact h
        · rw [not_fun hz h] at hp; cases hp
      cases hd : doesF (a ++ b) W (W z) (a ++ b).length with
      | none => have := does_none _ (Nat.le_refl _) hd z hz hz rfl; omega
      | some y =>
        obtain ⟨hyl, hwy, _, hyk⟩ := does_some hd
        have hzy : r.getD z 0 = r.getD y 0 := (L.cls z y hz hyl).2 hwy.symm
        have hcl := L.J.closed z y hz hyl hzy (by omega) hyk
        obtain ⟨p', h1, h2⟩ := mem_by hcl.2 hp
        have hw : W p' = W p := (L.cls p' p (args_lt hG h1) (args_lt hG hp)).1 h2
        rw [← hw]
        exact hR z hz y hd p' h1) ((a ++ b).length + 1) (List.replicate (a ++ b).length 0) 0 h0
    ⟨by simp, fun x => by simp only [List.getD_eq_getElem?_getD, List.getElem?_replicate]; split <;> simp, fun x _ h => by simp only [List.getD_eq_getElem?_getD, List.getElem?_replicate] at h; split at h <;> simp at h, fun x _ h => by simp only [List.getD_eq_getElem?_getD, List.getElem?_replicate] at h; split at h <;> simp at h⟩
    (fun y _ h => by simp only [List.getD_eq_getElem?_getD, List.getElem?_replicate] at h; split at h <;> simp at h) (by omega)
  obtain ⟨h, hh, he⟩ := tell_ends ha hb e m
  have T := told_some ha hb ha0 hb0 hG e m
  have hmin : VarMin (a ++ b) r := join_least hG _ _ _ _ (laid_ok (a ++ b) [(0, a.length)] (by simp; omega)) (laid_least _) e
  have place : ∀ v ∈ bothL a b, ∃ p, ∃ hp : p < (a ++ b).length, (a ++ b)[p].k = 1 ∧ (a ++ b)[p].n = v := by
    intro v hv
    obtain ⟨c, h1, h2, h3⟩ := both_iff.1 hv
    obtain ⟨p, hp, rfl⟩ := List.getElem_of_mem h1
    exact ⟨p, hp, h2, h3⟩
  have TF : ToldF a b (ofVar (a ++ b) r) := by
    refine ⟨T.alike, fun v hv => ?_, fun v hv => ?_, fun v hv => ?_, fun G hT eG v hv => ?_, fun v hv => ?_⟩
    · obtain ⟨p, hp, hk, rfl⟩ := place v hv; exact (T.ofv p hp hk).1
    · obtain ⟨p, hp, hk, rfl⟩ := place v hv; exact (T.ofv p hp hk).2.1
    · obtain ⟨p, hp, hk, rfl⟩ := place v hv; exact (T.ofv p hp hk).2.2.1
    · obtain ⟨p, hp, hk, rfl⟩ := place v hv; exact T.most G hT eG p hp hk
    · obtain ⟨p, hp, hk, rfl⟩ := place v hv; exact (T.ofv p hp hk).2.2.2.2
  exact ⟨termL (a ++ b) r, ofVar (a ++ b) r, L.terms hG hmin hh he, fun z hz hk => (ofVar_at L.J hz hk).symm, mgu_is ha hb TF⟩
end
end Go.Proofs.Ytlddglajdcednaa
namespace Go.Proofs.Ytlddglajdcednaa
open Go.RowKit

/-! ### the document's Mgu -/
def M3Post (xs ys : List Cel) (e : Ending) (w' : World) : Prop := ∃ a2 c2, e = .returned (.tuple #[.slice a2 (ansL (mguL xs ys)).length c2, .int .i64 (ansE (mguL xs ys))]) ∧ Row w' a2 c2 (ansL (mguL xs ys))
theorem m3_none {xs ys : List Cel} {w' : World} (h : mguL xs ys = none) : M3Post xs ys (.returned (.tuple #[.slice none 0 0, .int .i64 3])) w' := by
  refine ⟨none, 0, ?_, ?_⟩
  · rw [h]; rfl
  · rw [h]; exact row_none _

set_option maxRecDepth 100000 in
set_option maxHeartbeats 16000000 in
theorem mgu3_any (a : Option Addr) (cap : Nat) (a' : Option Addr) (cap' : Nat) (w : World) (xs ys : List Cel) (hx : Row w a cap xs) (hy : Row w a' cap' ys) (rx : rightB xs = true) (ry : rightB ys = true) :
    Calls Try.prog 14 #[.slice a xs.length cap, .slice a' ys.length cap'] w fun e w' => M3Post xs ys e w' ∧ Below w.heap.size w w' := by
  obtain ⟨hxT, lx, lx0⟩ := isT_of_right rx
  obtain ⟨hyT, ly, ly0⟩ := isT_of_right ry
  have hmx := hx.max
  have hlx := hx.le
  have hmy := hy.max
  have hly := hy.le
  have hn0 := (Below.refl w.heap.size w).new (.cells #[] 42)
  have HA0 : Hid (AccInv w.heap.size 42 ([] : List Cel) (.slice (some ⟨w.heap.size, 0, none⟩) 0 0) (w.alloc (.cells #[] 42))) := AccInv.made w (Nat.le_refl _) rfl
  have HXR := mkHid (hx.keeps (HA0.out.fresh hn0))
  have HY := mkHid hy
  obtain ⟨l, hl⟩ : ∃ l, xs ++ ys = l := ⟨_, rfl⟩
  have hll : l.length = xs.length + ys.length := by rw [← hl, List.length_append]
  have hq : xs.length < l.length := by omega
  have HG : Hid (Good l) := by rw [Hid, ← hl]; exact good_two hxT hyT
  have HT1 : Hid (∀ W, Least l 0 xs.length W → ∀ x y, CP l W x y → mguL xs ys = none) := fun W hW x y h => by
    subst hl; exact tell_clash hxT hyT hW h
  have HT2 : Hid (∀ W, Least l 0 xs.length W → (∀ x y, x < l.length → y < x → ¬ CP l W x y) → ∀ D : Nat → Bool, (∃ i, i < l.length ∧ D (W i) = false) → (∀ i, i < l.length → D (W i) = false → Stuck l W D i) → mguL xs ys = none) := fun W hW hc D h1 h2 => by
    subst hl; exact tell_within hxT hyT hW hc h1 h2
  have HT3 : Hid (∀ W, Least l 0 xs.length W → (∀ x y, x < l.length → y < x → ¬ CP l W x y) → ∀ rank : Nat → Nat, (∀ i, i < l.length → ∀ z, doesF l W (W i) l.length = some z → ∀ p ∈ argsL l z, rank (W p) < rank (W i)) → ∃ (T : Nat → List Cel) (F : Int → List Cel), TermsEq l W T ∧ (∀ z (hz : z < l.length), l[z].k = 1 → T z = F l[z].n) ∧ mguL xs ys = some (if (bothL xs ys).any (fun v => decide (200 < (F v).length)) then none else some (bindL F (bothL xs ys)))) := fun W hW hc rank hR => by
    subst hl; exact tell_good hxT hyT hW hc hR
  have HRB : Hid (riseI (varsL l) = bothL xs ys) := by
    refine rise_unique _ _ (rise_up _) (rise_up _) fun v => ?_
    rw [both_iff]
    constructor
    · intro h
      obtain ⟨c, h1, h2⟩ := varsL_iff.1 (riseI_mem h)
      exact ⟨c, by rw [hl]; exact h1, h2⟩
    · rintro ⟨c, h1, h2, rfl⟩
      rw [hl] at h1
      exact rise_vars h1 h2
  have HLE := mkHid hl
  have hl400 : l.length ≤ 400 := by omega
  clear hx hy rx ry hxT hyT hl hll
  go_enter Try.func14, Try.ntmps14
  go_wp2_with (first
    | (at_builtin; refine wpList_accs (α := Cel) rfl _ _ 22 rfl w.heap.size 42 32 _ Try.underlying22 Try.infoCell rfl (by decide) _ [] HA0.out (by rfl) _ _ xs HXR.out (by rfl) (by simp; omega) hn0.size ?_; intro v1 w1 hacc1 hb1; rw [List.nil_append] at hacc1; have hw1 := hn0.trans hb1; have HA1 := mkHid hacc1; have HYR := mkHid (HY.out.keeps (hacc1.fresh hw1)); have hs1 := hw1.size; clear hacc1)
    | (at_builtin; refine wpList_accs (α := Cel) rfl _ _ 22 rfl w.heap.size 42 32 _ Try.underlying22 Try.infoCell rfl (by decide) _ xs HA1.out (by rfl) _ _ ys HYR.out (by rfl) (by omega) hs1 ?_; intro v2 w2 hacc2 hb2; have hw2 := hw1.trans hb2; rw [HLE.out] at hacc2; obtain ⟨a6, c6, rfl, hr6⟩ := hacc2.row; have HL6a := mkHid hr6; clear hacc2 hr6))
  refine (classes3_any a6 c6 _ l HL6a.out HG.out hq (by omega)).mono ?_
  rintro e1 w3 ⟨⟨a7, c7, W, rfl, hr7, hW, hWlt⟩, hb3⟩
  have hw3 := hw2.then hb3
  have HL63 := mkHid (HL6a.out.below hb3)
  have HC73 := mkHid hr7
  have HWL := mkHid hW
  have HWT := mkHid hWlt
  clear hr7 hW hWlt
  go_wp2_with fail
  refine (clash3_any a6 c6 a7 c7 _ l W HL63.out HC73.out (by omega)).mono ?_
  rintro e1 w4 ⟨hpost, hb4⟩
  have hw4 := hw3.then hb4
  have HL64 := mkHid (HL63.out.below hb4)
  have HC74 := mkHid (HC73.out.below hb4)
  rcases hpost with ⟨rfl, x, y, hcp⟩ | ⟨rfl, hnc⟩
  · have HE : Hid (∀ w', M3Post xs ys (.returned (.tuple #[.slice none 0 0, .int .i64 3])) w') := fun w' => m3_none (HT1.out W HWL.out x y hcp)
    clear hcp
    go_wp2_with fail
    go_ret2
    exact ⟨HE.out _, hw4⟩
  · have HNC := mkHid hnc
    clear hnc
    go_wp2_with fail
    refine (within3_any a6 c6 a7 c7 _ l W HL64.out HC74.out HG.out HWT.out (by omega) (by omega)).mono ?_
    rintro e1 WB ⟨hpost, hb5⟩
    have hw5 := hw4.then hb5
    have HL6 := mkHid (HL64.out.below hb5)
    have HC7 := mkHid (HC74.out.below hb5)
    rcases hpost with ⟨rfl, rank, hrank⟩ | ⟨rfl, D, hD0, hD⟩
    rotate_left
    · have HE : Hid (∀ w', M3Post xs ys (.returned (.tuple #[.slice none 0 0, .int .i64 3])) w') := fun w' => m3_none (HT2.out W HWL.out HNC.out D hD0 hD)
      clear hD0 hD
      go_wp2_with fail
      go_ret2
      exact ⟨HE.out _, hw5⟩
    · obtain ⟨TT, F, hte, htf, hmg⟩ := HT3.out W HWL.out HNC.out rank hrank
      have HTE := mkHid hte
      have HTF := mkHid htf
      have HMG := mkHid hmg
      have hbW := mkHid hw5
      have hb1 := (Below.refl WB.heap.size WB).new (.cells #[] 39)
      have HO0 : Hid (AccInv WB.heap.size 39 ([] : List Bnd) (.slice (some ⟨WB.heap.size, 0, none⟩) 0 0) (WB.alloc (.cells #[] 39))) := AccInv.made WB (Nat.le_refl _) rfl
      clear hte htf hmg hrank
      go_wp2_with fail
      refine (rising3_any a6 c6 _ l (HL6.out.below hb1) (by omega)).mono ?_
      rintro e1 w6 ⟨a9, c9, rfl, hr9, hb6⟩
      have hb16 := hb1.then hb6
      have HO6 := mkHid (HO0.out.below hb6)
      have HR6 := mkHid (HO0.out.newer (Nat.le_refl _) hr9)
      obtain ⟨Rv, hRv⟩ : ∃ R, riseI (varsL l) = R := ⟨_, rfl⟩
      have HRV : Hid (∀ v ∈ Rv, ∃ c ∈ l, c.k = 1 ∧ c.n = v) := fun v hv => by
        rw [← hRv] at hv
        exact varsL_iff.1 (riseI_mem hv)
      have HRVB : Hid (bothL xs ys = Rv) := by rw [Hid, ← hRv]; exact HRB.out.symm
      have hRl : Rv.length ≤ 400 := by
        rw [← hRv]
        have l2 := riseI_le (varsL l)
        have l3 := varsGo_length l []
        rw [show varsGo [] l = varsL l from rfl, List.length_nil, Nat.zero_add] at l3
        omega
      rw [hRv] at HR6 ⊢
      clear hRv hr9 HO0 hb1 hb6
      go_wp2_with fail
      go_loopw [8, 10, 11, 12, 13, 14, 15] (fun v8 kv x1 x2 x3 x4 x5 wz => ∃ (k : Nat) (a8 : Option Addr) (c8 : Nat), v8 = .slice a8 (bindL F (Rv.take k)).length c8 ∧ kv = .int .i64 k ∧ k ≤ Rv.length ∧ Hid (AccInv WB.heap.size 39 (bindL F (Rv.take k)) (.slice a8 (bindL F (Rv.take k)).length c8) wz) ∧ Hid (Row (hide (Value.slice a8 (bindL F (Rv.take k)).length c8).ownBlock wz) a9 c9 Rv) ∧ Hid (∀ v ∈ Rv.take k, (F v).length ≤ 200) ∧ Below WB.heap.size WB wz) (fun v8 kv x1 x2 x3 x4 x5 wz => Rv.length - (intOf kv).toNat)
      case atStart => exact ⟨0, _, _, rfl, rfl, Nat.zero_le _, HO6, HR6, by simp [Hid], hb16⟩
      case round =>
        clear HO6 HR6 hb16
        obtain ⟨k, a8, c8, rfl, rfl, hk, HO, HRRz, HSM, hbz⟩ := hrel
        have HRW := mkHid (HRRz.out.keeps (hide_keeps _ _))
        by_cases hkl : k < Rv.length
        · obtain ⟨b9, o9, rfl, _, hat9⟩ := HRW.out.cases.resolve_left (fun e => by simp [e] at hkl)
          have e0 := (int_at hat9 (Below.refl _ _) hkl).c
          have hnlo := (int_at hat9 (Below.refl _ _) hkl).lo
          have hnhi := (int_at hat9 (Below.refl _ _) hkl).hi
          have hnm := List.getElem_mem hkl
          obtain ⟨c, hc, hck, hcn⟩ := HRV.out _ hnm
          have hbt := bind_take (F := F) hkl
          obtain ⟨n, hn⟩ : ∃ n, Rv[k] = n := ⟨_, rfl⟩
          have HRN := mkHid hn
          rw [hn] at e0 hbt hnlo hnhi hnm hcn
          have HNM : Hid (n ∈ bothL xs ys) := by rw [Hid, HRVB.out]; exact hnm
          have HBC := mkHid hbt
          have HNB := mkHid (And.intro hnlo hnhi)
          have hk0 : (0 : Int) ≤ (k : Int) := by omega
          have hk1 : (k : Int) < (Rv.length : Int) := by omega
          have HCN : Hid (∃ (i : Nat) (hi : i < l.length), l[i].k = 1 ∧ l[i].n = n) := by
            obtain ⟨i, hi, rfl⟩ := List.getElem_of_mem hc
            exact ⟨i, hi, hck, hcn⟩
          clear hn hat9 hcn hbt hnlo hnhi hc hck hnm
          go_wp2_with fail
          go_loopw [12, 13] (fun av iv wy => ∃ (i : Nat) (av' : Int), iv = .int .i64 i ∧ av = .int .i64 av' ∧ i ≤ l.length ∧ -1 ≤ av' ∧ av' < i ∧ Hid ((av' = -1 ∧ ∀ j (hj : j < l.length), j < i → ¬ (l[j].k = 1 ∧ l[j].n = n)) ∨ ∃ (z : Nat) (hz : z < l.length), av' = z ∧ l[z].k = 1 ∧ l[z].n = n) ∧ Hid (AccInv WB.heap.size 39 (bindL F (Rv.take k)) (.slice a8 (bindL F (Rv.take k)).length c8) wy) ∧ Hid (Row (hide (Value.slice a8 (bindL F (Rv.take k)).length c8).ownBlock wy) (some ⟨b9, o9, none⟩) c9 Rv) ∧ Below WB.heap.size WB wy) (fun av iv wy => l.length - (intOf iv).toNat)
          case atStart => exact ⟨0, -1, rfl, rfl, Nat.zero_le _, by omega, by omega, .inl ⟨rfl, fun j _ hj => by omega⟩, HO, HRRz, hbz⟩
          case round =>
            clear HO HRRz hbz HRW e0
            obtain ⟨i, av', rfl, rfl, hi, hav1, hav2, HAV, HO, HRRy, hby⟩ := hrel
            by_cases hil : i < l.length
            · obtain ⟨b6, o6, rfl, _, hat6⟩ := HL6.out.cases.resolve_left (fun e => by simp [e] at hil)
              obtain ⟨m0, m1, m2, hmf⟩ := cel_at hat6 hby hil
              have hi0 : (0 : Int) ≤ (i : Int) := by omega
              have hi1 : (i : Int) < (l.length : Int) := by omega
              clear hmf hat6 m1
              by_cases hk1' : l[i].k = 1
              · have t58 : (l[i].k == 1) = true := by simp [hk1']
                by_cases hnn : l[i].n = n
                · have t66 : (l[i].n == n) = true := by simp [hnn]
                  have HAN : Hid (((i : Int) = -1 ∧ ∀ j (hj : j < l.length), j < i + 1 → ¬ (l[j].k = 1 ∧ l[j].n = n)) ∨ ∃ (z : Nat) (hz : z < l.length), (i : Int) = z ∧ l[z].k = 1 ∧ l[z].n = n) := .inr ⟨i, hil, rfl, hk1', hnn⟩
                  clear hk1' hnn HAV
                  go_wp2
                  go_round
                  case rel => exact ⟨i + 1, (i : Int), by go_num, rfl, by omega, by omega, by omega, HAN, HO, HRRy, hby⟩
                  case measure => simp [intOf]; omega
                · have t66 : (l[i].n == n) = false := by simp [hnn]
                  have HAN : Hid ((av' = -1 ∧ ∀ j (hj : j < l.length), j < i + 1 → ¬ (l[j].k = 1 ∧ l[j].n = n)) ∨ ∃ (z : Nat) (hz : z < l.length), av' = z ∧ l[z].k = 1 ∧ l[z].n = n) := by
                    rcases HAV.out with ⟨h1, h2⟩ | h
                    · refine .inl ⟨h1, fun j hj hji => ?_⟩
                      by_cases e : j = i
                      · subst e; exact fun h => hnn h.2
                      · exact h2 j hj (by omega)
                    · exact .inr h
                  clear hk1' hnn HAV
                  go_wp2
                  go_round
                  case rel => exact ⟨i + 1, av', by go_num, rfl, by omega, by omega, by omega, HAN, HO, HRRy, hby⟩
                  case measure => simp [intOf]; omega
              · have t58 : (l[i].k == 1) = false := by simp [hk1']
                have HAN : Hid ((av' = -1 ∧ ∀ j (hj : j < l.length), j < i + 1 → ¬ (l[j].k = 1 ∧ l[j].n = n)) ∨ ∃ (z : Nat) (hz : z < l.length), av' = z ∧ l[z].k = 1 ∧ l[z].n = n) := by
                  rcases HAV.out with ⟨h1, h2⟩ | h
                  · refine .inl ⟨h1, fun j hj hji => ?_⟩
                    by_cases e : j = i
                    · subst e; exact fun h => hk1' h.1
                    · exact h2 j hj (by omega)
                  · exact .inr h
                clear hk1' HAV
                go_wp2
                go_round
                case rel => exact ⟨i + 1, av', by go_num, rfl, by omega, by omega, by omega, HAN, HO, HRRy, hby⟩
                case measure => simp [intOf]; omega
            · obtain ⟨z, hzl, rfl, hzk, hzn⟩ : ∃ (z : Nat) (hz : z < l.length), av' = z ∧ l[z].k = 1 ∧ l[z].n = n := by
                rcases HAV.out with ⟨_, h2⟩ | h
                · obtain ⟨j, hj, h3, h4⟩ := HCN.out
                  exact absurd ⟨h3, h4⟩ (h2 j hj (by omega))
                · exact h
              obtain ⟨q, hq'⟩ : ∃ q, F n = q := ⟨_, rfl⟩
              have HFQ := mkHid hq'
              have HTZ : Hid (TT z = q) := by rw [Hid, HTF.out z hzl hzk, hzn]; exact hq'
              clear HAV hzk hzn hq' hav1 hav2
              go_wp2_with fail
              refine (does3_any a6 c6 a7 c7 _ l W (HL6.out.below hby) (HC7.out.below hby) (by omega) hzl).mono ?_
              rintro e1 w10 ⟨rfl, hb10⟩
              have hbz10 := hby.then hb10
              have HO10 := mkHid (HO.out.below hb10)
              have HR10 := mkHid (HRRy.out.keeps (below_hide hb10 _))
              clear HO HRRy
              cases hdo : doesF l W (W z) l.length with
              | none =>
                have hdi : doesI l W (W z) = -1 := by unfold doesI; rw [hdo]
                rw [hdi]
                have hT1 := HTE.out.var z hzl hdo
                rw [HTZ.out] at hT1
                have HT1' := mkHid hT1
                clear hdi hdo hT1
                go_wp2_with fail
                refine (least3_any a6 c6 a7 c7 _ l W (HL6.out.below hbz10) (HC7.out.below hbz10) (by omega) hzl).mono ?_
                rintro e1 w11 ⟨rfl, hb11⟩
                have hbz11 := hbz10.then hb11
                have HOO := mkHid (HO10.out.below hb11)
                have HRR := mkHid (HR10.out.keeps (below_hide hb11 _))
                obtain ⟨m, hm⟩ : ∃ m, leastUp l W (W z) l.length = m := ⟨_, rfl⟩
                have ht1 := HT1'.out
                rw [hm] at ht1 ⊢
                by_cases hmn : m = n
                · have t80 : (m == n) = true := by simp [hmn]
                  have HBT : Hid (bindL F (Rv.take (k + 1)) = bindL F (Rv.take k)) := by
                    rw [Hid, HBC.out]
                    unfold bindC
                    rw [HFQ.out, ht1, hmn]
                    rw [if_pos (show [varC n].head? = some ⟨1, ⟨#[]⟩, n⟩ from rfl), List.append_nil]
                  have HSN : Hid (∀ v ∈ Rv.take (k + 1), (F v).length ≤ 200) := fun v hv => by
                    rw [List.take_succ_eq_append_getElem hkl] at hv
                    rcases List.mem_append.1 hv with h | h
                    · exact HSM.out v h
                    · rw [List.mem_singleton.1 h, HRN.out, HFQ.out, ht1]; simp
                  clear ht1 hm hmn
                  go_wp2_with fail
                  go_round
                  case rel => exact ⟨k + 1, a8, c8, by rw [HBT.out], by go_num, by omega, by rw [HBT.out]; exact HOO, by rw [HBT.out]; exact HRR, HSN, hbz11⟩
                  case measure => simp [intOf]; omega
                · have t80 : (m == n) = false := by simp [hmn]
                  have HNH : Hid (¬ q.head? = some ⟨1, ⟨#[]⟩, n⟩) := by
                    rw [Hid, ht1]
                    intro h
                    have h : varC m = ⟨1, ⟨#[]⟩, n⟩ := by simpa using h
                    exact hmn (congrArg Cel.n h)
                  have hbzz := mkHid hbz11
                  have hbzz2 := mkHid hbz11
                  clear ht1 hm hmn
                  go_wp2_with fail
                  refine (whole3_any a6 c6 a7 c7 _ l W TT (HL6.out.below hbzz.out) (HC7.out.below hbzz.out) HG.out (by omega) HTE.out hzl).mono ?_
                  rintro e1 w12 ⟨a14, c14, rfl, hr14, hb12⟩
                  have hb12' := hbzz2.out.then hb12
                  have HO12 := mkHid (HOO.out.below hb12)
                  have HR12 := mkHid (HRR.out.keeps (below_hide hb12 _))
                  have HX14 := mkHid (HOO.out.newer (Nat.le_refl _) hr14)
                  by_cases hbig : (TT z).length ≤ 200
                  · have HWB : Hid (wholeB TT z = true) := decide_eq_true hbig
                    have HWP : Hid (wholeP TT z = q) := by rw [Hid]; unfold wholeP; rw [if_pos hbig]; exact HTZ.out
                    have hx14 := HX14.out
                    rw [HWP.out] at hx14
                    have HX := mkHid hx14
                    have hq200 : q.length ≤ 200 := by rw [← HTZ.out]; exact hbig
                    have HBT : Hid (bindL F (Rv.take (k + 1)) = bindL F (Rv.take k) ++ [⟨n, q⟩]) := by
                      rw [Hid, HBC.out]
                      unfold bindC
                      rw [HFQ.out, if_neg HNH.out]
                    have hlb : (bindL F (Rv.take k)).length ≤ 400 := by
                      have := bind_le F (Rv.take k)
                      rw [List.length_take] at this; omega
                    have HSN : Hid (∀ v ∈ Rv.take (k + 1), (F v).length ≤ 200) := fun v hv => by
                      rw [List.take_succ_eq_append_getElem hkl] at hv
                      rcases List.mem_append.1 hv with h | h
                      · exact HSM.out v h
                      · rw [List.mem_singleton.1 h, HRN.out, HFQ.out]; exact hq200
                    have hs12 := hb12'.size
                    rw [HWB.out, HWP.out]
                    clear hbig hr14 hx14
                    go_wp2_with (at_builtin; refine wpList_accK (α := Bnd) rfl _ _ 25 rfl WB.heap.size 39 32 _ Try.underlying25 Try.infoBind rfl (by decide) _ (bindL F (Rv.take k)) HO12.out rfl _ #[.int .i64 n, .slice a14 q.length c14] (⟨n, q⟩ : Bnd) ⟨⟨_, _, rfl, HX.out⟩, HNB.out.1, HNB.out.2⟩ rfl (by omega) hs12 ?_; intro v8 w13 hacc8 hb13 hk13)
                    obtain ⟨a18, c18, rfl, _⟩ := hacc8.row
                    have hb13' := hb12'.trans hb13
                    have hrr8 := HR12.out.keeps hk13
                    have hle8 : (bindL F (Rv.take k)).length + 1 = (bindL F (Rv.take (k + 1))).length := by rw [HBT.out, List.length_append]; rfl
                    have HO8 : Hid (AccInv WB.heap.size 39 (bindL F (Rv.take (k + 1))) (.slice a18 (bindL F (Rv.take (k + 1))).length c18) w13) := (by rw [Hid, HBT.out]; exact hacc8)
                    have HRR8 : Hid (Row (hide (Value.slice a18 (bindL F (Rv.take (k + 1))).length c18).ownBlock w13) (some ⟨b9, o9, none⟩) c9 Rv) := (by rw [Hid, HBT.out]; exact hrr8)
                    have HLE8 := mkHid hle8
                    clear hacc8 hrr8 hk13 hb13 hle8
                    first | rw [HLE8.out] | rw [show (bindL F (Rv.take k) ++ [(⟨n, q⟩ : Bnd)]).length = (bindL F (Rv.take (k + 1))).length by rw [HBT.out]]
                    go_round
                    case rel => exact ⟨k + 1, a18, c18, rfl, by go_num, by omega, HO8, HRR8, HSN, hb13'⟩
                    case measure => simp [intOf]; omega
                  · have HWB : Hid (wholeB TT z = false) := decide_eq_false hbig
                    have HWP : Hid (wholeP TT z = []) := by rw [Hid]; unfold wholeP; rw [if_neg hbig]
                    have HE : Hid (M3Post xs ys (.returned (.tuple #[.slice none 0 0, .int .i64 2])) w12) := by
                      have hm : mguL xs ys = some none := by
                        rw [HMG.out, if_pos]
                        rw [List.any_eq_true]
                        refine ⟨n, HNM.out, ?_⟩
                        rw [HFQ.out, ← HTZ.out]
                        simp; omega
                      refine ⟨none, 0, ?_, ?_⟩
                      · rw [hm]; rfl
                      · rw [hm]; exact row_none _
                    rw [HWB.out, HWP.out]
                    clear hbig hr14
                    go_wp2_with fail
                    go_ret2
                    exact ⟨HE.out, hbW.out.then hb12'⟩
              | some y =>
                have hyl := (does_some hdo).1
                have hdi : doesI l W (W z) = (y : Int) := by unfold doesI; rw [hdo]
                rw [hdi]
                have hT1 := HTE.out.cell z hzl y hyl hdo
                obtain ⟨_, _, _, hyk⟩ := does_some hdo
                rw [HTZ.out] at hT1
                have HNH : Hid (¬ q.head? = some ⟨1, ⟨#[]⟩, n⟩) := by
                  rw [Hid, hT1]
                  intro h
                  have h : l[y] = ⟨1, ⟨#[]⟩, n⟩ := by simpa using h
                  exact hyk (by rw [h])
                have hbzz := mkHid hbz10
                have hbzz2 := mkHid hbz10
                have HOO := HO10
                have HRR := HR10
                have t73 : decide ((y : Int) < 0) = false := decide_eq_false (by omega)
                clear hdi hdo hT1 hyk
                go_wp2_with fail
                refine (whole3_any a6 c6 a7 c7 _ l W TT (HL6.out.below hbzz.out) (HC7.out.below hbzz.out) HG.out (by omega) HTE.out hzl).mono ?_
                rintro e1 w12 ⟨a14, c14, rfl, hr14, hb12⟩
                have hb12' := hbzz2.out.then hb12
                have HO12 := mkHid (HOO.out.below hb12)
                have HR12 := mkHid (HRR.out.keeps (below_hide hb12 _))
                have HX14 := mkHid (HOO.out.newer (Nat.le_refl _) hr14)
                by_cases hbig : (TT z).length ≤ 200
                · have HWB : Hid (wholeB TT z = true) := decide_eq_true hbig
                  have HWP : Hid (wholeP TT z = q) := by rw [Hid]; unfold wholeP; rw [if_pos hbig]; exact HTZ.out
                  have hx14 := HX14.out
                  rw [HWP.out] at hx14
                  have HX := mkHid hx14
                  have hq200 : q.length ≤ 200 := by rw [← HTZ.out]; exact hbig
                  have HBT : Hid (bindL F (Rv.take (k + 1)) = bindL F (Rv.take k) ++ [⟨n, q⟩]) := by
                    rw [Hid, HBC.out]
                    unfold bindC
                    rw [HFQ.out, if_neg HNH.out]
                  have hlb : (bindL F (Rv.take k)).length ≤ 400 := by
                    have := bind_le F (Rv.take k)
                    rw [List.length_take] at this; omega
                  have HSN : Hid (∀ v ∈ Rv.take (k + 1), (F v).length ≤ 200) := fun v hv => by
                    rw [List.take_succ_eq_append_getElem hkl] at hv
                    rcases List.mem_append.1 hv with h | h
                    · exact HSM.out v h
                    · rw [List.mem_singleton.1 h, HRN.out, HFQ.out]; exact hq200
                  have hs12 := hb12'.size
                  rw [HWB.out, HWP.out]
                  clear hbig hr14 hx14
                  go_wp2_with (at_builtin; refine wpList_accK (α := Bnd) rfl _ _ 25 rfl WB.heap.size 39 32 _ Try.underlying25 Try.infoBind rfl (by decide) _ (bindL F (Rv.take k)) HO12.out rfl _ #[.int .i64 n, .slice a14 q.length c14] (⟨n, q⟩ : Bnd) ⟨⟨_, _, rfl, HX.out⟩, HNB.out.1, HNB.out.2⟩ rfl (by omega) hs12 ?_; intro v8 w13 hacc8 hb13 hk13)
                  obtain ⟨a18, c18, rfl, _⟩ := hacc8.row
                  have hb13' := hb12'.trans hb13
                  have hrr8 := HR12.out.keeps hk13
                  have hle8 : (bindL F (Rv.take k)).length + 1 = (bindL F (Rv.take (k + 1))).length := by rw [HBT.out, List.length_append]; rfl
                  have HO8 : Hid (AccInv WB.heap.size 39 (bindL F (Rv.take (k + 1))) (.slice a18 (bindL F (Rv.take (k + 1))).length c18) w13) := (by rw [Hid, HBT.out]; exact hacc8)
                  have HRR8 : Hid (Row (hide (Value.slice a18 (bindL F (Rv.take (k + 1))).length c18).ownBlock w13) (some ⟨b9, o9, none⟩) c9 Rv) := (by rw [Hid, HBT.out]; exact hrr8)
                  have HLE8 := mkHid hle8
                  clear hacc8 hrr8 hk13 hb13 hle8
                  first | rw [HLE8.out] | rw [show (bindL F (Rv.take k) ++ [(⟨n, q⟩ : Bnd)]).length = (bindL F (Rv.take (k + 1))).length by rw [HBT.out]]
                  go_round
                  case rel => exact ⟨k + 1, a18, c18, rfl, by go_num, by omega, HO8, HRR8, HSN, hb13'⟩
                  case measure => simp [intOf]; omega
                · have HWB : Hid (wholeB TT z = false) := decide_eq_false hbig
                  have HWP : Hid (wholeP TT z = []) := by rw [Hid]; unfold wholeP; rw [if_neg hbig]
                  have HE : Hid (M3Post xs ys (.returned (.tuple #[.slice none 0 0, .int .i64 2])) w12) := by
                    have hm : mguL xs ys = some none := by
                      rw [HMG.out, if_pos]
                      rw [List.any_eq_true]
                      refine ⟨n, HNM.out, ?_⟩
                      rw [HFQ.out, ← HTZ.out]
                      simp; omega
                    refine ⟨none, 0, ?_, ?_⟩
                    · rw [hm]; rfl
                    · rw [hm]; exact row_none _
                  rw [HWB.out, HWP.out]
                  clear hbig hr14
                  go_wp2_with fail
                  go_ret2
                  exact ⟨HE.out, hbW.out.then hb12'⟩
        · have hall : Rv.take k = Rv := List.take_of_length_le (by omega)
          obtain ⟨a19, c19, e19, hr19⟩ := HO.out.row
          cases e19
          have HE : Hid (M3Post xs ys (.returned (.tuple #[.slice a8 (bindL F (Rv.take k)).length c8, .int .i64 0])) wr) := by
            have hm : mguL xs ys = some (some (bindL F Rv)) := by
              rw [HMG.out, HRVB.out, if_neg]
              rw [Bool.not_eq_true, List.any_eq_false]
              intro v hv
              have := HSM.out v (by rw [hall]; exact hv)
              simp; omega
            refine ⟨a8, c8, ?_, ?_⟩
            · rw [hm, hall]; rfl
            · rw [hm]; rw [hall] at hr19; exact hr19
          clear hall hr19
          go_wp2_with fail
          go_ret2
          exact ⟨HE.out, hbW.out.then hbz⟩
end Go.Proofs.Ytlddglajdcednaa
namespace Go.Proofs.Ytlddglajdcednaa
open Go.RowKit

/-! ### the law: what Mgu, Match and Variant tell is the document's -/
set_option maxHeartbeats 2000000 in
theorem variant3_any {w : World} {a a' : Option Addr} {cap cap' : Nat} {xs ys : List Cel} {b : Bool} (hx : Row w a cap xs) (hy : Row w a' cap' ys) (h1 : 0 < xs.length) (h2 : 0 < ys.length) (hl : xs.length ≤ 200) (hl2 : ys.length ≤ 200) (h : decide (numL xs = numL ys) = b) :
    Calls Try.prog 19 #[.slice a xs.length cap, .slice a' ys.length cap'] w fun e w' => e = .returned (.bool b) ∧ Below w.heap.size w w' := by
  obtain ⟨P, hP⟩ : ∃ P, numL xs = P := ⟨_, rfl⟩
  obtain ⟨Q, hQ⟩ : ∃ Q, numL ys = Q := ⟨_, rfl⟩
  rw [hP, hQ] at h
  have HP := mkHid hP
  have HQ := mkHid hQ
  have HH := mkHid h
  have HX := mkHid hx
  have HY := mkHid hy
  clear hP hQ h hx hy
  go_enter Try.func19, Try.ntmps19
  go_wp2_with fail
  refine (unumber HX.out hl h1 HP.out).mono ?_
  rintro e w1 ⟨a1, c1, rfl, hr1, hb1⟩
  have HR1 := mkHid hr1
  clear hr1
  go_wp2_with fail
  refine (unumber (HY.out.below hb1) hl2 h2 HQ.out).mono ?_
  rintro e w2 ⟨a2, c2, rfl, hr2, hb2⟩
  have HR2 := mkHid hr2
  have hb02 := hb1.then hb2
  clear hr2
  go_wp2_with fail
  refine (usame1 (HR1.out.below hb2) HR2.out HH.out).mono ?_
  rintro e w3 ⟨rfl, hb3⟩
  have hb03 := hb02.then hb3
  go_wp2_with fail
  go_ret
  exact ⟨rfl, hb03⟩

set_option maxRecDepth 100000 in
set_option maxHeartbeats 8000000 in
theorem lawTells_any (w : World) (xs ys : List Cel) (a : Option Addr) (cap : Nat) (a' : Option Addr) (cap' : Nat) (hx : Row w a cap xs) (hy : Row w a' cap' ys) :
    Calls Try.prog 3 #[.slice a xs.length cap, .slice a' ys.length cap'] w fun e w' => e = .returned (.bool true) ∧ Below w.heap.size w w' := by
  have HX := mkHid hx
  have HY := mkHid hy
  clear hx hy
  go_enter Try.func3, Try.ntmps3
  go_wp2_with fail
  refine (head_any _).mono ?_
  rintro e w1 ⟨rfl, hb1⟩
  go_wp2_with fail
  refine (umade (HX.out.below hb1) (by omega) (by omega)).mono ?_
  rintro e w2 ⟨a2, c2, p, rfl, hp, rp, p0, lp, hb2⟩
  have hb02 := hb1.then hb2
  go_wp2_with fail
  refine (umade (HY.out.below hb02) (by omega) (by omega)).mono ?_
  rintro e w3 ⟨a3, c3, q, rfl, hq, rq, q0, lq, hb3⟩
  have hb03 := hb02.then hb3
  have HP := mkHid (hp.below hb3)
  have HQ := mkHid hq
  have HRP := mkHid rp
  have HRQ := mkHid rq
  obtain ⟨LS, hLS⟩ : ∃ L, ansL (mguL p q) = L := ⟨_, rfl⟩
  obtain ⟨ES, hES⟩ : ∃ L, ansE (mguL p q) = L := ⟨_, rfl⟩
  obtain ⟨LM, hLM⟩ : ∃ L, matchL p q = L := ⟨_, rfl⟩
  obtain ⟨bM, hbM⟩ : ∃ L, matchB p q = L := ⟨_, rfl⟩
  obtain ⟨bV, hbV⟩ : ∃ L, decide (numL p = numL q) = L := ⟨_, rfl⟩
  have HLS := mkHid hLS
  have HES := mkHid hES
  have HLM := mkHid hLM
  have HBM := mkHid hbM
  have HBV := mkHid hbV
  clear hp hq rp rq hLS hES hLM hbM hbV
  go_wp2_with fail
  refine (umgu HP.out HQ.out HRP.out HRQ.out HLS.out HES.out).mono ?_
  rintro e w4 ⟨a4, c4, rfl, hx4, hb4⟩
  have HX4 := mkHid hx4
  have hb04 := mkHid (hb03.then hb4)
  have hb34 := mkHid hb4
  clear hx4 hb4
  go_wp2_with fail
  refine (mgu3_any a2 c2 a3 c3 _ p q (HP.out.below hb34.out) (HQ.out.below hb34.out) HRP.out HRQ.out).mono ?_
  rintro e w5 ⟨⟨a5, c5, rfl, hx5⟩, hb5⟩
  rw [HLS.out] at hx5
  rw [HLS.out, HES.out]
  have HX5 := mkHid hx5
  have HX45 := mkHid (HX4.out.below hb5)
  have hb05 := mkHid (hb04.out.then hb5)
  have hb35 := mkHid (hb34.out.then hb5)
  clear hx5 hb5
  go_wp2_with fail
  refine (umatch (HP.out.below hb35.out) (HQ.out.below hb35.out) HRP.out HRQ.out HLM.out HBM.out).mono ?_
  rintro e w6 ⟨a6, c6, rfl, hx6, hb6⟩
  have HX6 := mkHid hx6
  have hb06 := mkHid (hb05.out.then hb6)
  have hb36 := mkHid (hb35.out.then hb6)
  have hb56 := mkHid hb6
  clear hx6 hb6
  go_wp2_with fail
  refine (match3_any a2 c2 a3 c3 _ p q (HP.out.below hb36.out) (HQ.out.below hb36.out) HRP.out HRQ.out).mono ?_
  rintro e w7 ⟨⟨a7, c7, rfl, hx7⟩, hb7⟩
  rw [HLM.out] at hx7
  rw [HLM.out, HBM.out]
  have HX7 := mkHid hx7
  have HX67 := mkHid (HX6.out.below hb7)
  have hb07 := mkHid (hb06.out.then hb7)
  have hb37 := mkHid (hb36.out.then hb7)
  have hb57 := mkHid (hb56.out.then hb7)
  clear hx7 hb7
  go_wp2_with fail
  refine (usame3 (b := true) (HX45.out.below hb57.out) (HX5.out.below hb57.out) (by simp)).mono ?_
  rintro e w8 ⟨rfl, hb8⟩
  have hb08 := mkHid (hb07.out.then hb8)
  have hb38 := mkHid (hb37.out.then hb8)
  have HX68 := mkHid (HX67.out.below hb8)
  have HX78 := mkHid (HX7.out.below hb8)
  clear hb8
  go_wp2_with fail
  refine (usame3 (b := true) HX68.out HX78.out (by simp)).mono ?_
  rintro e w9 ⟨rfl, hb9⟩
  have hb09 := mkHid (hb08.out.then hb9)
  have hb39 := mkHid (hb38.out.then hb9)
  clear hb9
  go_wp2_with fail
  refine (uvariant (HP.out.below hb39.out) (HQ.out.below hb39.out) p0 q0 (by omega) (by omega) HBV.out).mono ?_
  rintro e w10 ⟨rfl, hb10⟩
  have hb010 := mkHid (hb09.out.then hb10)
  have hb310 := mkHid (hb39.out.then hb10)
  clear hb10
  go_wp2_with fail
  refine (variant3_any (HP.out.below hb310.out) (HQ.out.below hb310.out) p0 q0 (by omega) (by omega) HBV.out).mono ?_
  rintro e w11 ⟨rfl, hb11⟩
  have hb011 := mkHid (hb010.out.then hb11)
  clear hb11
  go_wp2_with fail
  go_ret
  refine ⟨ret_bool ?_, hb011.out⟩
  simp
end Go.Proofs.Ytlddglajdcednaa
namespace Go.Proofs.Ytlddglajdcednaa
open Go.RowKit Go.ChangeShapes Go.WideShapes Go.ChangeAt
open Go.ChangeMaps (open_string)

set_option maxRecDepth 100000 in
set_option maxHeartbeats 1000000 in
theorem UnifyTells_lifted (os : Os) (started : os.Started) (H : Type) (enc : TypeId × Value → H) :
    ReturnsInHanded {} Try.checked os 3 .any (Rows.unifyTellsSpec.pre6 enc Try.prog Try.f3 Rows.unifyTellsRow.domain false) (Rows.unifyTellsSpec.post enc Try.prog Try.f3 false true false false) := by
  refine returnsInHanded_of_change (C := Try.checked) Try.own started (by kernel_rfl) Try.func3
    (ChangeSpec.witness6 (enc := enc) (C := Try.checked) false ⟨#[], #[.slice none 0 0, .slice none 0 0], []⟩ 8 (by kernel_rfl) (by kernel_rfl) (by kernel_rfl) (by kernel_rfl)) ?_
  intro W base args ds gs before hval0 hW hcnd _
  have hval : ∀ (j : Nat) t v, Try.f3.params[j]? = some t → args[j]? = some v → Value.okWide Try.prog W .any base t v := hval0
  have hW' := hW
  obtain ⟨p, q, hA0, hV, rfl, hfz, hnd⟩ := hW
  have hA : DataW.TrodAll enc Try.prog W 0 (fun _ => true) true Try.f3.params.toList args.toList ds p := hA0
  rw [Try.params3] at hA hval
  obtain ⟨v0, vs0, d0, ds0, p0, q0, hargs, rfl, rfl, h0, r0⟩ := trodAll_cons hA
  obtain ⟨v1, vs1, d1, ds1, p1, q1, rfl, rfl, rfl, h1, r1⟩ := trodAll_cons r0
  obtain ⟨rfl, rfl, rfl⟩ := trodAll_nil r1
  obtain rfl : args = #[v0, v1] := by cases args; simp_all
  obtain ⟨rfl, rfl⟩ := trodVars_none hV
  have k0 := h0
  have lt0 : ∀ x ∈ p0, x.block < W.heap.size := by obtain ⟨m, hm⟩ := k0; exact DataW.trod_lt m _ _ _ hm
  obtain ⟨a0, len0, cap0, rfl⟩ := okWide_slice Try.underlying22 (hval 0 22 v0 rfl rfl)
  obtain ⟨xs0, rfl, hr0⟩ : ∃ xs : List Cel, xs.length = len0 ∧ Row W a0 cap0 xs := by
    obtain ⟨fuel, hf⟩ := h0
    exact open_cells hf
  have k1 := h1
  have lt1 : ∀ x ∈ p1, x.block < W.heap.size := by obtain ⟨m, hm⟩ := k1; exact DataW.trod_lt m _ _ _ hm
  obtain ⟨a1, len1, cap1, rfl⟩ := okWide_slice Try.underlying22 (hval 1 22 v1 rfl rfl)
  obtain ⟨xs1, rfl, hr1⟩ : ∃ xs : List Cel, xs.length = len1 ∧ Row W a1 cap1 xs := by
    obtain ⟨fuel, hf⟩ := h1
    exact open_cells hf
  clear hA0 hval0
  refine (lawTells_any W xs0 xs1 a0 cap0 a1 cap1 hr0 hr1).mono fun e W' ⟨he, bel⟩ => ?_
  subst he
  exact ⟨_, rfl, _, _, _, [], _, [], hW', trodAll_mk1 (shut_bool Try.underlying4 _), (trodAll_cons_mk (Below.trod Try.laidOut (by kernel_rfl) (of_decide_eq_true (by kernel_rfl)) k0 bel lt0) (trodAll_cons_mk (Below.trod Try.laidOut (by kernel_rfl) (of_decide_eq_true (by kernel_rfl)) k1 bel lt1) trodAll_mk0)), rfl, bel.frame _, fun h => by cases h⟩

theorem UnifyTells_over : Rows.unifyTellsRow.holds Try.pinned (OpenSpec.ofChange Rows.unifyTellsSpec) :=
  OpenClaim.holds_of_wide 3 Try.f3 rfl rfl rfl rfl rfl rfl rfl ⟨rfl, rfl, rfl, rfl, rfl⟩ rfl rfl rfl rfl rfl (by kernel_rfl) Try.func3 (by kernel_rfl)
    (of_decide_eq_true (by kernel_rfl)) (by unfold Func.isWrapper; first | (rw [if_pos (by decide +kernel)]; kernel_rfl) | (rw [if_neg (by decide +kernel)]; exact ⟨rfl, rfl⟩))
    (fun os started H enc _ => UnifyTells_lifted os started H enc)

theorem UnifyTells_holds : Rows.UnifyTellsSaid := UnifyTells_over
end Go.Proofs.Ytlddglajdcednaa
